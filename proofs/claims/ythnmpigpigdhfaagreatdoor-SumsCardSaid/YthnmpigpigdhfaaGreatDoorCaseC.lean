/-
  The closed facts of the card.
-/
import Derived.Test.YthnmpigpigdhfaaGreatDoorRows
import Derived.Test.YthnmpigpigdhfaaGreatDoorCards
import Derived.ProofKit
import Derived.SevenTiedAt
set_option linter.all false
namespace Go.Proofs.YthnmpigpigdhfaaGreatDoor.head
open Go.ChangeShapes Go.WideShapes Go.ChangeAt Go.RowKit

theorem wf : Rows.sumsRow.wfByText (OpenSpec.ofChange Rows.sumsSpec) = true := by kernel_rfl
theorem mainIs : Tryz.pinned.checked.prog.mainIs = some (true, String.toList "fa90c7e6d66f763075eca5210f35b8b2ffd3ac128c01864171c3294cd823c2b2") := by kernel_rfl
theorem goes : false = Rows.sumsRow.goesBy Tryz.pinned.checked.prog := by kernel_rfl
theorem looks : true = Tryz.pinned.checked.prog.looks [] := by kernel_rfl
theorem stand : ([3, 3].all fun u => !Tryz.prog.wantsStandIn u) = true := by kernel_rfl
theorem named : Tryz.prog.funcNamed Rows.sumsRow.func = some 3 := by kernel_rfl
theorem inst : Tryz.f3.isInstance Tryz.pinned.checked.prog Rows.sumsRow.origin Rows.sumsRow.targs := of_decide_eq_true (by kernel_rfl)
theorem wrap : Tryz.f3.isWrapper Tryz.pinned.checked.prog Rows.sumsRow.wrapper Rows.sumsRow.mainSum := by unfold Func.isWrapper; first | (rw [if_pos (by decide +kernel)]; kernel_rfl) | (rw [if_neg (by decide +kernel)]; exact ⟨rfl, rfl⟩)
end Go.Proofs.YthnmpigpigdhfaaGreatDoor.head
