/-
  The closed facts of the card.
-/
import Derived.Test.YtfocepfmpnpaiaaGreatDoorRows
import Derived.Test.YtfocepfmpnpaiaaGreatDoorCards
import Derived.ProofKit
import Derived.SevenTiedAt
set_option linter.all false
namespace Go.Proofs.YtfocepfmpnpaiaaGreatDoor.head
open Go.ChangeShapes Go.WideShapes Go.ChangeAt Go.RowKit

theorem wf : Rows.prettiesRow.wfByText (OpenSpec.ofChange Rows.prettiesSpec) = true := by kernel_rfl
theorem mainIs : Tryz.pinned.checked.prog.mainIs = some (true, String.toList "b1145eee07c057e7cc37c70484cbc223e8c30c9c163409ab04fbafa69f35b8cb") := by kernel_rfl
theorem goes : false = Rows.prettiesRow.goesBy Tryz.pinned.checked.prog := by kernel_rfl
theorem looks : true = Tryz.pinned.checked.prog.looks [] := by kernel_rfl
theorem stand : ([9].all fun u => !Tryz.prog.wantsStandIn u) = true := by kernel_rfl
theorem named : Tryz.prog.funcNamed Rows.prettiesRow.func = some 3 := by kernel_rfl
theorem inst : Tryz.f3.isInstance Tryz.pinned.checked.prog Rows.prettiesRow.origin Rows.prettiesRow.targs := of_decide_eq_true (by kernel_rfl)
theorem wrap : Tryz.f3.isWrapper Tryz.pinned.checked.prog Rows.prettiesRow.wrapper Rows.prettiesRow.mainSum := by unfold Func.isWrapper; first | (rw [if_pos (by decide +kernel)]; kernel_rfl) | (rw [if_neg (by decide +kernel)]; exact ⟨rfl, rfl⟩)
end Go.Proofs.YtfocepfmpnpaiaaGreatDoor.head
