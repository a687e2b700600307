/-
  The closed facts of the card.
-/
import Derived.Test.YtbhajhlhgbnhbaaGreatDoorRows
import Derived.Test.YtbhajhlhgbnhbaaGreatDoorCards
import Derived.ProofKit
import Derived.SevenTiedAt
set_option linter.all false
namespace Go.Proofs.YtbhajhlhgbnhbaaGreatDoor.head
open Go.ChangeShapes Go.WideShapes Go.ChangeAt Go.RowKit

theorem wf : Rows.orderedUptoRow.wfByText (Rows.OpenSpec.upto Rows.orderedSpec) = true := by kernel_rfl
theorem mainIs : Tryz.pinned.checked.prog.mainIs = some (true, String.toList "ea87535e655226c532b3a1e60bc88cc5bfdfdb28b58a19b304ba36eba5443369") := by kernel_rfl
theorem goes : false = Rows.orderedUptoRow.goesBy Tryz.pinned.checked.prog := by kernel_rfl
theorem looks : true = Tryz.pinned.checked.prog.looks [] := by kernel_rfl
theorem stand : ([9].all fun u => !Tryz.prog.wantsStandIn u) = true := by kernel_rfl
theorem named : Tryz.prog.funcNamed Rows.orderedUptoRow.func = some 3 := by kernel_rfl
theorem inst : Tryz.f3.isInstance Tryz.pinned.checked.prog Rows.orderedUptoRow.origin Rows.orderedUptoRow.targs := of_decide_eq_true (by kernel_rfl)
theorem wrap : Tryz.f3.isWrapper Tryz.pinned.checked.prog Rows.orderedUptoRow.wrapper Rows.orderedUptoRow.mainSum := by unfold Func.isWrapper; first | (rw [if_pos (by decide +kernel)]; kernel_rfl) | (rw [if_neg (by decide +kernel)]; exact ⟨rfl, rfl⟩)
end Go.Proofs.YtbhajhlhgbnhbaaGreatDoor.head
