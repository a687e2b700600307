/-
  The closed facts of the card.
-/
import Derived.Test.YtjablghahhhdhaaGreatDoorRows
import Derived.Test.YtjablghahhhdhaaGreatDoorCards
import Derived.ProofKit
import Derived.SevenTiedAt
set_option linter.all false
set_option linter.all false
namespace Go.Proofs.YtjablghahhhdhaaGreatDoor.head
open Go.ChangeShapes Go.WideShapes Go.ChangeAt Go.RowKit

theorem wf : Rows.fixedUptoRow.wfByText (Rows.OpenSpec.upto Rows.fixedSpec) = true := by kernel_rfl
theorem mainIs : Tryz.pinned.checked.prog.mainIs = some (true, String.toList "3bf76ff433bdb98627117151e9fc79dd687a45a26d358f10e43d72d6b3ecb0da") := by kernel_rfl
theorem goes : false = Rows.fixedUptoRow.goesBy Tryz.pinned.checked.prog := by kernel_rfl
theorem looks : true = Tryz.pinned.checked.prog.looks [] := by kernel_rfl
theorem stand : ([9].all fun u => !Tryz.prog.wantsStandIn u) = true := by kernel_rfl
theorem named : Tryz.prog.funcNamed Rows.fixedUptoRow.func = some 3 := by kernel_rfl
theorem inst : Tryz.f3.isInstance Tryz.pinned.checked.prog Rows.fixedUptoRow.origin Rows.fixedUptoRow.targs := of_decide_eq_true (by kernel_rfl)
theorem wrap : Tryz.f3.isWrapper Tryz.pinned.checked.prog Rows.fixedUptoRow.wrapper Rows.fixedUptoRow.mainSum := by unfold Func.isWrapper; first | (rw [if_pos (by decide +kernel)]; kernel_rfl) | (rw [if_neg (by decide +kernel)]; exact ⟨rfl, rfl⟩)
end Go.Proofs.YtjablghahhhdhaaGreatDoor.head
