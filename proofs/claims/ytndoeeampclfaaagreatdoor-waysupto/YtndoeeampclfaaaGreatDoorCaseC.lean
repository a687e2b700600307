/-
  The closed facts of the card.
-/
import Derived.Test.YtndoeeampclfaaaGreatDoorRows
import Derived.Test.YtndoeeampclfaaaGreatDoorCards
import Derived.ProofKit
import Derived.SevenTiedAt
set_option linter.all false
namespace Go.Proofs.YtndoeeampclfaaaGreatDoor.head
open Go.ChangeShapes Go.WideShapes Go.ChangeAt Go.RowKit

theorem wf : Rows.waysUptoRow.wfByText (Rows.OpenSpec.upto Rows.waysSpec) = true := by kernel_rfl
theorem mainIs : Tryz.pinned.checked.prog.mainIs = some (true, String.toList "44bd1eb6012313bf0d388a3bd2f3fddc72ed13d0d249a3e9a24f7f11640ef281") := by kernel_rfl
theorem goes : false = Rows.waysUptoRow.goesBy Tryz.pinned.checked.prog := by kernel_rfl
theorem looks : true = Tryz.pinned.checked.prog.looks [] := by kernel_rfl
theorem stand : ([9].all fun u => !Tryz.prog.wantsStandIn u) = true := by kernel_rfl
theorem named : Tryz.prog.funcNamed Rows.waysUptoRow.func = some 3 := by kernel_rfl
theorem inst : Tryz.f3.isInstance Tryz.pinned.checked.prog Rows.waysUptoRow.origin Rows.waysUptoRow.targs := of_decide_eq_true (by kernel_rfl)
theorem wrap : Tryz.f3.isWrapper Tryz.pinned.checked.prog Rows.waysUptoRow.wrapper Rows.waysUptoRow.mainSum := by unfold Func.isWrapper; first | (rw [if_pos (by decide +kernel)]; kernel_rfl) | (rw [if_neg (by decide +kernel)]; exact ⟨rfl, rfl⟩)
end Go.Proofs.YtndoeeampclfaaaGreatDoor.head
