/-
  The row and its card, from the walk: whoever shows that the law returns true wherever the variables lie as the program's text lays them has the card.
-/
import Derived.Test.YtndoeeampclfaaaGreatDoorCaseA
import Derived.Test.YtndoeeampclfaaaGreatDoorCaseC
import Derived.Test.YtndoeeampclfaaaGreatDoorFacts
import Derived.Test.YtndoeeampclfaaaGreatDoorCards
import Derived.Test.YtndoeeampclfaaaGreatDoorTie
import Derived.SevenTiedAt
import Derived.JoinedCond
set_option linter.all false
namespace Go.Proofs.YtndoeeampclfaaaGreatDoor.head
open Go.ChangeShapes Go.WideShapes Go.ChangeAt Go.RowKit

theorem over (walk : Walks) : Rows.WaysUptoSaid :=
  OpenClaim.holds_of_cond 3 Tryz.f3 rfl rfl rfl rfl rfl rfl rfl ⟨rfl, rfl, rfl, rfl, rfl⟩ rfl rfl rfl rfl rfl named Tryz.func3 facts inst wrap
    (fun os started H enc _ F => by rw [OpenClaim.pre_eq_preRow]; exact lifted walk os started H enc F)

theorem card (holds : Rows.WaysUptoSaid) : Rows.WaysUptoCardSaid :=
  Claim7.holds_tied_plain_at .later [] [.data, .data, .data, .data, .sentinel, .sentinel, .sentinel, .sentinel, .sentinel, .data, .sentinel, .sentinel, .pinned] true (true, "44bd1eb6012313bf0d388a3bd2f3fddc72ed13d0d249a3e9a24f7f11640ef281") true holds (fun _ h => by cases h) wf (fun _ h => by cases h) waysUpto_row_tie rfl ⟨rfl, rfl⟩ mainIs rfl
    (fun f fn hf hfn => by
      obtain rfl : f = 3 := Option.some.inj (named.symm.trans hf) |>.symm
      obtain rfl : fn = Tryz.f3 := (Option.some.inj (Tryz.func3.symm.trans hfn)).symm
      exact ⟨looks, fun j t ht => by
        rw [Tryz.params3] at ht
        have hm : t ∈ [9] := by simpa using Array.mem_of_getElem? ht
        exact (show Tryz.prog.wantsStandIn t = false by simpa using List.all_eq_true.1 stand t hm)⟩)
    goes
end Go.Proofs.YtndoeeampclfaaaGreatDoor.head
