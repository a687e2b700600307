/-
  The row and its card, from the walk: whoever shows that the law returns true wherever the variables lie as the program's text lays them has the card.
-/
import Derived.Test.YtfocepfmpnpaiaaGreatDoorCaseA
import Derived.Test.YtfocepfmpnpaiaaGreatDoorCaseC
import Derived.Test.YtfocepfmpnpaiaaGreatDoorFacts
import Derived.Test.YtfocepfmpnpaiaaGreatDoorCards
import Derived.Test.YtfocepfmpnpaiaaGreatDoorTie
import Derived.SevenTiedAt
set_option linter.all false
namespace Go.Proofs.YtfocepfmpnpaiaaGreatDoor.head
open Go.ChangeShapes Go.WideShapes Go.ChangeAt Go.RowKit

theorem over (walk : Walks) : Rows.PrettiesSaid :=
  OpenClaim.holds_of_wide 3 Tryz.f3 rfl rfl rfl rfl rfl rfl rfl ⟨rfl, rfl, rfl, rfl, rfl⟩ rfl rfl rfl rfl rfl named Tryz.func3 facts inst wrap
    (fun os started H enc _ => lifted walk os started H enc)

theorem card (holds : Rows.PrettiesSaid) : Rows.PrettiesCardSaid :=
  Claim7.holds_tied_plain_at .later [] [.data, .data, .data, .sentinel, .sentinel, .data] true (true, "b1145eee07c057e7cc37c70484cbc223e8c30c9c163409ab04fbafa69f35b8cb") true holds (fun _ h => by cases h) wf (fun _ h => by cases h) pretties_row_tie rfl ⟨rfl, rfl⟩ mainIs rfl
    (fun f fn hf hfn => by
      obtain rfl : f = 3 := Option.some.inj (named.symm.trans hf) |>.symm
      obtain rfl : fn = Tryz.f3 := (Option.some.inj (Tryz.func3.symm.trans hfn)).symm
      exact ⟨looks, fun j t ht => by
        rw [Tryz.params3] at ht
        have hm : t ∈ [9] := by simpa using Array.mem_of_getElem? ht
        exact (show Tryz.prog.wantsStandIn t = false by simpa using List.all_eq_true.1 stand t hm)⟩)
    goes
end Go.Proofs.YtfocepfmpnpaiaaGreatDoor.head
