/-
  The row and its card, from the walk: whoever shows that the law returns true wherever the variables lie as the program's text lays them has the card.
-/
import Derived.Test.YtbhajhlhgbnhbaaGreatDoorCaseA
import Derived.Test.YtbhajhlhgbnhbaaGreatDoorCaseC
import Derived.Test.YtbhajhlhgbnhbaaGreatDoorFacts
import Derived.Test.YtbhajhlhgbnhbaaGreatDoorCards
import Derived.Test.YtbhajhlhgbnhbaaGreatDoorTie
import Derived.SevenTiedAt
import Derived.JoinedCond
set_option linter.all false
namespace Go.Proofs.YtbhajhlhgbnhbaaGreatDoor.head
open Go.ChangeShapes Go.WideShapes Go.ChangeAt Go.RowKit

theorem over (walk : Walks) : Rows.OrderedUptoSaid :=
  OpenClaim.holds_of_cond 3 Tryz.f3 rfl rfl rfl rfl rfl rfl rfl ⟨rfl, rfl, rfl, rfl, rfl⟩ rfl rfl rfl rfl rfl named Tryz.func3 facts inst wrap
    (fun os started H enc _ F => by rw [OpenClaim.pre_eq_preRow]; exact lifted walk os started H enc F)

theorem card (holds : Rows.OrderedUptoSaid) : Rows.OrderedUptoCardSaid :=
  Claim7.holds_tied_plain_at .later [] [.data, .data, .data, .data, .sentinel, .sentinel, .sentinel, .sentinel, .sentinel, .data, .sentinel, .sentinel, .pinned] true (true, "ea87535e655226c532b3a1e60bc88cc5bfdfdb28b58a19b304ba36eba5443369") true holds (fun _ h => by cases h) wf (fun _ h => by cases h) orderedUpto_row_tie rfl ⟨rfl, rfl⟩ mainIs rfl
    (fun f fn hf hfn => by
      obtain rfl : f = 3 := Option.some.inj (named.symm.trans hf) |>.symm
      obtain rfl : fn = Tryz.f3 := (Option.some.inj (Tryz.func3.symm.trans hfn)).symm
      exact ⟨looks, fun j t ht => by
        rw [Tryz.params3] at ht
        have hm : t ∈ [9] := by simpa using Array.mem_of_getElem? ht
        exact (show Tryz.prog.wantsStandIn t = false by simpa using List.all_eq_true.1 stand t hm)⟩)
    goes
end Go.Proofs.YtbhajhlhgbnhbaaGreatDoor.head
