/-
  The law Pretties returns true at every text: the row's card.
-/
import Derived.Test.YtfocepfmpnpaiaaGreatDoorYt1
import Derived.Test.YtfocepfmpnpaiaaGreatDoorYi2
import Derived.Test.YtfocepfmpnpaiaaGreatDoorHead
import Derived.Test.YtfocepfmpnpaiaaGreatDoorOver
set_option linter.all false
namespace Go.Proofs.YtfocepfmpnpaiaaGreatDoor
open Go.RowKit

theorem digits_at {l : List UInt8} {n : Int} (h : Tryz.digitsVal l = some n) : Lib.parseIntB 64 l = .ok n ∧ l.length ≤ 18 := by
  cases l with
  | nil => cases h
  | cons c r =>
    simp only [Tryz.digitsVal] at h
    split at h
    · rename_i hc
      simp only [Option.some.injEq] at h
      subst h
      exact ⟨head.int_digits (c :: r) (by simp) hc.1 hc.2, hc.1⟩
    · cases h

theorem pretties_int : Tryz.ParsesInt := fun s n w h => head.parse_ok s n w (by have := (digits_at h).2; have e : s.data.toList.length = s.size := rfl; omega) (digits_at h).1
theorem pretties_rune : Tryz.AppendsRune := fun B n r sv xs w h0 h1 ho hB hl => head.rune_ok B n r sv xs w h0 h1 ho hB hl
theorem pretties_app : Tryz.AppendsIntY := fun B n i sv xs w h0 h1 ho hB hl ht => (head.app_ok B n i sv xs w h0 h1 ho hB hl ht).mono fun _ _ ⟨v', he, hr, hb, _⟩ => ⟨v', he, hr, hb⟩
theorem pretties_itoa : Tryz.ItoaAt := fun n w h0 h1 ht => head.itoa_ok n w h0 h1 ht

theorem pretties_walks : head.Walks := fun s W hL => Tryz.Pretties_ok pretties_int (Tryz.reads_RSt pretties_rune) pretties_app pretties_itoa s W (head.signs_of hL Tryz.signsB (by kernel_rfl) (by kernel_rfl)) (head.tab_of hL)

theorem pretties_row : Rows.PrettiesSaid := head.over pretties_walks

/-- The card. -/
theorem pretties_card : Rows.PrettiesCardSaid := head.card pretties_row
#print axioms pretties_card
end Go.Proofs.YtfocepfmpnpaiaaGreatDoor
