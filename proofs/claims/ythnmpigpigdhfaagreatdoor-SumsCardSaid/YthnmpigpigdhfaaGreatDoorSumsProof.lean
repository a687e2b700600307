/-
  The law Sums returns true at every two numbers: the row's card.
-/
import Derived.Test.YthnmpigpigdhfaaGreatDoorLaw6
import Derived.Test.YthnmpigpigdhfaaGreatDoorHead
import Derived.Test.YthnmpigpigdhfaaGreatDoorOver
set_option linter.all false
namespace Go.Proofs.YthnmpigpigdhfaaGreatDoor
open Go.RowKit

theorem digits_at {l : List UInt8} {n : Int} (h : Tryz.digitsVal l = some n) : Lib.parseIntB 64 l = .ok n ∧ l.length ≤ 18 := by
  cases l with
  | nil => cases h
  | cons c r =>
    simp only [Tryz.digitsVal] at h
    split at h
    · rename_i hc
      simp only [Option.some.injEq] at h
      subst h
      exact ⟨head.int_digits (c :: r) (by simp) hc.1 hc.2, hc.1⟩
    · cases h

theorem sums_shelf : Tryz.Shelf where
  all := fun s v w hs h => head.parse_ok s v w (by omega) h
  int := fun s n w h => head.parse_ok s n w (by have := (digits_at h).2; have e : s.data.toList.length = s.size := rfl; omega) (digits_at h).1
  app := fun B n i sv xs w h0 h1 ho hB hl ht => head.app_ok B n i sv xs w h0 h1 ho hB hl ht
  itoa := fun n w h0 h1 ht => head.itoa_ok n w h0 h1 ht

theorem sums_laid {W : World} (hL : laidMet Tryz.prog Rows.sumsRow.laid W) : Tryz.Laid W where
  signs := head.signs_of hL Tryz.signsB (by kernel_rfl) (by kernel_rfl)
  tab := head.tab_of hL
  over := head.over_of hL
  zero := head.zero_of hL

theorem sums_walks : head.Walks := fun a b W ha hb hL => Tryz.Sums_ok sums_shelf (sums_laid hL) ha hb

theorem sums_row : Rows.SumsSaid := head.over sums_walks

/-- The card. -/
theorem sums_card : Rows.SumsCardSaid := head.card sums_row
#print axioms sums_card
end Go.Proofs.YthnmpigpigdhfaaGreatDoor
