/-
  The law Ways returns true at every text of at most 1048576 values and letters: the second form's card.
-/
import Derived.Test.YtndoeeampclfaaaGreatDoorWr1
import Derived.Test.YtndoeeampclfaaaGreatDoorWp5
import Derived.Test.YtndoeeampclfaaaGreatDoorHead
import Derived.Test.YtndoeeampclfaaaGreatDoorOver
set_option linter.all false
namespace Go.Proofs.YtndoeeampclfaaaGreatDoor
open Go.RowKit Go.Shelf

theorem digits_at {l : List UInt8} {n : Int} (h : Tryz.digitsVal l = some n) : Lib.parseIntB 64 l = .ok n ∧ l.length ≤ 18 := by
  cases l with
  | nil => cases h
  | cons c r =>
    simp only [Tryz.digitsVal] at h
    split at h
    · rename_i hc
      simp only [Option.some.injEq] at h
      subst h
      exact ⟨head.int_digits (c :: r) (by simp) hc.1 hc.2, hc.1⟩
    · cases h

theorem parses_at {W w : World} (hL : laidMet Tryz.prog Rows.waysUptoRow.laid W) (k : Below W.heap.size W w) : Tryz.ParsesAt w := by
  intro s hs
  obtain ⟨a1, hv1⟩ := head.range_of hL
  obtain ⟨a2, hv2⟩ := head.spell_of hL
  have hv1' := var?_below k (show Tryz.prog.globalNamed "strconv.ErrRange" = some 7 by kernel_rfl) (head.lt_var (by kernel_rfl) hv1) hv1
  have hv2' := var?_below k (show Tryz.prog.globalNamed "strconv.ErrSyntax" = some 6 by kernel_rfl) (head.lt_var (by kernel_rfl) hv2) hv2
  cases h : Lib.parseIntB 64 s.data.toList with
  | ok v =>
    have e : Tryz.parsedV s.data.toList = some v := by rw [Tryz.parsedV, h]
    rw [e]
    exact head.parse_ok s v w (by omega) h
  | range =>
    have e : Tryz.parsedV s.data.toList = none := by rw [Tryz.parsedV, h]
    rw [e]
    refine (Any.strconv_ParseInt_10_at64_range_var Tryz.laysC174 s (by omega) h _ _ w hv1').mono ?_
    rintro e w' ⟨N, rfl, _, _, hb⟩
    exact ⟨⟨_, _, _, rfl⟩, hb⟩
  | _ =>
    have e : Tryz.parsedV s.data.toList = none := by rw [Tryz.parsedV, h]
    rw [e]
    refine (Any.strconv_ParseInt_10_at64_syntax_var Tryz.laysC174 s (by omega) h _ _ w hv2').mono ?_
    rintro e w' ⟨N, rfl, _, _, hb⟩
    exact ⟨⟨_, _, _, rfl⟩, hb⟩

theorem ways_asks {W : World} (hL : laidMet Tryz.prog Rows.waysUptoRow.laid W) : Tryz.Asks W where
  cmp := fun a b w => head.cmp_ok a b w
  rune := fun B n r sv xs w h0 h1 ho hB hl => head.rune_ok B n r sv xs w h0 h1 ho hB hl
  int := fun s n w h => head.parse_ok s n w (by have := (digits_at h).2; have e : s.data.toList.length = s.size := rfl; omega) (digits_at h).1
  app := fun B n i sv xs w h0 h1 ho hB hl ht => head.app_ok B n i sv xs w h0 h1 ho hB hl ht
  parse := fun w' k => parses_at hL k
  signs := head.signs_of hL Tryz.signsB (by kernel_rfl) (by kernel_rfl)
  tab := head.tab_of hL

theorem ways_walks : head.Walks := fun s W hs hL => Tryz.Ways_ok (Tryz.sorts_true Tryz.sortL (by rfl) (by rfl)) (ways_asks hL) hs

theorem ways_row : Rows.WaysUptoSaid := head.over ways_walks

/-- The card. -/
theorem ways_card : Rows.WaysUptoCardSaid := head.card ways_row
#print axioms ways_card
end Go.Proofs.YtndoeeampclfaaaGreatDoor
