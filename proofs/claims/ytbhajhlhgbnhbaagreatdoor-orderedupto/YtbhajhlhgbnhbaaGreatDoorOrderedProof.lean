/-
  The law Ordered returns true at every text of at most 1048576 values and letters: the second form's card.
-/
import Derived.Test.YtbhajhlhgbnhbaaGreatDoorOr3
import Derived.Test.YtbhajhlhgbnhbaaGreatDoorWl5
import Derived.Test.YtbhajhlhgbnhbaaGreatDoorHead
import Derived.Test.YtbhajhlhgbnhbaaGreatDoorOver
set_option linter.all false
namespace Go.Proofs.YtbhajhlhgbnhbaaGreatDoor
open Go.RowKit Go.Shelf

theorem digits_at {l : List UInt8} {n : Int} (h : Tryz.digitsVal l = some n) : Lib.parseIntB 64 l = .ok n ∧ l.length ≤ 18 := by
  cases l with
  | nil => cases h
  | cons c r =>
    simp only [Tryz.digitsVal] at h
    split at h
    · rename_i hc
      simp only [Option.some.injEq] at h
      subst h
      exact ⟨head.int_digits (c :: r) (by simp) hc.1 hc.2, hc.1⟩
    · cases h

theorem parses_at {W w : World} (hL : laidMet Tryz.prog Rows.orderedUptoRow.laid W) (hs : ∀ g, g < W.heap.size → w.heap[g]? = W.heap[g]?) : Tryz.ParsesAt w := by
  intro s hz
  obtain ⟨a1, hv1⟩ := head.range_of hL
  obtain ⟨a2, hv2⟩ := head.spell_of hL
  have hv1' := Tryz.same_var (show Tryz.SameOn (· < W.heap.size) W w from fun g hg => hs g hg) (show Tryz.prog.globalNamed "strconv.ErrRange" = some 7 by kernel_rfl) (head.lt_var (by kernel_rfl) hv1) hv1
  have hv2' := Tryz.same_var (show Tryz.SameOn (· < W.heap.size) W w from fun g hg => hs g hg) (show Tryz.prog.globalNamed "strconv.ErrSyntax" = some 6 by kernel_rfl) (head.lt_var (by kernel_rfl) hv2) hv2
  cases h : Lib.parseIntB 64 s.data.toList with
  | ok v =>
    have e : Tryz.parsedV s.data.toList = some v := by rw [Tryz.parsedV, h]
    rw [e]
    exact head.parse_ok s v w (by omega) h
  | range =>
    have e : Tryz.parsedV s.data.toList = none := by rw [Tryz.parsedV, h]
    rw [e]
    refine (Any.strconv_ParseInt_10_at64_range_var Tryz.laysC174 s (by omega) h _ _ w hv1').mono ?_
    rintro e w' ⟨N, rfl, _, _, hb⟩
    exact ⟨⟨_, _, _, rfl⟩, hb⟩
  | _ =>
    have e : Tryz.parsedV s.data.toList = none := by rw [Tryz.parsedV, h]
    rw [e]
    refine (Any.strconv_ParseInt_10_at64_syntax_var Tryz.laysC174 s (by omega) h _ _ w hv2').mono ?_
    rintro e w' ⟨N, rfl, _, _, hb⟩
    exact ⟨⟨_, _, _, rfl⟩, hb⟩

theorem ordered_asks {W w : World} (hL : laidMet Tryz.prog Rows.orderedUptoRow.laid W) (hs : ∀ g, g < W.heap.size → w.heap[g]? = W.heap[g]?) (hl : W.heap.size ≤ w.heap.size) : Tryz.Asks w := {
  cmp := fun a b w => head.cmp_ok a b w
  rune := fun B n r sv xs w h0 h1 ho hB hl => head.rune_ok B n r sv xs w h0 h1 ho hB hl
  int := fun s n w h => head.parse_ok s n w (by have := (digits_at h).2; have e : s.data.toList.length = s.size := rfl; omega) (digits_at h).1
  app := fun B n i sv xs w h0 h1 ho hB hl ht => head.app_ok B n i sv xs w h0 h1 ho hB hl ht
  parse := fun w' k => parses_at hL (fun g hg => (k.block g (Nat.lt_of_lt_of_le hg hl)).trans (hs g hg))
  signs := by
    obtain ⟨h1, h2⟩ := head.signs_of hL Tryz.signsB (by kernel_rfl) (by kernel_rfl)
    exact ⟨fun j v hv => (World.cell?_of_block (hs _ h2)).trans (h1 j v hv), Nat.lt_of_lt_of_le h2 hl⟩
  tab := by
    have h := (head.tab_of hL).here
    exact Lib.tabBelow_of_tabIs (Tryz.same_var (show Tryz.SameOn (· < W.heap.size) W w from fun g hg => hs g hg) (show Tryz.prog.globalNamed "internal/strconv.uint64pow10" = some 4 by kernel_rfl) (head.lt_of_var (by kernel_rfl) h) h) }
theorem tabs_at {W w : World} (hL : laidMet Tryz.prog Rows.orderedUptoRow.laid W) (hs : ∀ g, g < W.heap.size → w.heap[g]? = W.heap[g]?) : Lib.Utf8Tabs 12 13 w := by
  have h := head.tabs_of hL
  have low : ∀ {a : Addr} {v : Value}, W.cell? a = some v → w.cell? a = some v := fun {a v} e => (World.cell?_of_block (hs a.block (by
    rcases Nat.lt_or_ge a.block W.heap.size with h | h
    · exact h
    · simp [World.cell?, Array.getElem?_eq_none h] at e))).trans e
  exact ⟨fun c hc => low (h.1 c hc), fun i hi => ⟨low (h.2 i hi).1, low (h.2 i hi).2⟩⟩
theorem ordered_all {W : World} (hL : laidMet Tryz.prog Rows.orderedUptoRow.laid W) : Tryz.AsksO W := {
  asks := fun w hs hl => ordered_asks hL (fun g hg => hs g hg) hl
  dec := fun w hs hl s => head.dec_ok (tabs_at hL (fun g hg => hs g hg)) s
  join := fun bk c xs sep w h1 h2 h3 h4 h5 => head.join_of bk c xs sep w h1 h2 h3 h4 h5
  sorts := Tryz.sorts_v (fun a b w => head.cmp_ok a b w) Tryz.sortL (by rfl) (by rfl)
  nought := Tryz.len_nought Tryz.sortL (by rfl) }

theorem ordered_walks : head.Walks := fun s W hs hL => Tryz.Ordered_ok (ordered_all hL) hs

theorem ordered_row : Rows.OrderedUptoSaid := head.over ordered_walks

/-- The card. -/
theorem ordered_card : Rows.OrderedUptoCardSaid := head.card ordered_row
#print axioms ordered_card
end Go.Proofs.YtbhajhlhgbnhbaaGreatDoor
