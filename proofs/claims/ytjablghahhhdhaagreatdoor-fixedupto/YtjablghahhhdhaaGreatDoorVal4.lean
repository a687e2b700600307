import Derived.Test.YtjablghahhhdhaaGreatDoorVal1
import Derived.Test.YtjablghahhhdhaaGreatDoorVal3
import Derived.Test.YtjablghahhhdhaaGreatDoorStr1
import Derived.Test.YtjablghahhhdhaaGreatDoorCanon3
import Derived.Deep.RegionLaw
import Derived.Lib.ParseIntB
import Derived.Deep.LoopGhost
set_option linter.all false
namespace Go.Proofs.Tryz
open Go.RowKit
set_option maxRecDepth 10000

theorem Fr.of_grownBy {w w' : World} {r : Option Nat} {D : Nat → Prop} (h : w.grownBy w' r) (hD : ∀ k, some k = r → D k) : Fr D w w' :=
  ⟨h.os, h.tape, h.output, h.size, fun k hk hd => h.block k hk (fun e => hd (hD k e))⟩

set_option maxHeartbeats 2000000 in
theorem begin_bool2 {w : World} {B W : Nat} {out : List UInt8} {pv ov : Value} (b : Bool) (hlt : W < B) (hle : B ≤ w.heap.size) (hb : w.heap[W]? = some (.cells #[ov, pv] 53 (0, 0))) (hown : w.ownsRow B 5 1 ov out.length (Lib.byteCells out)) (ho : out.length ≤ 1000) :
    Calls Tryz.prog 13 #[.pointer (some ⟨W, 0, none⟩), .iface 96 (.bool b)] w fun e w' => e = .returned (.tuple #[]) ∧ (∃ ov', w'.heap[W]? = some (.cells #[ov', pv] 53 (0, 0)) ∧ w'.ownsRow B 5 1 ov' (out.length + (boolB b).length) (Lib.byteCells out ++ Lib.byteCells (boolB b))) ∧ Fr (fun k => k = W ∨ some k = ov.ownBlock) w w' := by
  obtain ⟨c0, c1, c2, c3, c4⟩ := two_c0 hb
  obtain ⟨oa, ol, oc, rfl⟩ := owns_shape hown
  have m0 := missVNull; have m1 := missVNumber; have m2 := missVString; have m3 := missVArray; have m4 := missVObject; have m5 := hitVBool
  go_enter Tryz.func13, Tryz.ntmps13
  go_wp2_with (go_at_call 31; refine (AppendBool_ok b hown hle ho).mono ?_; rintro e w1 ⟨v', rfl, hown1, k1, g1⟩; obtain ⟨a', l', c', rfl⟩ := owns_shape hown1; obtain ⟨d0, d1, d2, d3, d4⟩ := two_c0 ((k1.block W hlt).trans hb))
  go_end0
  exact ⟨rfl, ⟨_, two_set0 ((k1.block W hlt).trans hb), owns_off hown1 hlt⟩, (Fr.of_grownBy g1 (fun k e => .inr e)).setCell _ (.inl (.inl rfl))⟩

/-- The writer at block W has written out, and an array with these items stands open, i of them written. -/
structure WrA (w : World) (B W : Nat) (out : List UInt8) (items : Value) (i : Int) : Prop where
  lt : W < B
  le : B ≤ w.heap.size
  has : ∃ ov g cap cs, w.heap[W]? = some (.cells #[ov, .slice (some ⟨g, 0, none⟩) 1 cap] 53 (0, 0)) ∧ w.ownsRow B 5 1 ov out.length (Lib.byteCells out) ∧ B ≤ g ∧ 1 ≤ cap ∧ cap ≤ maxLen ∧ w.heap[g]? = some (.cells cs 104 (0, 0)) ∧
    cs[0]? = some (.int .u8 93) ∧ cs[1]? = some items ∧ cs[2]? = some (.slice none 0 0) ∧ cs[3]? = some (.int .i64 i)

theorem heap_news (a : World) (o : Obj) {n : Nat} (h : a.heap.size = n) : (a.alloc o).heap[n]? = some o := by subst h; exact heap_new a o

set_option maxHeartbeats 2000000 in
theorem begin_arr {w : World} {B W : Nat} {out : List UInt8} {g n c : Nat} (h : Wr w B W out (.slice none 0 0)) (ho : out.length ≤ 1000) :
    Calls Tryz.prog 13 #[.pointer (some ⟨W, 0, none⟩), arrV g n c] w fun e w' => e = .returned (.tuple #[]) ∧ WrA w' B W (out ++ [91]) (.slice (some ⟨g, 0, none⟩) n c) 0 ∧ Wrote B W w w' := by
  obtain ⟨hlt, hle, ov, hb, hown⟩ := h
  obtain ⟨i0, hi0, hz0, hz1, hz2⟩ := info_parts (show (Tryz.prog.info? 5).map (fun i => (i.zero, i.size, i.bytes)) = some (some (.int .u8 0), 1, 1) by kernel_rfl)
  obtain ⟨j0, hj0, hy0, hy1, hy2⟩ := info_parts (show (Tryz.prog.info? 104).map (fun i => (i.zero, i.size, i.bytes)) = some (some (.agg #[.int .u8 0, .slice none 0 0, .slice none 0 0, .int .i64 0]), 4, 64) by kernel_rfl)
  obtain ⟨c0, c1, c2, c3, c4⟩ := two_c0 hb
  obtain ⟨oa, ol, oc, rfl⟩ := owns_shape hown
  have m0 := missVNull; have m1 := missVNumber; have m2 := missVString; have m3 := hitVArray; have m4 := missVObject; have m5 := missVBool
  go_enter Tryz.func13, Tryz.ntmps13
  go_wp2_with (first
    | (refine wpList_append_lies _ (by rfl) _ _ _ (by rfl) B 5 i0 _ 1 1 Tryz.underlying50 hi0 hz0 hz1 hz2 rfl (by omega) _ out.length (Lib.byteCells out) (by rfl) (hown.alloc _) ⟨w.heap.size, 0, none⟩ 1 1 [.int .u8 91] (by rfl) (by rfl) (World.news_of_block (cs := #[.int .u8 91]) (t := 5) (fr := (0, 0)) (heap_new w _)) (by simp [Value.oneCell']) (by omega) (by unfold maxLen; omega) (by omega) (by simp; omega) (w.heap.size + 1) (by simp) ?_; intro g1 cap1 w1 hown1 hgrow1 hat1 hlt1; have hb1 := (hgrow1.block W (by simp; omega) (fun e => by have := (hown.lt W e.symm).1; omega)).trans (((below_alloc w _).block W (by omega)).trans hb); obtain ⟨d0, d1, d2, d3, d4⟩ := two_c0 hb1)
    | (refine wpList_append_lies _ (by rfl) _ _ _ (by rfl) B 104 j0 _ 4 64 Tryz.underlying51 hj0 hy0 hy1 hy2 rfl (by omega) _ 0 [] (by rfl) (World.ownsRow_nil _ _ _ _) ⟨w1.heap.size, 0, none⟩ 1 1 [.int .u8 93, .slice (some ⟨g, 0, none⟩) n c, .slice none 0 0, .int .i64 0] (by rfl) (by rfl) (World.news_of_block (cs := #[.int .u8 93, .slice (some ⟨g, 0, none⟩) n c, .slice none 0 0, .int .i64 0]) (t := 104) (fr := (0, 0)) (heap_news _ _ (by simp))) (by simp [Value.oneCell']) (by omega) (by unfold maxLen; omega) (by omega) (by have := hgrow1.size; simp at this ⊢; omega) (w1.heap.size + 1) (by simp) ?_; intro g2 cap2 w2 hown2 hgrow2 hat2 hlt2; have hb2 := (hgrow2.block W (by have := hgrow1.size; simp at this ⊢; omega) (by simp [Value.ownBlock])).trans (((below_alloc _ _).block W (by simpa using d4)).trans (two_set0 (u := .slice (some ⟨g1, 0, none⟩) (out.length + 1) cap1) hb1)); obtain ⟨f0, f1, f2, f3, f4⟩ := two_c0 hb2))
  go_end0
  have hg1 := hgrow1.size
  simp at hg1
  have hg2 := hgrow2.size
  simp at hg2
  obtain ⟨_, hh | ⟨g', c', cur, hv, hg, hbk, hn2, hcap, hsz, htk⟩⟩ := hown2
  · cases hh.1
  cases hv
  have hf1 : Fr (fun k => k = W ∨ B ≤ k) w w1 := ((Fr.refl _ w).alloc _).trans (E := fun k => k = W ∨ B ≤ k) (Fr.of_grownBy hgrow1 (fun k e => .inr (hown.lt k e.symm).1)) (fun _ _ e => e)
  have hf2 : Fr (fun k => k = W ∨ B ≤ k) w w2 := ((hf1.setCell (b := W) (o := 0) (.slice (some ⟨g1, 0, none⟩) (out.length + 1) cap1) (.inl (.inl rfl))).alloc (.cells #[.int .u8 93, .slice (some ⟨g, 0, none⟩) n c, .slice none 0 0, .int .i64 0] 104)).trans (E := fun k => k = W ∨ B ≤ k) (Fr.of_grownBy hgrow2 (fun k e => by simp [Value.ownBlock] at e)) (fun _ _ e => e)
  have ht4 : ∀ (i : Nat) (v : Value), ([.int .u8 93, .slice (some ⟨g, 0, none⟩) n c, .slice none 0 0, .int .i64 0] : List Value)[i]? = some v → cur[i]? = some v := by
    intro i v hi
    have hi4 : i < 4 := by have := (List.getElem?_eq_some_iff.1 hi).1; simpa using this
    have h2 : cur.toList[i]? = some v := by
      rw [← List.getElem?_take_of_lt (show i < (0 + 1) * 4 by omega), htk]
      simpa using hi
    simpa using h2
  refine ⟨rfl, ⟨hlt, by simp; omega, _, g2, cap2, cur, two_set1 hb2, ?_, hg, by omega, hcap, ?_, ht4 0 _ rfl, ht4 1 _ rfl, ht4 2 _ rfl, ht4 3 _ rfl⟩, hf2.setCell _ (.inl (.inl rfl))⟩
  · have h1 := (owns_off (o := 0) (u := .slice (some ⟨g1, 0, none⟩) (out.length + 1) cap1) hown1 hlt).alloc (.cells #[.int .u8 93, .slice (some ⟨g, 0, none⟩) n c, .slice none 0 0, .int .i64 0] 104)
    have h2 := owns_off (o := 1) (u := .slice (some ⟨g2, 0, none⟩) 1 cap2) (owns_same h1 (fun q hq => hgrow2.block q (h1.lt q hq).2 (by simp [Value.ownBlock]))) hlt
    rw [List.length_append, byteCells_append]
    exact h2
  · rw [Below.heap_setCell _ _ _ _ (by simp; omega)]
    exact hbk
end Go.Proofs.Tryz

namespace Go.Proofs.Tryz
open Go.RowKit
set_option maxRecDepth 10000

theorem cells_set {w : World} {g k : Nat} {cs : Array Value} {t : TypeId} {u : Value} (h : w.heap[g]? = some (.cells cs t (0, 0))) : (w.setCell ⟨g, k, none⟩ u).heap[g]? = some (.cells (cs.setIfInBounds k u) t (0, 0)) := by
  have hlt := lt_of_block h
  have h' : w.heap[g] = .cells cs t (0, 0) := by simpa [Array.getElem?_eq_getElem hlt] using h
  show (w.heap.modify g _)[g]? = _
  rw [Array.getElem?_eq_getElem (by simpa using hlt), Array.getElem_modify_self, h']
  rfl
theorem cells_cell {w : World} {g k : Nat} {cs : Array Value} {t : TypeId} {v : Value} (h : w.heap[g]? = some (.cells cs t (0, 0))) (hv : cs[k]? = some v) : w.cell? ⟨g, k, none⟩ = some v := by simp [World.cell?, h, hv]
theorem cells_free {w : World} {g k : Nat} {cs : Array Value} {t : TypeId} (h : w.heap[g]? = some (.cells cs t (0, 0))) : w.frozen? ⟨g, k, none⟩ = false := by simp [World.frozen?, h]
theorem owns_type {w : World} {B n g : Nat} {v : Value} {xs : List Value} {cs : Array Value} (h : w.ownsRow B 5 1 v n xs) (hg : w.heap[g]? = some (.cells cs 104 (0, 0))) : v.ownBlock ≠ some g := by
  rcases h.2 with ⟨rfl, _⟩ | ⟨g', cap, cur, rfl, _, hb, _⟩
  · simp [Value.ownBlock]
  · intro e
    simp [Value.ownBlock] at e
    subst e
    rw [hb] at hg
    simp at hg

/-- A step's end: one more item is written. -/
theorem stepped {w w1 : World} {B W g cap m : Nat} {cs : Array Value} {out more : List UInt8} {ov ov' items : Value} {i j : Int} (hlt : W < B) (hle : B ≤ w.heap.size) (hg : B ≤ g) (hc1 : 1 ≤ cap) (hc2 : cap ≤ maxLen) (hbk : w.heap[g]? = some (.cells cs 104 (0, 0)))
    (s0 : cs[0]? = some (.int .u8 93)) (s1 : cs[1]? = some items) (s2 : cs[2]? = some (.slice none 0 0)) (s3 : cs[3]? = some (.int .i64 i)) (hne : ov.ownBlock ≠ some g) (hown : w.ownsRow B 5 1 ov out.length (Lib.byteCells out))
    (fr1 : Fr (fun k => k = W ∨ some k = ov.ownBlock) ((w.drewN m).setCell ⟨g, 3, none⟩ (.int .i64 j)) w1) (hW1 : w1.heap[W]? = some (.cells #[ov', .slice (some ⟨g, 0, none⟩) 1 cap] 53 (0, 0))) (hown1 : w1.ownsRow B 5 1 ov' (out.length + more.length) (Lib.byteCells out ++ Lib.byteCells more)) :
    WrA w1 B W (out ++ more) items j ∧ Wrote B W w w1 := by
  have hgl := lt_of_block hbk
  have h3 : 3 < cs.size := (Array.getElem?_eq_some_iff.1 s3).1
  have hs1 := fr1.size
  have hbX : ((w.drewN m).setCell ⟨g, 3, none⟩ (.int .i64 j)).heap[g]? = some (.cells (cs.setIfInBounds 3 (.int .i64 j)) 104 (0, 0)) := cells_set (w := w.drewN m) hbk
  refine ⟨⟨hlt, by simp at hs1; omega, ov', g, cap, cs.setIfInBounds 3 (.int .i64 j), hW1, by rw [List.length_append, byteCells_append]; exact hown1, hg, hc1, hc2, (fr1.block g (by simpa using hgl) ?_).trans hbX, ?_, ?_, ?_, ?_⟩, ?_⟩
  · rintro (e | e)
    · omega
    · exact hne e.symm
  · simpa [Array.getElem?_setIfInBounds] using s0
  · simpa [Array.getElem?_setIfInBounds] using s1
  · simpa [Array.getElem?_setIfInBounds] using s2
  · simp [h3]
  · refine (((Fr.refl (fun k => k = W ∨ B ≤ k) w).drewN m).setCell _ (.inl (.inr hg))).trans fr1 ?_
    rintro k _ (e | e)
    · exact .inl e
    · exact .inr (hown.lt k e.symm).1

set_option maxHeartbeats 4000000 in
theorem step_first {w : World} {B W : Nat} {out : List UInt8} {a n c : Nat} {b : Bool} (h : WrA w B W out (.slice (some ⟨a, 0, none⟩) n c) 0) (hn : 0 < n) (hn2 : n ≤ 100) (ha : a < B) (hc : w.cell? ⟨a, 0, none⟩ = some (.iface 96 (.bool b))) (ho : out.length ≤ 900) :
    Calls Tryz.prog 14 #[.pointer (some ⟨W, 0, none⟩)] w fun e w' => e = .returned (.tuple #[]) ∧ WrA w' B W (out ++ boolB b) (.slice (some ⟨a, 0, none⟩) n c) 1 ∧ Wrote B W w w' := by
  obtain ⟨hlt, hle, ov, g, cap, cs, hb, hown, hg, hc1, hc2, hbk, s0, s1, s2, s3⟩ := h
  have hne := owns_type hown hbk
  obtain ⟨c0, c1, c2, c3, c4⟩ := two_c0 hb
  have e0 := cells_cell hbk s0
  have e1 := cells_cell hbk s1
  have e2 := cells_cell hbk s2
  have e3 := cells_cell hbk s3
  have e4 := cells_free (k := 3) hbk
  have hgl := lt_of_block hbk
  have z0 : ¬ (0 : Int) = (n : Int) := by omega
  have z1 : (0 : Int) < (n : Int) := by omega
  have nWg : ¬ W = g := by omega
  have ngW : ¬ g = W := by omega
  have nag : ¬ a = g := by omega
  have nga : ¬ g = a := by omega
  go_enter Tryz.func14, Tryz.ntmps14
  have hbX : ∀ m, ((w.drewN m).setCell ⟨g, 3, none⟩ (.int .i64 1)).heap[W]? = _ := fun m => (Below.heap_setCell _ _ _ _ (by simp; omega)).trans hb
  have hoX : ∀ m, ((w.drewN m).setCell ⟨g, 3, none⟩ (.int .i64 1)).ownsRow B 5 1 ov out.length (Lib.byteCells out) := fun m => ownsRow_setCell_other (w := w.drewN m) hown (by simpa using hne) _
  go_wp2_with fail
  go_quiet (fail)
  go_wp2_with fail
  go_quiet (fail)
  go_wp2_with (go_at_call 13; refine (begin_bool2 b hlt (by simp; omega) (hbX _) (hoX _) (by omega)).mono ?_; rintro e w1 ⟨rfl, ⟨ov', hW1, hown1⟩, fr1⟩)
  exact bodyPost_ret (v := .tuple #[]) (by simp [results, Tryz.results14, go_sem]) rfl ⟨rfl, stepped hlt hle hg hc1 hc2 hbk s0 s1 s2 s3 hne hown fr1 hW1 hown1⟩

theorem stepped1 {w w1 : World} {B W g cap m a i : Nat} {cs : Array Value} {out : List UInt8} {ov v o : Value} {j : Int} (hlt : W < B) (hle : B ≤ w.heap.size) (hg : B ≤ g) (hbk : w.heap[g]? = some (.cells cs 104 (0, 0))) (hne : ov.ownBlock ≠ some g) (hb : w.heap[W]? = some (.cells #[ov, .slice (some ⟨g, 0, none⟩) 1 cap] 53 (0, 0))) (hown : w.ownsRow B 5 1 ov out.length (Lib.byteCells out))
    (ha : a < B) (hc : w.cell? ⟨a, i, none⟩ = some v) (hgrow1 : (((w.drewN m).setCell ⟨g, 3, none⟩ (.int .i64 j)).alloc (.cells #[o] 5)).grownBy w1 ov.ownBlock) :
    w1.heap[W]? = some (.cells #[ov, .slice (some ⟨g, 0, none⟩) 1 cap] 53 (0, 0)) ∧ w1.heap[g]? = some (.cells (cs.setIfInBounds 3 (.int .i64 j)) 104 (0, 0)) ∧ w1.cell? ⟨a, i, none⟩ = some v ∧ Fr (fun k => k = W ∨ some k = ov.ownBlock) ((w.drewN m).setCell ⟨g, 3, none⟩ (.int .i64 j)) w1 := by
  have hgl := lt_of_block hbk
  have hX : ((w.drewN m).setCell ⟨g, 3, none⟩ (.int .i64 j)).heap.size = w.heap.size := by simp
  have frX1 : Fr (fun k => k = W ∨ some k = ov.ownBlock) ((w.drewN m).setCell ⟨g, 3, none⟩ (.int .i64 j)) w1 := ((Fr.refl _ _).alloc _).trans (E := fun k => some k = ov.ownBlock) (Fr.of_grownBy hgrow1 (fun k e => e)) (fun _ _ e => .inr e)
  have hgr : ∀ k, k < w.heap.size → some k ≠ ov.ownBlock → w1.heap[k]? = ((w.drewN m).setCell ⟨g, 3, none⟩ (.int .i64 j)).heap[k]? := fun k hk hd =>
    (hgrow1.block k (by simp; omega) hd).trans ((below_alloc _ _).block k (by rw [hX]; exact hk))
  have hbelow : ∀ k, k < B → some k ≠ ov.ownBlock := fun k hk e => by have := (hown.lt k e.symm).1; omega
  refine ⟨?_, ?_, ?_, frX1⟩
  · exact (hgr W (by omega) (hbelow W hlt)).trans ((Below.heap_setCell _ _ _ _ (by simp; omega)).trans hb)
  · exact (hgr g hgl (fun e => hne e.symm)).trans (cells_set (w := w.drewN m) hbk)
  · exact (World.cell?_of_block (w := w) ((hgr a (by omega) (hbelow a ha)).trans (Below.heap_setCell _ _ _ _ (by simp; omega)))).trans hc

set_option maxHeartbeats 4000000 in
theorem step_next {w : World} {B W : Nat} {out : List UInt8} {a n c i : Nat} {b : Bool} (h : WrA w B W out (.slice (some ⟨a, 0, none⟩) n c) i) (hi : 0 < i) (hn : i < n) (hn2 : n ≤ 100) (ha : a < B) (hc : w.cell? ⟨a, i, none⟩ = some (.iface 96 (.bool b))) (ho : out.length ≤ 900) :
    Calls Tryz.prog 14 #[.pointer (some ⟨W, 0, none⟩)] w fun e w' => e = .returned (.tuple #[]) ∧ WrA w' B W (out ++ (44 :: boolB b)) (.slice (some ⟨a, 0, none⟩) n c) ((i + 1 : Nat) : Int) ∧ Wrote B W w w' := by
  obtain ⟨i0, hi0, hz0, hz1, hz2⟩ := info_parts (show (Tryz.prog.info? 5).map (fun i => (i.zero, i.size, i.bytes)) = some (some (.int .u8 0), 1, 1) by kernel_rfl)
  obtain ⟨hlt, hle, ov, g, cap, cs, hb, hown, hg, hc1, hc2, hbk, s0, s1, s2, s3⟩ := h
  have hne := owns_type hown hbk
  obtain ⟨oa, ol, oc, rfl⟩ := owns_shape hown
  obtain ⟨c0, c1, c2, c3, c4⟩ := two_c0 hb
  have e0 := cells_cell hbk s0
  have e1 := cells_cell hbk s1
  have e2 := cells_cell hbk s2
  have e3 := cells_cell hbk s3
  have e4 := cells_free (k := 3) hbk
  have hgl := lt_of_block hbk
  have z0 : ¬ (i : Int) = (n : Int) := by omega
  have z1 : (i : Int) < (n : Int) := by omega
  have z2 : (0 : Int) < (i : Int) := by omega
  have z3 : (0 : Int) ≤ (i : Int) := by omega
  have nWg : ¬ W = g := by omega
  have ngW : ¬ g = W := by omega
  have nag : ¬ a = g := by omega
  have nga : ¬ g = a := by omega
  have hbX : ∀ m (j : Int), ((w.drewN m).setCell ⟨g, 3, none⟩ (.int .i64 j)).heap[W]? = _ := fun m j => (Below.heap_setCell _ _ _ _ (by simp; omega)).trans hb
  have hoX : ∀ m (j : Int), ((w.drewN m).setCell ⟨g, 3, none⟩ (.int .i64 j)).ownsRow B 5 1 (.slice oa ol oc) out.length (Lib.byteCells out) := fun m j => ownsRow_setCell_other (w := w.drewN m) hown (by simpa using hne) _
  go_enter Tryz.func14, Tryz.ntmps14
  go_wp2_with fail
  go_quiet (fail)
  go_wp2_with fail
  go_quiet (fail)
  go_wp2_with (first
    | (refine wpList_append_lies _ (by rfl) _ _ _ (by rfl) B 5 i0 _ 1 1 Tryz.underlying50 hi0 hz0 hz1 hz2 rfl (by omega) _ out.length (Lib.byteCells out) (by rfl) ((hoX _ _).alloc _) ⟨w.heap.size, 0, none⟩ 1 1 [.int .u8 44] (by rfl) (by rfl) (World.news_of_block (cs := #[.int .u8 44]) (t := 5) (fr := (0, 0)) (heap_news _ _ (by simp))) (by simp [Value.oneCell']) (by omega) (by unfold maxLen; omega) (by omega) (by simp; omega) (w.heap.size + 1) (by simp) ?_; intro g1 cap1 w1 hown1 hgrow1 hat1 hlt1; obtain ⟨hb1, hg1, ha1, frX1⟩ := stepped1 hlt hle hg hbk hne hb hown ha hc hgrow1; obtain ⟨d0, d1, d2, d3, d4⟩ := two_c0 hb1; have f0 := cells_cell (k := 0) hg1 (by simpa [Array.getElem?_setIfInBounds] using s0); have f1 := cells_cell (k := 1) hg1 (by simpa [Array.getElem?_setIfInBounds] using s1))
    | (go_at_call 13; refine (begin_bool2 (out := out ++ [44]) b hlt (by have := hgrow1.size; simp at this ⊢; omega) (two_set0 hb1) (by rw [List.length_append, byteCells_append]; exact owns_off hown1 hlt) (by simp; omega)).mono ?_; rintro e w2 ⟨rfl, ⟨ov', hW2, hown2⟩, fr2⟩))
  refine bodyPost_ret (v := .tuple #[]) (by simp [results, Tryz.results14, go_sem]) rfl ⟨rfl, stepped (j := ((i + 1 : Nat) : Int)) hlt hle hg hc1 hc2 hbk s0 s1 s2 s3 hne hown ((frX1.setCell _ (.inl (.inl rfl))).trans fr2 ?_) hW2 ?_⟩
  · rintro k hk (e | e)
    · exact .inl e
    · simp [Value.ownBlock] at e
      subst e
      rcases hat1 with h | h
      · exact .inr h.symm
      · simp at hk; omega
  · simpa [Lib.byteCells, Nat.add_assoc, Nat.add_comm, Nat.add_left_comm] using hown2
end Go.Proofs.Tryz

namespace Go.Proofs.Tryz
open Go.RowKit
set_option maxRecDepth 10000

/-- strconv.ParseInt at base 10 and 64 bits: what the library's contract says of it. -/
def ParsesAll : Prop := ∀ (s : ByteArray) (v : Int) (w : World), s.size ≤ 100000 → Lib.parseIntB 64 s.data.toList = .ok v →
  Calls Tryz.prog 130 #[.string s, .int .i64 10, .int .i64 64] w fun e w' => e = .returned (.tuple #[.int .i64 v, .nilIface]) ∧ Below w.heap.size w w'

/-- The reader's block. -/
def VBlk (w : World) (vb : Nat) (s : ByteArray) (a : Nat) (ov : Value) : Prop := w.heap[vb]? = some (.cells #[.string s, .int .i64 a, ov] 47 (0, 0))

theorem three_facts' {w : World} {b : Nat} {x y z : Value} {t : TypeId} (h : w.heap[b]? = some (.cells #[x, y, z] t (0, 0))) : w.cell? ⟨b, 0, none⟩ = some x ∧ w.cell? ⟨b, 1, none⟩ = some y ∧ w.cell? ⟨b, 2, none⟩ = some z ∧ w.frozen? ⟨b, 0, none⟩ = false ∧ w.frozen? ⟨b, 1, none⟩ = false ∧ w.frozen? ⟨b, 2, none⟩ = false ∧ b < w.heap.size := by
  refine ⟨?_, ?_, ?_, ?_, ?_, ?_, lt_of_block h⟩ <;> simp [World.cell?, World.frozen?, h]
theorem VBlk.at {w : World} {vb a : Nat} {s : ByteArray} {ov : Value} (h : VBlk w vb s a ov) (hle : a ≤ s.size) (hm : s.size ≤ 100000) : VAt w vb s a := by
  obtain ⟨c0, c1, c2, f0, f1, f2, hl⟩ := three_facts' h
  exact ⟨c0, c1, f1, hle, hm⟩
theorem VBlk.set {w : World} {vb a b : Nat} {s : ByteArray} {ov : Value} (h : VBlk w vb s a ov) : VBlk (w.setCell ⟨vb, 1, none⟩ (.int .i64 b)) vb s b ov := cells_set h
theorem VBlk.drewN {w : World} {vb a : Nat} {s : ByteArray} {ov : Value} (h : VBlk w vb s a ov) (n : Nat) : VBlk (w.drewN n) vb s a ov := h
theorem VBlk.same {w w' : World} {vb a : Nat} {s : ByteArray} {ov : Value} (h : VBlk w vb s a ov) (e : w'.heap[vb]? = w.heap[vb]?) : VBlk w' vb s a ov := e.trans h

def digI (c : Int) : Prop := 48 ≤ c ∧ c ≤ 57

set_option maxHeartbeats 4000000 in
theorem number_pos (hI : ParsesAll) {w : World} {vb a q : Nat} {s : ByteArray} {ov : Value} {n : Int} (h : VBlk w vb s a ov) (hm : s.size ≤ 100000) (hq : a < q) (hqs : q ≤ s.size) (hd0 : digI (byteAt s a)) (hdig : ∀ i, a < i → i < q → digI (byteAt s i)) (hlead : byteAt s a = 48 → q = a + 1) (hend : ¬ digI (byteAt s q)) (hp : Lib.parseIntB 64 (s.extract a q).data.toList = .ok n) :
    Calls Tryz.prog 72 #[.pointer (some ⟨vb, 0, none⟩)] w fun e w' => e = .returned (.tuple #[numV n, .bool true]) ∧ VBlk w' vb s q ov ∧ Fr (· = vb) w w' := by
  obtain ⟨c0, c1, c2, f0, f1, f2, hl⟩ := three_facts' h
  have h0 := h.at (by omega) hm
  obtain ⟨d1, d2⟩ := hd0
  have n45 : (byteAt s a == 45) = false := by simp; omega
  go_enter Tryz.func72, Tryz.ntmps72
  go_wp2_with (first
    | (go_at_call 28; refine (next_ok (by first | exact h0 | exact h0.drewN _)).mono ?_; rintro e w1 ⟨rfl, m, rfl⟩)
    | (go_at_call 71; refine (vIsDigit_any _ _).mono ?_; rintro e w1 ⟨rfl, hw⟩; subst hw))
  go_loopg [41] (q - (a + 1)) (fun k v wr => ∃ j : Nat, a < j ∧ j + k = q ∧ VBlk wr vb s j ov ∧ Fr (· = vb) w wr)
  case atStart => exact ⟨a + 1, by omega, by omega, (h.drewN _).set, ((Fr.refl _ w).drewN _).setCell _ (.inl rfl)⟩
  case round =>
    obtain ⟨j, hj1, hj2, hv, hfr⟩ := hrel
    obtain ⟨v0, v1, v2, g0, g1, g2, vl⟩ := three_facts' hv
    have hvA := hv.at (by omega) hm
    by_cases hjq : j < q
    · have n48 : (byteAt s a != 48) = true := by
        have : byteAt s a ≠ 48 := fun e => by have := hlead e; omega
        simpa using this
      obtain ⟨e1, e2⟩ := hdig j hj1 hjq
      go_wp2_with (first
        | (go_at_call 28; refine (next_ok hvA).mono ?_; rintro e w1 ⟨rfl, m, rfl⟩)
        | (go_at_call 71; refine (vIsDigit_any _ _).mono ?_; rintro e w1 ⟨rfl, hw⟩; subst hw))
      go_roundg (gk - 1)
      case measure => omega
      case rel => exact ⟨j + 1, by omega, by omega, (hv.drewN _).set, (hfr.drewN _).setCell _ (.inl rfl)⟩
    · obtain rfl : j = q := by omega
      have q0 : (0 : Int) ≤ (a : Int) := by omega
      have q1 : (a : Int) ≤ (j : Int) := by omega
      have q2 : (j : Int) ≤ (s.size : Int) := by omega
      have hes : (s.extract a j).size ≤ 100000 := by simp [ByteArray.size_extract]; omega
      have nd : (decide (48 ≤ byteAt s j) && decide (byteAt s j ≤ 57)) = false := by
        cases hh : (decide (48 ≤ byteAt s j) && decide (byteAt s j ≤ 57)) with
        | false => rfl
        | true => simp at hh; exact absurd hh hend
      clear hlead hdig hend
      by_cases h48 : byteAt s a = 48
      · have n48 : (byteAt s a != 48) = false := by simpa using h48
        go_wp2_with fail
        go_region_held3 (fun w' => w'.cell? ⟨vb, 0, none⟩ = some (.string s) ∧ w'.cell? ⟨vb, 1, none⟩ = some (.int .i64 j)) (first | exact e4 | go_keep)
          (first | (go_at_call 130; refine (hI _ _ _ hes hp).mono ?_; rintro e w1 ⟨rfl, k1⟩; have e4 : w1.cell? ⟨vb, 0, none⟩ = some (.string s) ∧ w1.cell? ⟨vb, 1, none⟩ = some (.int .i64 j) := ⟨(k1.cell (p := ⟨vb, 0, none⟩) (by simpa using vl)).trans (by simpa using v0), (k1.cell (p := ⟨vb, 1, none⟩) (by simpa using vl)).trans (by simpa using v1)⟩))
        go_wp2_with fail
        exact bodyPost_ret (v := .tuple #[numV n, .bool true]) (by simp [results, Tryz.results72, go_sem]) rfl ⟨rfl, hv.same (k1.block _ (by simpa using vl)), (hfr.drewN _).trans (Fr.of_below (D := (· = vb)) k1) (fun _ _ e => e)⟩
      · have n48 : (byteAt s a != 48) = true := by simpa using h48
        go_wp2_with (first
          | (go_at_call 28; refine (next_ok hvA).mono ?_; rintro e w1 ⟨rfl, m, rfl⟩)
          | (go_at_call 71; refine (vIsDigit_any _ _).mono ?_; rintro e w1 ⟨rfl, hw⟩; subst hw; rw [nd]))
        go_region_held3 (fun w' => w'.cell? ⟨vb, 0, none⟩ = some (.string s) ∧ w'.cell? ⟨vb, 1, none⟩ = some (.int .i64 j)) (first | exact e4 | go_keep)
          (first | (go_at_call 130; refine (hI _ _ _ hes hp).mono ?_; rintro e w1 ⟨rfl, k1⟩; have e4 : w1.cell? ⟨vb, 0, none⟩ = some (.string s) ∧ w1.cell? ⟨vb, 1, none⟩ = some (.int .i64 j) := ⟨(k1.cell (p := ⟨vb, 0, none⟩) (by simpa using vl)).trans (by simpa using v0), (k1.cell (p := ⟨vb, 1, none⟩) (by simpa using vl)).trans (by simpa using v1)⟩))
        go_wp2_with fail
        exact bodyPost_ret (v := .tuple #[numV n, .bool true]) (by simp [results, Tryz.results72, go_sem]) rfl ⟨rfl, hv.same (k1.block _ (by simpa using vl)), (hfr.drewN _).trans (Fr.of_below (D := (· = vb)) k1) (fun _ _ e => e)⟩
end Go.Proofs.Tryz

