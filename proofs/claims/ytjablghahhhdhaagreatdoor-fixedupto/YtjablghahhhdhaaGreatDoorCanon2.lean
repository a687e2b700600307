import Derived.Test.YtjablghahhhdhaaGreatDoorLex4
import Derived.Test.YtjablghahhhdhaaGreatDoorVal3
import Derived.Test.YtjablghahhhdhaaGreatDoorPull
import Derived.Lib.AppendIntMem
import Derived.Laws.IdiomStrings
set_option linter.all false
namespace Go.Proofs.Tryz
open Go.RowKit
set_option maxRecDepth 10000

/-- strconv.AppendInt at base 10: what the library's contract says of it. -/
def AppendsInt : Prop := ∀ (B n : Nat) (i : Int) (sv : Value) (xs : List Value) (w : World), -9223372036854775808 ≤ i → i ≤ 9223372036854775807 → w.ownsRow B 5 1 sv n xs → B ≤ w.heap.size → n + 21 ≤ 140737488355328 → Lib.TabBelow Tryz.prog B w "internal/strconv.uint64pow10" .u64 Lib.pow10Tab →
  Calls Tryz.prog 32 #[sv, .int .i64 i, .int .i64 10] w fun e w' => ∃ v', e = .returned v' ∧ w'.ownsRow B 5 1 v' (n + (Lib.itoa i).length) (xs ++ Lib.byteCells (Lib.itoa i)) ∧ Below B w w'

/-- The writer at block W has written out; pv: what is open. -/
structure Wr (w : World) (B W : Nat) (out : List UInt8) (pv : Value) : Prop where
  lt : W < B
  le : B ≤ w.heap.size
  has : ∃ ov, w.heap[W]? = some (.cells #[ov, pv] 53 (0, 0)) ∧ w.ownsRow B 5 1 ov out.length (Lib.byteCells out)

theorem two_c0 {w : World} {b : Nat} {x y : Value} {t : TypeId} (h : w.heap[b]? = some (.cells #[x, y] t (0, 0))) : w.cell? ⟨b, 0, none⟩ = some x ∧ w.cell? ⟨b, 1, none⟩ = some y ∧ w.frozen? ⟨b, 0, none⟩ = false ∧ w.frozen? ⟨b, 1, none⟩ = false ∧ b < w.heap.size := by
  refine ⟨?_, ?_, ?_, ?_, lt_of_block h⟩ <;> simp [World.cell?, World.frozen?, h]

/-- All below B but block W is as it was. -/
def Wrote (B W : Nat) (w w' : World) : Prop := Fr (fun k => k = W ∨ B ≤ k) w w'

theorem owns_shape {w : World} {B e n : Nat} {v : Value} {xs : List Value} (h : w.ownsRow B e 1 v n xs) : ∃ a l c, v = .slice a l c := by
  rcases h.2 with ⟨rfl, _⟩ | ⟨g, cap, cur, rfl, _⟩
  · exact ⟨_, _, _, rfl⟩
  · exact ⟨_, _, _, rfl⟩
theorem owns_off {w : World} {B e n W o : Nat} {v u : Value} {xs : List Value} (h : w.ownsRow B e 1 v n xs) (hW : W < B) : (w.setCell ⟨W, o, none⟩ u).ownsRow B e 1 v n xs :=
  ownsRow_setCell_other h (by
    rcases h.2 with ⟨rfl, _⟩ | ⟨g, cap, cur, rfl, hg, _⟩
    · simp [Value.ownBlock]
    · simp [Value.ownBlock]; omega) u
theorem byteCells_append (a b : List UInt8) : Lib.byteCells (a ++ b) = Lib.byteCells a ++ Lib.byteCells b := by simp [Lib.byteCells]

/-- What is written behind what was there. -/
theorem Wr.wrote {w w1 : World} {B W : Nat} {out more : List UInt8} {pv ov v' : Value} (hlt : W < B) (hle : B ≤ w.heap.size) (hb : w.heap[W]? = some (.cells #[ov, pv] 53 (0, 0))) (k1 : Below B w w1) (hown1 : w1.ownsRow B 5 1 v' (out.length + more.length) (Lib.byteCells out ++ Lib.byteCells more)) :
    Wr (w1.setCell ⟨W, 0, none⟩ v') B W (out ++ more) pv ∧ Wrote B W w (w1.setCell ⟨W, 0, none⟩ v') := by
  have hb1 : w1.heap[W]? = some (.cells #[ov, pv] 53 (0, 0)) := (k1.block W hlt).trans hb
  refine ⟨⟨hlt, by simpa using Nat.le_trans hle k1.size, v', two_set0 hb1, ?_⟩, ?_⟩
  · have := owns_off (o := 0) (u := v') hown1 hlt
    rw [List.length_append, byteCells_append]
    exact this
  · exact Fr.setCell ⟨k1.os, k1.tape, k1.output, k1.size, fun k hk hd => k1.block k (by omega)⟩ _ (.inl (.inl rfl))

set_option maxHeartbeats 2000000 in
theorem begin_num (hA : AppendsInt) {w : World} {B W : Nat} {out : List UInt8} {pv : Value} (n : Int) (h0 : -9223372036854775808 ≤ n) (h1 : n ≤ 9223372036854775807) (h : Wr w B W out pv) (ho : out.length ≤ 1000) (ht : Lib.TabBelow Tryz.prog B w "internal/strconv.uint64pow10" .u64 Lib.pow10Tab) :
    Calls Tryz.prog 13 #[.pointer (some ⟨W, 0, none⟩), numV n] w fun e w' => e = .returned (.tuple #[]) ∧ Wr w' B W (out ++ Lib.itoa n) pv ∧ Wrote B W w w' := by
  obtain ⟨hlt, hle, ov, hb, hown⟩ := h
  obtain ⟨c0, c1, c2, c3, c4⟩ := two_c0 hb
  obtain ⟨oa, ol, oc, rfl⟩ := owns_shape hown
  have m0 := missVNull; have m1 := hitVNumber; have m2 := missVString; have m3 := missVArray; have m4 := missVObject; have m5 := missVBool
  go_enter Tryz.func13, Tryz.ntmps13
  go_wp2_with (go_at_call 32; refine (hA B _ n _ _ _ h0 h1 hown hle (by omega) ht).mono ?_; rintro e w1 ⟨v', rfl, hown1, k1⟩; obtain ⟨a', l', c', rfl⟩ := owns_shape hown1; obtain ⟨d0, d1, d2, d3, d4⟩ := two_c0 ((k1.block W hlt).trans hb))
  go_end0
  exact ⟨rfl, Wr.wrote hlt hle hb k1 hown1⟩

theorem writer_new (w : World) : Wr (w.alloc (.cells #[.slice none 0 0, .slice none 0 0] 53)) (w.heap.size + 1) w.heap.size [] (.slice none 0 0) :=
  ⟨by omega, by simp, .slice none 0 0, heap_new _ _, World.ownsRow_nil _ _ _ _⟩

theorem owns_bytes {w : World} {B : Nat} {v : Value} {l : List UInt8} (h : w.ownsRow B 5 1 v l.length (Lib.byteCells l)) (hl : l ≠ []) : ∃ g c, v = .slice (some ⟨g, 0, none⟩) l.length c ∧ ∀ j (hj : j < l.length), w.cell? ((⟨g, 0, none⟩ : Addr).add j) = some (.int .u8 (l[j].toNat : Int)) := by
  rcases h.2 with ⟨rfl, h0⟩ | ⟨g, cap, cur, rfl, hg, hb, hn, hm, hs, ht⟩
  · exact absurd (List.length_eq_zero_iff.1 h0) hl
  · refine ⟨g, cap, rfl, ?_⟩
    intro j hj
    have e : cur[j]? = some (.int .u8 (l[j].toNat : Int)) := by
      have : (cur.toList.take (l.length * 1))[j]? = (Lib.byteCells l)[j]? := by rw [ht]
      rw [List.getElem?_take_of_lt (by omega)] at this
      simp [Lib.byteCells, hj] at this
      rw [this]
    by_cases hj0 : j = 0
    · subst hj0
      simp [World.cell?, Addr.add, hb, e]
    · simp [World.cell?, Addr.add, hj0, hb, e]

theorem tab_up {B B' : Nat} {w w1 : World} {name : String} {k : IntKind} {zs : List Int} (h : Lib.TabBelow Tryz.prog B w name k zs) (hb : Below B w w1) (hB : B ≤ B') : Lib.TabBelow Tryz.prog B' w1 name k zs := fun w' h' => h w' (hb.trans (h'.mono hB))

theorem Wrote.below {w w1 : World} {o : Obj} (h : Wrote (w.heap.size + 1) w.heap.size (w.alloc o) w1) : Below w.heap.size w w1 :=
  ⟨h.os, h.tape, h.output, by have := h.size; simp at this; omega, fun k hk => (h.block k (by simp; omega) (by omega)).trans ((below_alloc w o).block k hk)⟩

set_option maxHeartbeats 2000000 in
theorem Canonical_of {w : World} {T : Nat} {u : Value} {out : List UInt8} (hne : out ≠ []) (hbe : Calls Tryz.prog 13 #[.pointer (some ⟨w.heap.size, 0, none⟩), .iface T u] (w.alloc (.cells #[.slice none 0 0, .slice none 0 0] 53)) fun e w' => e = .returned (.tuple #[]) ∧ Wr w' (w.heap.size + 1) w.heap.size out (.slice none 0 0) ∧ Wrote (w.heap.size + 1) w.heap.size (w.alloc (.cells #[.slice none 0 0, .slice none 0 0] 53)) w') :
    Calls Tryz.prog 8 #[.iface T u] w fun e w' => e = .returned (.string ⟨out.toArray⟩) ∧ Below w.heap.size w w' := by
  go_enter Tryz.func8, Tryz.ntmps8
  go_wp2_with (go_at_call 13; refine hbe.mono ?_; rintro e w1 ⟨rfl, hW, hk⟩; obtain ⟨_, hle, ov, hb, hown⟩ := hW; obtain ⟨c0, c1, c2, c3, c4⟩ := two_c0 hb; obtain ⟨g, c, rfl, hc⟩ := owns_bytes hown hne; have hcv := run_convert_bytes_back (P := Tryz.prog) w1 50 9 5 ⟨g, 0, none⟩ c out Tryz.underlying50 Tryz.underlying5 Tryz.underlying9 hc)
  refine wp_loop_rounds 1 ?_
  rw [rounds_succ]
  go_wp2_with fail
  go_ret
  exact ⟨rfl, hk.below⟩

theorem Canonical_num (hA : AppendsInt) {w : World} (n : Int) (h0 : -9223372036854775808 ≤ n) (h1 : n ≤ 9223372036854775807) (ht : Lib.TabBelow Tryz.prog w.heap.size w "internal/strconv.uint64pow10" .u64 Lib.pow10Tab) (hne : Lib.itoa n ≠ []) :
    Calls Tryz.prog 8 #[numV n] w fun e w' => e = .returned (.string ⟨(Lib.itoa n).toArray⟩) ∧ Below w.heap.size w w' :=
  Canonical_of hne (begin_num hA n h0 h1 (writer_new w) (by simp) (tab_up ht (below_alloc _ _) (by omega)))
end Go.Proofs.Tryz

namespace Go.Proofs.Tryz
open Go.RowKit
set_option maxRecDepth 10000

/-- A byte that stands in a text as it is. -/
def plainB (c : UInt8) : Prop := 32 ≤ c.toNat ∧ c.toNat ≠ 34 ∧ c.toNat ≠ 92

set_option maxHeartbeats 4000000 in
theorem appendString_ok {w : World} {B : Nat} {sv : Value} {out : List UInt8} (s : ByteArray) (hs : s.size ≤ 100) (hp : ∀ i (h : i < s.size), plainB s[i]) (hown : w.ownsRow B 5 1 sv out.length (Lib.byteCells out)) (hB : B ≤ w.heap.size) (ho : out.length ≤ 1000) :
    Calls Tryz.prog 33 #[sv, .string s] w fun e w' => ∃ v', e = .returned v' ∧ w'.ownsRow B 5 1 v' (out.length + (34 :: (s.data.toList ++ [34])).length) (Lib.byteCells out ++ Lib.byteCells (34 :: (s.data.toList ++ [34]))) ∧ Below B w w' := by
  obtain ⟨i0, hi0, hz0, hz1, hz2⟩ := info_parts (show (Tryz.prog.info? 5).map (fun i => (i.zero, i.size, i.bytes)) = some (some (.int .u8 0), 1, 1) by kernel_rfl)
  obtain ⟨oa, ol, oc, rfl⟩ := owns_shape hown
  go_enter Tryz.func33, Tryz.ntmps33
  go_wp2_with (refine wpList_append_lies _ (by rfl) _ _ _ (by rfl) B 5 i0 _ 1 1 Tryz.underlying50 hi0 hz0 hz1 hz2 rfl (by omega) _ out.length (Lib.byteCells out) (by rfl) (hown.alloc _) ⟨w.heap.size, 0, none⟩ 1 1 [.int .u8 34] (by rfl) (by rfl) (World.news_of_block (cs := #[.int .u8 34]) (t := 5) (fr := (0, 0)) (heap_new w _)) (by simp [Value.oneCell']) (by omega) (by unfold maxLen; omega) (by omega) (by simp; omega) (w.heap.size + 1) (by simp) ?_; intro g cap w2 hown2 hgrow2 hat2 hlt2)
  go_loopg [0, 5, 6, 12] s.size (fun k v0 v5 v6 v12 wr => ∃ j : Nat, k + j = s.size ∧ v12 = .int .i64 j ∧ Below B w wr ∧ wr.ownsRow B 5 1 v0 (out.length + 1 + j) (Lib.byteCells out ++ Lib.byteCells (34 :: s.data.toList.take j)))
  case atStart =>
    refine ⟨0, by omega, rfl, ?_, ?_⟩
    · exact ((Below.refl B w).alloc hB _).grown hgrow2 (by simp; omega) (fun q hq => (hown.lt q hq).1)
    · simpa [Lib.byteCells] using hown2
  case round =>
    obtain ⟨j, hj, rfl, hb, hown3⟩ := hrel
    obtain ⟨ra, rl, rc, rfl⟩ := owns_shape hown3
    by_cases hlt : j < s.size
    · obtain ⟨k, rfl⟩ : ∃ k, gk = k + 1 := ⟨gk - 1, by omega⟩
      have hl' : (j : Int) < (s.size : Int) := by omega
      have ha0 : (0 : Int) ≤ (j : Int) := by omega
      obtain ⟨p1, p2, p3⟩ := hp j hlt
      have q1 : (((s[j].toNat : Nat) : Int) == 34) = false := by simp; omega
      have q2 : (((s[j].toNat : Nat) : Int) == 92) = false := by simp; omega
      have q3 : (((s[j].toNat : Nat) : Int) == 8) = false := by simp; omega
      have q4 : (((s[j].toNat : Nat) : Int) == 9) = false := by simp; omega
      have q5 : (((s[j].toNat : Nat) : Int) == 10) = false := by simp; omega
      have q6 : (((s[j].toNat : Nat) : Int) == 12) = false := by simp; omega
      have q7 : (((s[j].toNat : Nat) : Int) == 13) = false := by simp; omega
      have q8 : ¬ ((s[j].toNat : Nat) : Int) < 32 := by omega
      go_wp2_with (refine wpList_append_lies _ (by rfl) _ _ _ (by rfl) B 5 i0 _ 1 1 Tryz.underlying50 hi0 hz0 hz1 hz2 rfl (by omega) _ (out.length + 1 + j) (Lib.byteCells out ++ Lib.byteCells (34 :: s.data.toList.take j)) (by rfl) (hown3.alloc _) ⟨wr.heap.size, 0, none⟩ 1 1 [.int .u8 (s[j].toNat : Int)] (by rfl) (by rfl) (World.news_of_block (cs := #[.int .u8 (s[j].toNat : Int)]) (t := 5) (fr := (0, 0)) (heap_new wr _)) (by simp [Value.oneCell']) (by omega) (by unfold maxLen; omega) (by omega) (by have := hb.size; simp; omega) (wr.heap.size + 1) (by simp) ?_; intro g3 cap3 w4 hown4 hgrow4 hat4 hlt4)
      go_roundg k
      case measure => omega
      case rel =>
        have ht : s.data.toList.take (j + 1) = s.data.toList.take j ++ [s[j]] := by
          rw [List.take_succ, at_list s j hlt]; rfl
        refine ⟨j + 1, by omega, by go_num, ?_, ?_⟩
        · exact (hb.alloc (by have := hb.size; omega) _).grown hgrow4 (by have := hb.size; simp; omega) (fun q hq => (hown3.lt q hq).1)
        · have e1 : Lib.byteCells out ++ Lib.byteCells (34 :: s.data.toList.take (j + 1)) = Lib.byteCells out ++ Lib.byteCells (34 :: s.data.toList.take j) ++ [.int .u8 (s[j].toNat : Int)] := by
            rw [ht]; simp [Lib.byteCells]
          rw [e1]
          exact hown4
    · go_wp2_with (refine wpList_append_lies _ (by rfl) _ _ _ (by rfl) B 5 i0 _ 1 1 Tryz.underlying50 hi0 hz0 hz1 hz2 rfl (by omega) _ (out.length + 1 + j) (Lib.byteCells out ++ Lib.byteCells (34 :: s.data.toList.take j)) (by rfl) (hown3.alloc _) ⟨wr.heap.size, 0, none⟩ 1 1 [.int .u8 34] (by rfl) (by rfl) (World.news_of_block (cs := #[.int .u8 34]) (t := 5) (fr := (0, 0)) (heap_new wr _)) (by simp [Value.oneCell']) (by omega) (by unfold maxLen; omega) (by omega) (by have := hb.size; simp; omega) (wr.heap.size + 1) (by simp) ?_; intro g3 cap3 w4 hown4 hgrow4 hat4 hlt4)
      go_ret
      have hjs : j = s.size := by omega
      have ht : s.data.toList.take j = s.data.toList := List.take_of_length_le (by rw [size_list]; omega)
      refine ⟨_, rfl, ?_, ?_⟩
      · rw [ht] at hown4
        have e1 : out.length + ((s.data.toList ++ [34]).length + 1) = out.length + 1 + j + 1 := by rw [List.length_append, size_list, List.length_singleton]; omega
        have e2 : Lib.byteCells out ++ Lib.byteCells (34 :: (s.data.toList ++ [34])) = Lib.byteCells out ++ Lib.byteCells (34 :: s.data.toList) ++ [.int .u8 34] := by simp [Lib.byteCells]
        rw [e1, e2]
        exact hown4
      · exact (hb.alloc (by have := hb.size; omega) _).grown hgrow4 (by have := hb.size; simp; omega) (fun q hq => (hown3.lt q hq).1)
end Go.Proofs.Tryz

