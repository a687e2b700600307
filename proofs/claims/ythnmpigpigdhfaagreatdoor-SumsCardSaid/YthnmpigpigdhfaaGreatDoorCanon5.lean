import Derived.Test.YthnmpigpigdhfaaGreatDoorAns
import Derived.Test.YthnmpigpigdhfaaGreatDoorLex4
import Derived.Test.YthnmpigpigdhfaaGreatDoorVal3
import Derived.Test.YthnmpigpigdhfaaGreatDoorPull
import Derived.Lib.AppendIntMem
import Derived.Laws.IdiomStrings
import Derived.Lib.AppendStr
import Derived.Deep.RegionLaw
set_option linter.all false
namespace Go.Proofs.Tryz
open Go.RowKit
set_option maxRecDepth 10000

/-- strconv.AppendInt at base 10: what the library's contract says of it. -/
def AppendsInt : Prop := ∀ (B n : Nat) (i : Int) (sv : Value) (xs : List Value) (w : World), -9223372036854775808 ≤ i → i ≤ 9223372036854775807 → w.ownsRow B 5 1 sv n xs → B ≤ w.heap.size → n + 21 ≤ 140737488355328 → Lib.TabBelow Tryz.prog B w "internal/strconv.uint64pow10" .u64 Lib.pow10Tab →
  Calls Tryz.prog 194 #[sv, .int .i64 i, .int .i64 10] w fun e w' => ∃ v', e = .returned v' ∧ w'.ownsRow B 5 1 v' (n + (Lib.itoa i).length) (xs ++ Lib.byteCells (Lib.itoa i)) ∧ Below B w w'

/-- The writer at block W has written out; pv: what is open. -/
structure Wr (w : World) (B W : Nat) (out : List UInt8) (pv : Value) : Prop where
  lt : W < B
  le : B ≤ w.heap.size
  has : ∃ ov, w.heap[W]? = some (.cells #[ov, pv] 251 (0, 0)) ∧ w.ownsRow B 5 1 ov out.length (Lib.byteCells out)

theorem two_c0 {w : World} {b : Nat} {x y : Value} {t : TypeId} (h : w.heap[b]? = some (.cells #[x, y] t (0, 0))) : w.cell? ⟨b, 0, none⟩ = some x ∧ w.cell? ⟨b, 1, none⟩ = some y ∧ w.frozen? ⟨b, 0, none⟩ = false ∧ w.frozen? ⟨b, 1, none⟩ = false ∧ b < w.heap.size := by
  refine ⟨?_, ?_, ?_, ?_, lt_of_block h⟩ <;> simp [World.cell?, World.frozen?, h]

/-- All below B but block W is as it was. -/
def Wrote (B W : Nat) (w w' : World) : Prop := Fr (fun k => k = W ∨ B ≤ k) w w'

theorem owns_shape {w : World} {B e n : Nat} {v : Value} {xs : List Value} (h : w.ownsRow B e 1 v n xs) : ∃ a l c, v = .slice a l c := by
  rcases h.2 with ⟨rfl, _⟩ | ⟨g, cap, cur, rfl, _⟩
  · exact ⟨_, _, _, rfl⟩
  · exact ⟨_, _, _, rfl⟩
theorem owns_off {w : World} {B e n W o : Nat} {v u : Value} {xs : List Value} (h : w.ownsRow B e 1 v n xs) (hW : W < B) : (w.setCell ⟨W, o, none⟩ u).ownsRow B e 1 v n xs :=
  ownsRow_setCell_other h (by
    rcases h.2 with ⟨rfl, _⟩ | ⟨g, cap, cur, rfl, hg, _⟩
    · simp [Value.ownBlock]
    · simp [Value.ownBlock]; omega) u
theorem byteCells_append (a b : List UInt8) : Lib.byteCells (a ++ b) = Lib.byteCells a ++ Lib.byteCells b := by simp [Lib.byteCells]

/-- What is written behind what was there. -/
theorem Wr.wrote {w w1 : World} {B W : Nat} {out more : List UInt8} {pv ov v' : Value} (hlt : W < B) (hle : B ≤ w.heap.size) (hb : w.heap[W]? = some (.cells #[ov, pv] 251 (0, 0))) (k1 : Below B w w1) (hown1 : w1.ownsRow B 5 1 v' (out.length + more.length) (Lib.byteCells out ++ Lib.byteCells more)) :
    Wr (w1.setCell ⟨W, 0, none⟩ v') B W (out ++ more) pv ∧ Wrote B W w (w1.setCell ⟨W, 0, none⟩ v') := by
  have hb1 : w1.heap[W]? = some (.cells #[ov, pv] 251 (0, 0)) := (k1.block W hlt).trans hb
  refine ⟨⟨hlt, by simpa using Nat.le_trans hle k1.size, v', two_set0 hb1, ?_⟩, ?_⟩
  · have := owns_off (o := 0) (u := v') hown1 hlt
    rw [List.length_append, byteCells_append]
    exact this
  · exact Fr.setCell ⟨k1.os, k1.tape, k1.output, k1.size, fun k hk hd => k1.block k (by omega)⟩ _ (.inl (.inl rfl))

set_option maxHeartbeats 2000000 in
theorem begin_num (hA : AppendsInt) {w : World} {B W : Nat} {out : List UInt8} {pv : Value} (n : Int) (h0 : -9223372036854775808 ≤ n) (h1 : n ≤ 9223372036854775807) (h : Wr w B W out pv) (ho : out.length ≤ 1000) (ht : Lib.TabBelow Tryz.prog B w "internal/strconv.uint64pow10" .u64 Lib.pow10Tab) :
    Calls Tryz.prog 136 #[.pointer (some ⟨W, 0, none⟩), numV n] w fun e w' => e = .returned (.tuple #[]) ∧ Wr w' B W (out ++ Lib.itoa n) pv ∧ Wrote B W w w' := by
  obtain ⟨hlt, hle, ov, hb, hown⟩ := h
  obtain ⟨c0, c1, c2, c3, c4⟩ := two_c0 hb
  obtain ⟨oa, ol, oc, rfl⟩ := owns_shape hown
  have m0 := missVNull; have m1 := hitVNumber; have m2 := missVString; have m3 := missVArray; have m4 := missVObject; have m5 := missVBool
  go_enter Tryz.func136, Tryz.ntmps136
  go_wp2_with (go_at_call 194; refine (hA B _ n _ _ _ h0 h1 hown hle (by omega) ht).mono ?_; rintro e w1 ⟨v', rfl, hown1, k1⟩; obtain ⟨a', l', c', rfl⟩ := owns_shape hown1; obtain ⟨d0, d1, d2, d3, d4⟩ := two_c0 ((k1.block W hlt).trans hb))
  go_end0
  exact ⟨rfl, Wr.wrote hlt hle hb k1 hown1⟩

theorem writer_new (w : World) : Wr (w.alloc (.cells #[.slice none 0 0, .slice none 0 0] 251)) (w.heap.size + 1) w.heap.size [] (.slice none 0 0) :=
  ⟨by omega, by simp, .slice none 0 0, heap_new _ _, World.ownsRow_nil _ _ _ _⟩

theorem owns_bytes {w : World} {B : Nat} {v : Value} {l : List UInt8} (h : w.ownsRow B 5 1 v l.length (Lib.byteCells l)) (hl : l ≠ []) : ∃ g c, v = .slice (some ⟨g, 0, none⟩) l.length c ∧ ∀ j (hj : j < l.length), w.cell? ((⟨g, 0, none⟩ : Addr).add j) = some (.int .u8 (l[j].toNat : Int)) := by
  rcases h.2 with ⟨rfl, h0⟩ | ⟨g, cap, cur, rfl, hg, hb, hn, hm, hs, ht⟩
  · exact absurd (List.length_eq_zero_iff.1 h0) hl
  · refine ⟨g, cap, rfl, ?_⟩
    intro j hj
    have e : cur[j]? = some (.int .u8 (l[j].toNat : Int)) := by
      have : (cur.toList.take (l.length * 1))[j]? = (Lib.byteCells l)[j]? := by rw [ht]
      rw [List.getElem?_take_of_lt (by omega)] at this
      simp [Lib.byteCells, hj] at this
      rw [this]
    by_cases hj0 : j = 0
    · subst hj0
      simp [World.cell?, Addr.add, hb, e]
    · simp [World.cell?, Addr.add, hj0, hb, e]

theorem tab_up {B B' : Nat} {w w1 : World} {name : String} {k : IntKind} {zs : List Int} (h : Lib.TabBelow Tryz.prog B w name k zs) (hb : Below B w w1) (hB : B ≤ B') : Lib.TabBelow Tryz.prog B' w1 name k zs := fun w' h' => h w' (hb.trans (h'.mono hB))

theorem Wrote.below {w w1 : World} {o : Obj} (h : Wrote (w.heap.size + 1) w.heap.size (w.alloc o) w1) : Below w.heap.size w w1 :=
  ⟨h.os, h.tape, h.output, by have := h.size; simp at this; omega, fun k hk => (h.block k (by simp; omega) (by omega)).trans ((below_alloc w o).block k hk)⟩

set_option maxHeartbeats 2000000 in
theorem Canonical_of {w : World} {T : Nat} {u : Value} {out : List UInt8} (hne : out ≠ []) (hbe : Calls Tryz.prog 136 #[.pointer (some ⟨w.heap.size, 0, none⟩), .iface T u] (w.alloc (.cells #[.slice none 0 0, .slice none 0 0] 251)) fun e w' => e = .returned (.tuple #[]) ∧ Wr w' (w.heap.size + 1) w.heap.size out (.slice none 0 0) ∧ Wrote (w.heap.size + 1) w.heap.size (w.alloc (.cells #[.slice none 0 0, .slice none 0 0] 251)) w') :
    Calls Tryz.prog 69 #[.iface T u] w fun e w' => e = .returned (.string ⟨out.toArray⟩) ∧ Below w.heap.size w w' := by
  go_enter Tryz.func69, Tryz.ntmps69
  go_wp2_with (go_at_call 136; refine hbe.mono ?_; rintro e w1 ⟨rfl, hW, hk⟩; obtain ⟨_, hle, ov, hb, hown⟩ := hW; obtain ⟨c0, c1, c2, c3, c4⟩ := two_c0 hb; obtain ⟨g, c, rfl, hc⟩ := owns_bytes hown hne; have hcv := run_convert_bytes_back (P := Tryz.prog) w1 83 9 5 ⟨g, 0, none⟩ c out Tryz.underlying83 Tryz.underlying5 Tryz.underlying9 hc)
  refine wp_loop_rounds 1 ?_
  rw [rounds_succ]
  go_wp2_with fail
  go_ret
  exact ⟨rfl, hk.below⟩

theorem Canonical_num (hA : AppendsInt) {w : World} (n : Int) (h0 : -9223372036854775808 ≤ n) (h1 : n ≤ 9223372036854775807) (ht : Lib.TabBelow Tryz.prog w.heap.size w "internal/strconv.uint64pow10" .u64 Lib.pow10Tab) (hne : Lib.itoa n ≠ []) :
    Calls Tryz.prog 69 #[numV n] w fun e w' => e = .returned (.string ⟨(Lib.itoa n).toArray⟩) ∧ Below w.heap.size w w' :=
  Canonical_of hne (begin_num hA n h0 h1 (writer_new w) (by simp) (tab_up ht (below_alloc _ _) (by omega)))
end Go.Proofs.Tryz

namespace Go.Proofs.Tryz
open Go.RowKit
set_option maxRecDepth 10000

/-- A byte that stands in a text as it is. -/
def plainB (c : UInt8) : Prop := 32 ≤ c.toNat ∧ c.toNat ≠ 34 ∧ c.toNat ≠ 92

set_option maxHeartbeats 4000000 in
theorem appendString_ok {w : World} {B : Nat} {sv : Value} {out : List UInt8} (s : ByteArray) (hs : s.size ≤ 100) (hp : ∀ i (h : i < s.size), plainB s[i]) (hown : w.ownsRow B 5 1 sv out.length (Lib.byteCells out)) (hB : B ≤ w.heap.size) (ho : out.length ≤ 1000) :
    Calls Tryz.prog 195 #[sv, .string s] w fun e w' => ∃ v', e = .returned v' ∧ w'.ownsRow B 5 1 v' (out.length + (34 :: (s.data.toList ++ [34])).length) (Lib.byteCells out ++ Lib.byteCells (34 :: (s.data.toList ++ [34]))) ∧ Below B w w' := by
  obtain ⟨i0, hi0, hz0, hz1, hz2⟩ := info_parts (show (Tryz.prog.info? 5).map (fun i => (i.zero, i.size, i.bytes)) = some (some (.int .u8 0), 1, 1) by kernel_rfl)
  obtain ⟨oa, ol, oc, rfl⟩ := owns_shape hown
  go_enter Tryz.func195, Tryz.ntmps195
  go_wp2_with (refine wpList_append_lies _ (by rfl) _ _ _ (by rfl) B 5 i0 _ 1 1 Tryz.underlying83 hi0 hz0 hz1 hz2 rfl (by omega) _ out.length (Lib.byteCells out) (by rfl) (hown.alloc _) ⟨w.heap.size, 0, none⟩ 1 1 [.int .u8 34] (by rfl) (by rfl) (World.news_of_block (cs := #[.int .u8 34]) (t := 5) (fr := (0, 0)) (heap_new w _)) (by simp [Value.oneCell']) (by omega) (by unfold maxLen; omega) (by omega) (by simp; omega) (w.heap.size + 1) (by simp) ?_; intro g cap w2 hown2 hgrow2 hat2 hlt2)
  go_loopg [0, 5, 6, 12] s.size (fun k v0 v5 v6 v12 wr => ∃ j : Nat, k + j = s.size ∧ v12 = .int .i64 j ∧ Below B w wr ∧ wr.ownsRow B 5 1 v0 (out.length + 1 + j) (Lib.byteCells out ++ Lib.byteCells (34 :: s.data.toList.take j)))
  case atStart =>
    refine ⟨0, by omega, rfl, ?_, ?_⟩
    · exact ((Below.refl B w).alloc hB _).grown hgrow2 (by simp; omega) (fun q hq => (hown.lt q hq).1)
    · simpa [Lib.byteCells] using hown2
  case round =>
    obtain ⟨j, hj, rfl, hb, hown3⟩ := hrel
    obtain ⟨ra, rl, rc, rfl⟩ := owns_shape hown3
    by_cases hlt : j < s.size
    · obtain ⟨k, rfl⟩ : ∃ k, gk = k + 1 := ⟨gk - 1, by omega⟩
      have hl' : (j : Int) < (s.size : Int) := by omega
      have ha0 : (0 : Int) ≤ (j : Int) := by omega
      obtain ⟨p1, p2, p3⟩ := hp j hlt
      have q1 : (((s[j].toNat : Nat) : Int) == 34) = false := by simp; omega
      have q2 : (((s[j].toNat : Nat) : Int) == 92) = false := by simp; omega
      have q3 : (((s[j].toNat : Nat) : Int) == 8) = false := by simp; omega
      have q4 : (((s[j].toNat : Nat) : Int) == 9) = false := by simp; omega
      have q5 : (((s[j].toNat : Nat) : Int) == 10) = false := by simp; omega
      have q6 : (((s[j].toNat : Nat) : Int) == 12) = false := by simp; omega
      have q7 : (((s[j].toNat : Nat) : Int) == 13) = false := by simp; omega
      have q8 : ¬ ((s[j].toNat : Nat) : Int) < 32 := by omega
      go_wp2_with (refine wpList_append_lies _ (by rfl) _ _ _ (by rfl) B 5 i0 _ 1 1 Tryz.underlying83 hi0 hz0 hz1 hz2 rfl (by omega) _ (out.length + 1 + j) (Lib.byteCells out ++ Lib.byteCells (34 :: s.data.toList.take j)) (by rfl) (hown3.alloc _) ⟨wr.heap.size, 0, none⟩ 1 1 [.int .u8 (s[j].toNat : Int)] (by rfl) (by rfl) (World.news_of_block (cs := #[.int .u8 (s[j].toNat : Int)]) (t := 5) (fr := (0, 0)) (heap_new wr _)) (by simp [Value.oneCell']) (by omega) (by unfold maxLen; omega) (by omega) (by have := hb.size; simp; omega) (wr.heap.size + 1) (by simp) ?_; intro g3 cap3 w4 hown4 hgrow4 hat4 hlt4)
      go_roundg k
      case measure => omega
      case rel =>
        have ht : s.data.toList.take (j + 1) = s.data.toList.take j ++ [s[j]] := by
          rw [List.take_succ, at_list s j hlt]; rfl
        refine ⟨j + 1, by omega, by go_num, ?_, ?_⟩
        · exact (hb.alloc (by have := hb.size; omega) _).grown hgrow4 (by have := hb.size; simp; omega) (fun q hq => (hown3.lt q hq).1)
        · have e1 : Lib.byteCells out ++ Lib.byteCells (34 :: s.data.toList.take (j + 1)) = Lib.byteCells out ++ Lib.byteCells (34 :: s.data.toList.take j) ++ [.int .u8 (s[j].toNat : Int)] := by
            rw [ht]; simp [Lib.byteCells]
          rw [e1]
          exact hown4
    · go_wp2_with (refine wpList_append_lies _ (by rfl) _ _ _ (by rfl) B 5 i0 _ 1 1 Tryz.underlying83 hi0 hz0 hz1 hz2 rfl (by omega) _ (out.length + 1 + j) (Lib.byteCells out ++ Lib.byteCells (34 :: s.data.toList.take j)) (by rfl) (hown3.alloc _) ⟨wr.heap.size, 0, none⟩ 1 1 [.int .u8 34] (by rfl) (by rfl) (World.news_of_block (cs := #[.int .u8 34]) (t := 5) (fr := (0, 0)) (heap_new wr _)) (by simp [Value.oneCell']) (by omega) (by unfold maxLen; omega) (by omega) (by have := hb.size; simp; omega) (wr.heap.size + 1) (by simp) ?_; intro g3 cap3 w4 hown4 hgrow4 hat4 hlt4)
      go_ret
      have hjs : j = s.size := by omega
      have ht : s.data.toList.take j = s.data.toList := List.take_of_length_le (by rw [size_list]; omega)
      refine ⟨_, rfl, ?_, ?_⟩
      · rw [ht] at hown4
        have e1 : out.length + ((s.data.toList ++ [34]).length + 1) = out.length + 1 + j + 1 := by rw [List.length_append, size_list, List.length_singleton]; omega
        have e2 : Lib.byteCells out ++ Lib.byteCells (34 :: (s.data.toList ++ [34])) = Lib.byteCells out ++ Lib.byteCells (34 :: s.data.toList) ++ [.int .u8 34] := by simp [Lib.byteCells]
        rw [e1, e2]
        exact hown4
      · exact (hb.alloc (by have := hb.size; omega) _).grown hgrow4 (by have := hb.size; simp; omega) (fun q hq => (hown3.lt q hq).1)
end Go.Proofs.Tryz

namespace Go.Proofs.Tryz
open Go.RowKit
set_option maxRecDepth 10000

set_option maxHeartbeats 2000000 in
theorem begin_str {w : World} {B W : Nat} {out : List UInt8} {pv : Value} (s : ByteArray) (hs : s.size ≤ 100) (hp : ∀ i (h : i < s.size), plainB s[i]) (h : Wr w B W out pv) (ho : out.length ≤ 1000) :
    Calls Tryz.prog 136 #[.pointer (some ⟨W, 0, none⟩), .iface 123 (.string s)] w fun e w' => e = .returned (.tuple #[]) ∧ Wr w' B W (out ++ (34 :: (s.data.toList ++ [34]))) pv ∧ Wrote B W w w' := by
  obtain ⟨hlt, hle, ov, hb, hown⟩ := h
  obtain ⟨c0, c1, c2, c3, c4⟩ := two_c0 hb
  obtain ⟨oa, ol, oc, rfl⟩ := owns_shape hown
  have m0 := missVNull; have m1 := missVNumber; have m2 := hitVString; have m3 := missVArray; have m4 := missVObject; have m5 := missVBool
  go_enter Tryz.func136, Tryz.ntmps136
  go_wp2_with (go_at_call 195; refine (appendString_ok s hs hp hown hle ho).mono ?_; rintro e w1 ⟨v', rfl, hown1, k1⟩; obtain ⟨a', l', c', rfl⟩ := owns_shape hown1; obtain ⟨d0, d1, d2, d3, d4⟩ := two_c0 ((k1.block W hlt).trans hb))
  go_end0
  exact ⟨rfl, Wr.wrote hlt hle hb k1 hown1⟩

theorem Canonical_str {w : World} (s : ByteArray) (hs : s.size ≤ 100) (hp : ∀ i (h : i < s.size), plainB s[i]) :
    Calls Tryz.prog 69 #[.iface 123 (.string s)] w fun e w' => e = .returned (.string ⟨(34 :: (s.data.toList ++ [34])).toArray⟩) ∧ Below w.heap.size w w' :=
  Canonical_of (by simp) (begin_str s hs hp (writer_new w) (by simp))

theorem canonAt_str {w : World} (s : ByteArray) (hs : s.size ≤ 100) (hp : ∀ i (h : i < s.size), plainB s[i]) : CanonAt w (strV s) ⟨(34 :: (s.data.toList ++ [34])).toArray⟩ := fun _ _ => Canonical_str s hs hp

theorem canonAt_num (hA : AppendsInt) {B : Nat} {w0 w : World} (n : Int) (h0 : -9223372036854775808 ≤ n) (h1 : n ≤ 9223372036854775807) (ht : Lib.TabBelow Tryz.prog B w "internal/strconv.uint64pow10" .u64 Lib.pow10Tab) (hB : B ≤ w.heap.size) (hne : Lib.itoa n ≠ []) : CanonAt w (228, .int .i64 n) ⟨(Lib.itoa n).toArray⟩ :=
  fun w' k => Canonical_num hA n h0 h1 (tab_up ht (k.mono hB) (Nat.le_trans hB k.size)) hne

set_option maxHeartbeats 2000000 in
theorem iAppendBool_ok {w : World} {B : Nat} {sv : Value} {out : List UInt8} (b : Bool) (hown : w.ownsRow B 5 1 sv out.length (Lib.byteCells out)) (hB : B ≤ w.heap.size) (ho : out.length ≤ 1000) :
    Calls Tryz.prog 240 #[sv, .bool b] w fun e w' => ∃ v', e = .returned v' ∧ w'.ownsRow B 5 1 v' (out.length + (if b then [116, 114, 117, 101] else [102, 97, 108, 115, 101] : List UInt8).length) (Lib.byteCells out ++ Lib.byteCells (if b then [116, 114, 117, 101] else [102, 97, 108, 115, 101])) ∧ Below B w w' ∧ w.grownBy w' sv.ownBlock := by
  obtain ⟨i0, hi0, hz0, hz1, hz2⟩ := info_parts (show (Tryz.prog.info? 5).map (fun i => (i.zero, i.size, i.bytes)) = some (some (.int .u8 0), 1, 1) by kernel_rfl)
  obtain ⟨oa, ol, oc, rfl⟩ := owns_shape hown
  cases b with
  | true =>
    go_enter Tryz.func240, Tryz.ntmps240
    go_wp2_with (refine Lib.wpList_append_own_string _ (by rfl) _ _ 83 9 (by rfl) B 5 i0 Tryz.underlying83 Tryz.underlying9 hi0 hz0 hz1 hz2 _ out.length (Lib.byteCells out) (by rfl) hown ⟨#[116, 114, 117, 101]⟩ (by rfl) (by unfold maxLen; simp [ByteArray.size]; omega) (by simp [ByteArray.size]; omega) hB ?_; intro v' w1 hown1 hgrow1 _; obtain ⟨a', l', c', rfl⟩ := owns_shape hown1)
    go_ret
    exact ⟨_, rfl, hown1, (Below.refl B w).grown hgrow1 hB (fun q hq => (hown.lt q hq).1), hgrow1⟩
  | false =>
    go_enter Tryz.func240, Tryz.ntmps240
    go_wp2_with (refine Lib.wpList_append_own_string _ (by rfl) _ _ 83 9 (by rfl) B 5 i0 Tryz.underlying83 Tryz.underlying9 hi0 hz0 hz1 hz2 _ out.length (Lib.byteCells out) (by rfl) hown ⟨#[102, 97, 108, 115, 101]⟩ (by rfl) (by unfold maxLen; simp [ByteArray.size]; omega) (by simp [ByteArray.size]; omega) hB ?_; intro v' w1 hown1 hgrow1 _; obtain ⟨a', l', c', rfl⟩ := owns_shape hown1)
    go_ret
    exact ⟨_, rfl, hown1, (Below.refl B w).grown hgrow1 hB (fun q hq => (hown.lt q hq).1), hgrow1⟩

def boolB (b : Bool) : List UInt8 := if b then [116, 114, 117, 101] else [102, 97, 108, 115, 101]
set_option maxHeartbeats 2000000 in
theorem AppendBool_ok {w : World} {B : Nat} {sv : Value} {out : List UInt8} (b : Bool) (hown : w.ownsRow B 5 1 sv out.length (Lib.byteCells out)) (hB : B ≤ w.heap.size) (ho : out.length ≤ 1000) :
    Calls Tryz.prog 193 #[sv, .bool b] w fun e w' => ∃ v', e = .returned v' ∧ w'.ownsRow B 5 1 v' (out.length + (boolB b).length) (Lib.byteCells out ++ Lib.byteCells (boolB b)) ∧ Below B w w' ∧ w.grownBy w' sv.ownBlock := by
  obtain ⟨oa, ol, oc, rfl⟩ := owns_shape hown
  go_enter Tryz.func193, Tryz.ntmps193
  go_wp2_with (go_at_call 240; refine (iAppendBool_ok b hown hB ho).mono ?_; rintro e w1 ⟨v', rfl, hown1, k1, g1⟩; obtain ⟨a', l', c', rfl⟩ := owns_shape hown1)
  go_ret
  exact ⟨_, rfl, hown1, k1, g1⟩
set_option maxHeartbeats 2000000 in
theorem begin_bool {w : World} {B W : Nat} {out : List UInt8} {pv : Value} (b : Bool) (h : Wr w B W out pv) (ho : out.length ≤ 1000) :
    Calls Tryz.prog 136 #[.pointer (some ⟨W, 0, none⟩), .iface 195 (.bool b)] w fun e w' => e = .returned (.tuple #[]) ∧ Wr w' B W (out ++ boolB b) pv ∧ Wrote B W w w' := by
  obtain ⟨hlt, hle, ov, hb, hown⟩ := h
  obtain ⟨c0, c1, c2, c3, c4⟩ := two_c0 hb
  obtain ⟨oa, ol, oc, rfl⟩ := owns_shape hown
  have m0 := missVNull; have m1 := missVNumber; have m2 := missVString; have m3 := missVArray; have m4 := missVObject; have m5 := hitVBool
  go_enter Tryz.func136, Tryz.ntmps136
  go_wp2_with (go_at_call 193; refine (AppendBool_ok b hown hle ho).mono ?_; rintro e w1 ⟨v', rfl, hown1, k1, _⟩; obtain ⟨a', l', c', rfl⟩ := owns_shape hown1; obtain ⟨d0, d1, d2, d3, d4⟩ := two_c0 ((k1.block W hlt).trans hb))
  go_end0
  exact ⟨rfl, Wr.wrote hlt hle hb k1 hown1⟩
end Go.Proofs.Tryz

namespace Go.Proofs.Tryz
open Go.RowKit
set_option maxRecDepth 10000

theorem Fr.of_grownBy {w w' : World} {r : Option Nat} {D : Nat → Prop} (h : w.grownBy w' r) (hD : ∀ k, some k = r → D k) : Fr D w w' :=
  ⟨h.os, h.tape, h.output, h.size, fun k hk hd => h.block k hk (fun e => hd (hD k e))⟩

set_option maxHeartbeats 2000000 in
theorem begin_bool2 {w : World} {B W : Nat} {out : List UInt8} {pv ov : Value} (b : Bool) (hlt : W < B) (hle : B ≤ w.heap.size) (hb : w.heap[W]? = some (.cells #[ov, pv] 251 (0, 0))) (hown : w.ownsRow B 5 1 ov out.length (Lib.byteCells out)) (ho : out.length ≤ 1000) :
    Calls Tryz.prog 136 #[.pointer (some ⟨W, 0, none⟩), .iface 195 (.bool b)] w fun e w' => e = .returned (.tuple #[]) ∧ (∃ ov', w'.heap[W]? = some (.cells #[ov', pv] 251 (0, 0)) ∧ w'.ownsRow B 5 1 ov' (out.length + (boolB b).length) (Lib.byteCells out ++ Lib.byteCells (boolB b))) ∧ Fr (fun k => k = W ∨ some k = ov.ownBlock) w w' := by
  obtain ⟨c0, c1, c2, c3, c4⟩ := two_c0 hb
  obtain ⟨oa, ol, oc, rfl⟩ := owns_shape hown
  have m0 := missVNull; have m1 := missVNumber; have m2 := missVString; have m3 := missVArray; have m4 := missVObject; have m5 := hitVBool
  go_enter Tryz.func136, Tryz.ntmps136
  go_wp2_with (go_at_call 193; refine (AppendBool_ok b hown hle ho).mono ?_; rintro e w1 ⟨v', rfl, hown1, k1, g1⟩; obtain ⟨a', l', c', rfl⟩ := owns_shape hown1; obtain ⟨d0, d1, d2, d3, d4⟩ := two_c0 ((k1.block W hlt).trans hb))
  go_end0
  exact ⟨rfl, ⟨_, two_set0 ((k1.block W hlt).trans hb), owns_off hown1 hlt⟩, (Fr.of_grownBy g1 (fun k e => .inr e)).setCell _ (.inl (.inl rfl))⟩

/-- The writer at block W has written out, and an array with these items stands open, i of them written. -/
structure WrA (w : World) (B W : Nat) (out : List UInt8) (items : Value) (i : Int) : Prop where
  lt : W < B
  le : B ≤ w.heap.size
  has : ∃ ov g cap cs, w.heap[W]? = some (.cells #[ov, .slice (some ⟨g, 0, none⟩) 1 cap] 251 (0, 0)) ∧ w.ownsRow B 5 1 ov out.length (Lib.byteCells out) ∧ B ≤ g ∧ 1 ≤ cap ∧ cap ≤ maxLen ∧ w.heap[g]? = some (.cells cs 294 (0, 0)) ∧
    cs[0]? = some (.int .u8 93) ∧ cs[1]? = some items ∧ cs[2]? = some (.slice none 0 0) ∧ cs[3]? = some (.int .i64 i)

theorem heap_news (a : World) (o : Obj) {n : Nat} (h : a.heap.size = n) : (a.alloc o).heap[n]? = some o := by subst h; exact heap_new a o

set_option maxHeartbeats 2000000 in
theorem begin_arr {w : World} {B W : Nat} {out : List UInt8} {g n c : Nat} (h : Wr w B W out (.slice none 0 0)) (ho : out.length ≤ 1000) :
    Calls Tryz.prog 136 #[.pointer (some ⟨W, 0, none⟩), arrV g n c] w fun e w' => e = .returned (.tuple #[]) ∧ WrA w' B W (out ++ [91]) (.slice (some ⟨g, 0, none⟩) n c) 0 ∧ Wrote B W w w' := by
  obtain ⟨hlt, hle, ov, hb, hown⟩ := h
  obtain ⟨i0, hi0, hz0, hz1, hz2⟩ := info_parts (show (Tryz.prog.info? 5).map (fun i => (i.zero, i.size, i.bytes)) = some (some (.int .u8 0), 1, 1) by kernel_rfl)
  obtain ⟨j0, hj0, hy0, hy1, hy2⟩ := info_parts (show (Tryz.prog.info? 294).map (fun i => (i.zero, i.size, i.bytes)) = some (some (.agg #[.int .u8 0, .slice none 0 0, .slice none 0 0, .int .i64 0]), 4, 64) by kernel_rfl)
  obtain ⟨c0, c1, c2, c3, c4⟩ := two_c0 hb
  obtain ⟨oa, ol, oc, rfl⟩ := owns_shape hown
  have m0 := missVNull; have m1 := missVNumber; have m2 := missVString; have m3 := hitVArray; have m4 := missVObject; have m5 := missVBool
  go_enter Tryz.func136, Tryz.ntmps136
  go_wp2_with (first
    | (refine wpList_append_lies _ (by rfl) _ _ _ (by rfl) B 5 i0 _ 1 1 Tryz.underlying83 hi0 hz0 hz1 hz2 rfl (by omega) _ out.length (Lib.byteCells out) (by rfl) (hown.alloc _) ⟨w.heap.size, 0, none⟩ 1 1 [.int .u8 91] (by rfl) (by rfl) (World.news_of_block (cs := #[.int .u8 91]) (t := 5) (fr := (0, 0)) (heap_new w _)) (by simp [Value.oneCell']) (by omega) (by unfold maxLen; omega) (by omega) (by simp; omega) (w.heap.size + 1) (by simp) ?_; intro g1 cap1 w1 hown1 hgrow1 hat1 hlt1; have hb1 := (hgrow1.block W (by simp; omega) (fun e => by have := (hown.lt W e.symm).1; omega)).trans (((below_alloc w _).block W (by omega)).trans hb); obtain ⟨d0, d1, d2, d3, d4⟩ := two_c0 hb1)
    | (refine wpList_append_lies _ (by rfl) _ _ _ (by rfl) B 294 j0 _ 4 64 Tryz.underlying249 hj0 hy0 hy1 hy2 rfl (by omega) _ 0 [] (by rfl) (World.ownsRow_nil _ _ _ _) ⟨w1.heap.size, 0, none⟩ 1 1 [.int .u8 93, .slice (some ⟨g, 0, none⟩) n c, .slice none 0 0, .int .i64 0] (by rfl) (by rfl) (World.news_of_block (cs := #[.int .u8 93, .slice (some ⟨g, 0, none⟩) n c, .slice none 0 0, .int .i64 0]) (t := 294) (fr := (0, 0)) (heap_news _ _ (by simp))) (by simp [Value.oneCell']) (by omega) (by unfold maxLen; omega) (by omega) (by have := hgrow1.size; simp at this ⊢; omega) (w1.heap.size + 1) (by simp) ?_; intro g2 cap2 w2 hown2 hgrow2 hat2 hlt2; have hb2 := (hgrow2.block W (by have := hgrow1.size; simp at this ⊢; omega) (by simp [Value.ownBlock])).trans (((below_alloc _ _).block W (by simpa using d4)).trans (two_set0 (u := .slice (some ⟨g1, 0, none⟩) (out.length + 1) cap1) hb1)); obtain ⟨f0, f1, f2, f3, f4⟩ := two_c0 hb2))
  go_end0
  have hg1 := hgrow1.size
  simp at hg1
  have hg2 := hgrow2.size
  simp at hg2
  obtain ⟨_, hh | ⟨g', c', cur, hv, hg, hbk, hn2, hcap, hsz, htk⟩⟩ := hown2
  · cases hh.1
  cases hv
  have hf1 : Fr (fun k => k = W ∨ B ≤ k) w w1 := ((Fr.refl _ w).alloc _).trans (E := fun k => k = W ∨ B ≤ k) (Fr.of_grownBy hgrow1 (fun k e => .inr (hown.lt k e.symm).1)) (fun _ _ e => e)
  have hf2 : Fr (fun k => k = W ∨ B ≤ k) w w2 := ((hf1.setCell (b := W) (o := 0) (.slice (some ⟨g1, 0, none⟩) (out.length + 1) cap1) (.inl (.inl rfl))).alloc (.cells #[.int .u8 93, .slice (some ⟨g, 0, none⟩) n c, .slice none 0 0, .int .i64 0] 294)).trans (E := fun k => k = W ∨ B ≤ k) (Fr.of_grownBy hgrow2 (fun k e => by simp [Value.ownBlock] at e)) (fun _ _ e => e)
  have ht4 : ∀ (i : Nat) (v : Value), ([.int .u8 93, .slice (some ⟨g, 0, none⟩) n c, .slice none 0 0, .int .i64 0] : List Value)[i]? = some v → cur[i]? = some v := by
    intro i v hi
    have hi4 : i < 4 := by have := (List.getElem?_eq_some_iff.1 hi).1; simpa using this
    have h2 : cur.toList[i]? = some v := by
      rw [← List.getElem?_take_of_lt (show i < (0 + 1) * 4 by omega), htk]
      simpa using hi
    simpa using h2
  refine ⟨rfl, ⟨hlt, by simp; omega, _, g2, cap2, cur, two_set1 hb2, ?_, hg, by omega, hcap, ?_, ht4 0 _ rfl, ht4 1 _ rfl, ht4 2 _ rfl, ht4 3 _ rfl⟩, hf2.setCell _ (.inl (.inl rfl))⟩
  · have h1 := (owns_off (o := 0) (u := .slice (some ⟨g1, 0, none⟩) (out.length + 1) cap1) hown1 hlt).alloc (.cells #[.int .u8 93, .slice (some ⟨g, 0, none⟩) n c, .slice none 0 0, .int .i64 0] 294)
    have h2 := owns_off (o := 1) (u := .slice (some ⟨g2, 0, none⟩) 1 cap2) (owns_same h1 (fun q hq => hgrow2.block q (h1.lt q hq).2 (by simp [Value.ownBlock]))) hlt
    rw [List.length_append, byteCells_append]
    exact h2
  · rw [Below.heap_setCell _ _ _ _ (by simp; omega)]
    exact hbk
end Go.Proofs.Tryz

namespace Go.Proofs.Tryz
open Go.RowKit
set_option maxRecDepth 10000

theorem cells_set {w : World} {g k : Nat} {cs : Array Value} {t : TypeId} {u : Value} (h : w.heap[g]? = some (.cells cs t (0, 0))) : (w.setCell ⟨g, k, none⟩ u).heap[g]? = some (.cells (cs.setIfInBounds k u) t (0, 0)) := by
  have hlt := lt_of_block h
  have h' : w.heap[g] = .cells cs t (0, 0) := by simpa [Array.getElem?_eq_getElem hlt] using h
  show (w.heap.modify g _)[g]? = _
  rw [Array.getElem?_eq_getElem (by simpa using hlt), Array.getElem_modify_self, h']
  rfl
theorem cells_cell {w : World} {g k : Nat} {cs : Array Value} {t : TypeId} {v : Value} (h : w.heap[g]? = some (.cells cs t (0, 0))) (hv : cs[k]? = some v) : w.cell? ⟨g, k, none⟩ = some v := by simp [World.cell?, h, hv]
theorem cells_free {w : World} {g k : Nat} {cs : Array Value} {t : TypeId} (h : w.heap[g]? = some (.cells cs t (0, 0))) : w.frozen? ⟨g, k, none⟩ = false := by simp [World.frozen?, h]
theorem owns_type {w : World} {B n g : Nat} {v : Value} {xs : List Value} {cs : Array Value} (h : w.ownsRow B 5 1 v n xs) (hg : w.heap[g]? = some (.cells cs 294 (0, 0))) : v.ownBlock ≠ some g := by
  rcases h.2 with ⟨rfl, _⟩ | ⟨g', cap, cur, rfl, _, hb, _⟩
  · simp [Value.ownBlock]
  · intro e
    simp [Value.ownBlock] at e
    subst e
    rw [hb] at hg
    simp at hg

/-- A step's end: one more item is written. -/
theorem stepped {w w1 : World} {B W g cap m : Nat} {cs : Array Value} {out more : List UInt8} {ov ov' items : Value} {i j : Int} (hlt : W < B) (hle : B ≤ w.heap.size) (hg : B ≤ g) (hc1 : 1 ≤ cap) (hc2 : cap ≤ maxLen) (hbk : w.heap[g]? = some (.cells cs 294 (0, 0)))
    (s0 : cs[0]? = some (.int .u8 93)) (s1 : cs[1]? = some items) (s2 : cs[2]? = some (.slice none 0 0)) (s3 : cs[3]? = some (.int .i64 i)) (hne : ov.ownBlock ≠ some g) (hown : w.ownsRow B 5 1 ov out.length (Lib.byteCells out))
    (fr1 : Fr (fun k => k = W ∨ some k = ov.ownBlock) ((w.drewN m).setCell ⟨g, 3, none⟩ (.int .i64 j)) w1) (hW1 : w1.heap[W]? = some (.cells #[ov', .slice (some ⟨g, 0, none⟩) 1 cap] 251 (0, 0))) (hown1 : w1.ownsRow B 5 1 ov' (out.length + more.length) (Lib.byteCells out ++ Lib.byteCells more)) :
    WrA w1 B W (out ++ more) items j ∧ Wrote B W w w1 := by
  have hgl := lt_of_block hbk
  have h3 : 3 < cs.size := (Array.getElem?_eq_some_iff.1 s3).1
  have hs1 := fr1.size
  have hbX : ((w.drewN m).setCell ⟨g, 3, none⟩ (.int .i64 j)).heap[g]? = some (.cells (cs.setIfInBounds 3 (.int .i64 j)) 294 (0, 0)) := cells_set (w := w.drewN m) hbk
  refine ⟨⟨hlt, by simp at hs1; omega, ov', g, cap, cs.setIfInBounds 3 (.int .i64 j), hW1, by rw [List.length_append, byteCells_append]; exact hown1, hg, hc1, hc2, (fr1.block g (by simpa using hgl) ?_).trans hbX, ?_, ?_, ?_, ?_⟩, ?_⟩
  · rintro (e | e)
    · omega
    · exact hne e.symm
  · simpa [Array.getElem?_setIfInBounds] using s0
  · simpa [Array.getElem?_setIfInBounds] using s1
  · simpa [Array.getElem?_setIfInBounds] using s2
  · simp [h3]
  · refine (((Fr.refl (fun k => k = W ∨ B ≤ k) w).drewN m).setCell _ (.inl (.inr hg))).trans fr1 ?_
    rintro k _ (e | e)
    · exact .inl e
    · exact .inr (hown.lt k e.symm).1

set_option maxHeartbeats 4000000 in
theorem step_first {w : World} {B W : Nat} {out : List UInt8} {a n c : Nat} {b : Bool} (h : WrA w B W out (.slice (some ⟨a, 0, none⟩) n c) 0) (hn : 0 < n) (hn2 : n ≤ 100) (ha : a < B) (hc : w.cell? ⟨a, 0, none⟩ = some (.iface 195 (.bool b))) (ho : out.length ≤ 900) :
    Calls Tryz.prog 137 #[.pointer (some ⟨W, 0, none⟩)] w fun e w' => e = .returned (.tuple #[]) ∧ WrA w' B W (out ++ boolB b) (.slice (some ⟨a, 0, none⟩) n c) 1 ∧ Wrote B W w w' := by
  obtain ⟨hlt, hle, ov, g, cap, cs, hb, hown, hg, hc1, hc2, hbk, s0, s1, s2, s3⟩ := h
  have hne := owns_type hown hbk
  obtain ⟨c0, c1, c2, c3, c4⟩ := two_c0 hb
  have e0 := cells_cell hbk s0
  have e1 := cells_cell hbk s1
  have e2 := cells_cell hbk s2
  have e3 := cells_cell hbk s3
  have e4 := cells_free (k := 3) hbk
  have hgl := lt_of_block hbk
  have z0 : ¬ (0 : Int) = (n : Int) := by omega
  have z1 : (0 : Int) < (n : Int) := by omega
  have nWg : ¬ W = g := by omega
  have ngW : ¬ g = W := by omega
  have nag : ¬ a = g := by omega
  have nga : ¬ g = a := by omega
  go_enter Tryz.func137, Tryz.ntmps137
  have hbX : ∀ m, ((w.drewN m).setCell ⟨g, 3, none⟩ (.int .i64 1)).heap[W]? = _ := fun m => (Below.heap_setCell _ _ _ _ (by simp; omega)).trans hb
  have hoX : ∀ m, ((w.drewN m).setCell ⟨g, 3, none⟩ (.int .i64 1)).ownsRow B 5 1 ov out.length (Lib.byteCells out) := fun m => ownsRow_setCell_other (w := w.drewN m) hown (by simpa using hne) _
  go_wp2_with fail
  go_quiet (fail)
  go_wp2_with fail
  go_quiet (fail)
  go_wp2_with (go_at_call 136; refine (begin_bool2 b hlt (by simp; omega) (hbX _) (hoX _) (by omega)).mono ?_; rintro e w1 ⟨rfl, ⟨ov', hW1, hown1⟩, fr1⟩)
  exact bodyPost_ret (v := .tuple #[]) (by simp [results, Tryz.results137, go_sem]) rfl ⟨rfl, stepped hlt hle hg hc1 hc2 hbk s0 s1 s2 s3 hne hown fr1 hW1 hown1⟩

theorem stepped1 {w w1 : World} {B W g cap m a i : Nat} {cs : Array Value} {out : List UInt8} {ov v o : Value} {j : Int} (hlt : W < B) (hle : B ≤ w.heap.size) (hg : B ≤ g) (hbk : w.heap[g]? = some (.cells cs 294 (0, 0))) (hne : ov.ownBlock ≠ some g) (hb : w.heap[W]? = some (.cells #[ov, .slice (some ⟨g, 0, none⟩) 1 cap] 251 (0, 0))) (hown : w.ownsRow B 5 1 ov out.length (Lib.byteCells out))
    (ha : a < B) (hc : w.cell? ⟨a, i, none⟩ = some v) (hgrow1 : (((w.drewN m).setCell ⟨g, 3, none⟩ (.int .i64 j)).alloc (.cells #[o] 5)).grownBy w1 ov.ownBlock) :
    w1.heap[W]? = some (.cells #[ov, .slice (some ⟨g, 0, none⟩) 1 cap] 251 (0, 0)) ∧ w1.heap[g]? = some (.cells (cs.setIfInBounds 3 (.int .i64 j)) 294 (0, 0)) ∧ w1.cell? ⟨a, i, none⟩ = some v ∧ Fr (fun k => k = W ∨ some k = ov.ownBlock) ((w.drewN m).setCell ⟨g, 3, none⟩ (.int .i64 j)) w1 := by
  have hgl := lt_of_block hbk
  have hX : ((w.drewN m).setCell ⟨g, 3, none⟩ (.int .i64 j)).heap.size = w.heap.size := by simp
  have frX1 : Fr (fun k => k = W ∨ some k = ov.ownBlock) ((w.drewN m).setCell ⟨g, 3, none⟩ (.int .i64 j)) w1 := ((Fr.refl _ _).alloc _).trans (E := fun k => some k = ov.ownBlock) (Fr.of_grownBy hgrow1 (fun k e => e)) (fun _ _ e => .inr e)
  have hgr : ∀ k, k < w.heap.size → some k ≠ ov.ownBlock → w1.heap[k]? = ((w.drewN m).setCell ⟨g, 3, none⟩ (.int .i64 j)).heap[k]? := fun k hk hd =>
    (hgrow1.block k (by simp; omega) hd).trans ((below_alloc _ _).block k (by rw [hX]; exact hk))
  have hbelow : ∀ k, k < B → some k ≠ ov.ownBlock := fun k hk e => by have := (hown.lt k e.symm).1; omega
  refine ⟨?_, ?_, ?_, frX1⟩
  · exact (hgr W (by omega) (hbelow W hlt)).trans ((Below.heap_setCell _ _ _ _ (by simp; omega)).trans hb)
  · exact (hgr g hgl (fun e => hne e.symm)).trans (cells_set (w := w.drewN m) hbk)
  · exact (World.cell?_of_block (w := w) ((hgr a (by omega) (hbelow a ha)).trans (Below.heap_setCell _ _ _ _ (by simp; omega)))).trans hc

set_option maxHeartbeats 4000000 in
theorem step_next {w : World} {B W : Nat} {out : List UInt8} {a n c i : Nat} {b : Bool} (h : WrA w B W out (.slice (some ⟨a, 0, none⟩) n c) i) (hi : 0 < i) (hn : i < n) (hn2 : n ≤ 100) (ha : a < B) (hc : w.cell? ⟨a, i, none⟩ = some (.iface 195 (.bool b))) (ho : out.length ≤ 900) :
    Calls Tryz.prog 137 #[.pointer (some ⟨W, 0, none⟩)] w fun e w' => e = .returned (.tuple #[]) ∧ WrA w' B W (out ++ (44 :: boolB b)) (.slice (some ⟨a, 0, none⟩) n c) ((i + 1 : Nat) : Int) ∧ Wrote B W w w' := by
  obtain ⟨i0, hi0, hz0, hz1, hz2⟩ := info_parts (show (Tryz.prog.info? 5).map (fun i => (i.zero, i.size, i.bytes)) = some (some (.int .u8 0), 1, 1) by kernel_rfl)
  obtain ⟨hlt, hle, ov, g, cap, cs, hb, hown, hg, hc1, hc2, hbk, s0, s1, s2, s3⟩ := h
  have hne := owns_type hown hbk
  obtain ⟨oa, ol, oc, rfl⟩ := owns_shape hown
  obtain ⟨c0, c1, c2, c3, c4⟩ := two_c0 hb
  have e0 := cells_cell hbk s0
  have e1 := cells_cell hbk s1
  have e2 := cells_cell hbk s2
  have e3 := cells_cell hbk s3
  have e4 := cells_free (k := 3) hbk
  have hgl := lt_of_block hbk
  have z0 : ¬ (i : Int) = (n : Int) := by omega
  have z1 : (i : Int) < (n : Int) := by omega
  have z2 : (0 : Int) < (i : Int) := by omega
  have z3 : (0 : Int) ≤ (i : Int) := by omega
  have nWg : ¬ W = g := by omega
  have ngW : ¬ g = W := by omega
  have nag : ¬ a = g := by omega
  have nga : ¬ g = a := by omega
  have hbX : ∀ m (j : Int), ((w.drewN m).setCell ⟨g, 3, none⟩ (.int .i64 j)).heap[W]? = _ := fun m j => (Below.heap_setCell _ _ _ _ (by simp; omega)).trans hb
  have hoX : ∀ m (j : Int), ((w.drewN m).setCell ⟨g, 3, none⟩ (.int .i64 j)).ownsRow B 5 1 (.slice oa ol oc) out.length (Lib.byteCells out) := fun m j => ownsRow_setCell_other (w := w.drewN m) hown (by simpa using hne) _
  go_enter Tryz.func137, Tryz.ntmps137
  go_wp2_with fail
  go_quiet (fail)
  go_wp2_with fail
  go_quiet (fail)
  go_wp2_with (first
    | (refine wpList_append_lies _ (by rfl) _ _ _ (by rfl) B 5 i0 _ 1 1 Tryz.underlying83 hi0 hz0 hz1 hz2 rfl (by omega) _ out.length (Lib.byteCells out) (by rfl) ((hoX _ _).alloc _) ⟨w.heap.size, 0, none⟩ 1 1 [.int .u8 44] (by rfl) (by rfl) (World.news_of_block (cs := #[.int .u8 44]) (t := 5) (fr := (0, 0)) (heap_news _ _ (by simp))) (by simp [Value.oneCell']) (by omega) (by unfold maxLen; omega) (by omega) (by simp; omega) (w.heap.size + 1) (by simp) ?_; intro g1 cap1 w1 hown1 hgrow1 hat1 hlt1; obtain ⟨hb1, hg1, ha1, frX1⟩ := stepped1 hlt hle hg hbk hne hb hown ha hc hgrow1; obtain ⟨d0, d1, d2, d3, d4⟩ := two_c0 hb1; have f0 := cells_cell (k := 0) hg1 (by simpa [Array.getElem?_setIfInBounds] using s0); have f1 := cells_cell (k := 1) hg1 (by simpa [Array.getElem?_setIfInBounds] using s1))
    | (go_at_call 136; refine (begin_bool2 (out := out ++ [44]) b hlt (by have := hgrow1.size; simp at this ⊢; omega) (two_set0 hb1) (by rw [List.length_append, byteCells_append]; exact owns_off hown1 hlt) (by simp; omega)).mono ?_; rintro e w2 ⟨rfl, ⟨ov', hW2, hown2⟩, fr2⟩))
  refine bodyPost_ret (v := .tuple #[]) (by simp [results, Tryz.results137, go_sem]) rfl ⟨rfl, stepped (j := ((i + 1 : Nat) : Int)) hlt hle hg hc1 hc2 hbk s0 s1 s2 s3 hne hown ((frX1.setCell _ (.inl (.inl rfl))).trans fr2 ?_) hW2 ?_⟩
  · rintro k hk (e | e)
    · exact .inl e
    · simp [Value.ownBlock] at e
      subst e
      rcases hat1 with h | h
      · exact .inr h.symm
      · simp at hk; omega
  · simpa [Lib.byteCells, Nat.add_assoc, Nat.add_comm, Nat.add_left_comm] using hown2
end Go.Proofs.Tryz

