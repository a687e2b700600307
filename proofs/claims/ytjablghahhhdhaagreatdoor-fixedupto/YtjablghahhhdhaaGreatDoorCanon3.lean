import Derived.Test.YtjablghahhhdhaaGreatDoorCanon2
import Derived.Test.YtjablghahhhdhaaGreatDoorAns
import Derived.Lib.AppendStr
set_option linter.all false
namespace Go.Proofs.Tryz
open Go.RowKit
set_option maxRecDepth 10000

set_option maxHeartbeats 2000000 in
theorem begin_str {w : World} {B W : Nat} {out : List UInt8} {pv : Value} (s : ByteArray) (hs : s.size ≤ 100) (hp : ∀ i (h : i < s.size), plainB s[i]) (h : Wr w B W out pv) (ho : out.length ≤ 1000) :
    Calls Tryz.prog 13 #[.pointer (some ⟨W, 0, none⟩), .iface 100 (.string s)] w fun e w' => e = .returned (.tuple #[]) ∧ Wr w' B W (out ++ (34 :: (s.data.toList ++ [34]))) pv ∧ Wrote B W w w' := by
  obtain ⟨hlt, hle, ov, hb, hown⟩ := h
  obtain ⟨c0, c1, c2, c3, c4⟩ := two_c0 hb
  obtain ⟨oa, ol, oc, rfl⟩ := owns_shape hown
  have m0 := missVNull; have m1 := missVNumber; have m2 := hitVString; have m3 := missVArray; have m4 := missVObject; have m5 := missVBool
  go_enter Tryz.func13, Tryz.ntmps13
  go_wp2_with (go_at_call 33; refine (appendString_ok s hs hp hown hle ho).mono ?_; rintro e w1 ⟨v', rfl, hown1, k1⟩; obtain ⟨a', l', c', rfl⟩ := owns_shape hown1; obtain ⟨d0, d1, d2, d3, d4⟩ := two_c0 ((k1.block W hlt).trans hb))
  go_end0
  exact ⟨rfl, Wr.wrote hlt hle hb k1 hown1⟩

theorem Canonical_str {w : World} (s : ByteArray) (hs : s.size ≤ 100) (hp : ∀ i (h : i < s.size), plainB s[i]) :
    Calls Tryz.prog 8 #[.iface 100 (.string s)] w fun e w' => e = .returned (.string ⟨(34 :: (s.data.toList ++ [34])).toArray⟩) ∧ Below w.heap.size w w' :=
  Canonical_of (by simp) (begin_str s hs hp (writer_new w) (by simp))

theorem canonAt_str {w : World} (s : ByteArray) (hs : s.size ≤ 100) (hp : ∀ i (h : i < s.size), plainB s[i]) : CanonAt w (strV s) ⟨(34 :: (s.data.toList ++ [34])).toArray⟩ := fun _ _ => Canonical_str s hs hp

theorem canonAt_num (hA : AppendsInt) {B : Nat} {w0 w : World} (n : Int) (h0 : -9223372036854775808 ≤ n) (h1 : n ≤ 9223372036854775807) (ht : Lib.TabBelow Tryz.prog B w "internal/strconv.uint64pow10" .u64 Lib.pow10Tab) (hB : B ≤ w.heap.size) (hne : Lib.itoa n ≠ []) : CanonAt w (98, .int .i64 n) ⟨(Lib.itoa n).toArray⟩ :=
  fun w' k => Canonical_num hA n h0 h1 (tab_up ht (k.mono hB) (Nat.le_trans hB k.size)) hne

set_option maxHeartbeats 2000000 in
theorem iAppendBool_ok {w : World} {B : Nat} {sv : Value} {out : List UInt8} (b : Bool) (hown : w.ownsRow B 5 1 sv out.length (Lib.byteCells out)) (hB : B ≤ w.heap.size) (ho : out.length ≤ 1000) :
    Calls Tryz.prog 74 #[sv, .bool b] w fun e w' => ∃ v', e = .returned v' ∧ w'.ownsRow B 5 1 v' (out.length + (if b then [116, 114, 117, 101] else [102, 97, 108, 115, 101] : List UInt8).length) (Lib.byteCells out ++ Lib.byteCells (if b then [116, 114, 117, 101] else [102, 97, 108, 115, 101])) ∧ Below B w w' ∧ w.grownBy w' sv.ownBlock := by
  obtain ⟨i0, hi0, hz0, hz1, hz2⟩ := info_parts (show (Tryz.prog.info? 5).map (fun i => (i.zero, i.size, i.bytes)) = some (some (.int .u8 0), 1, 1) by kernel_rfl)
  obtain ⟨oa, ol, oc, rfl⟩ := owns_shape hown
  cases b with
  | true =>
    go_enter Tryz.func74, Tryz.ntmps74
    go_wp2_with (refine Lib.wpList_append_own_string _ (by rfl) _ _ 50 9 (by rfl) B 5 i0 Tryz.underlying50 Tryz.underlying9 hi0 hz0 hz1 hz2 _ out.length (Lib.byteCells out) (by rfl) hown ⟨#[116, 114, 117, 101]⟩ (by rfl) (by unfold maxLen; simp [ByteArray.size]; omega) (by simp [ByteArray.size]; omega) hB ?_; intro v' w1 hown1 hgrow1 _; obtain ⟨a', l', c', rfl⟩ := owns_shape hown1)
    go_ret
    exact ⟨_, rfl, hown1, (Below.refl B w).grown hgrow1 hB (fun q hq => (hown.lt q hq).1), hgrow1⟩
  | false =>
    go_enter Tryz.func74, Tryz.ntmps74
    go_wp2_with (refine Lib.wpList_append_own_string _ (by rfl) _ _ 50 9 (by rfl) B 5 i0 Tryz.underlying50 Tryz.underlying9 hi0 hz0 hz1 hz2 _ out.length (Lib.byteCells out) (by rfl) hown ⟨#[102, 97, 108, 115, 101]⟩ (by rfl) (by unfold maxLen; simp [ByteArray.size]; omega) (by simp [ByteArray.size]; omega) hB ?_; intro v' w1 hown1 hgrow1 _; obtain ⟨a', l', c', rfl⟩ := owns_shape hown1)
    go_ret
    exact ⟨_, rfl, hown1, (Below.refl B w).grown hgrow1 hB (fun q hq => (hown.lt q hq).1), hgrow1⟩

def boolB (b : Bool) : List UInt8 := if b then [116, 114, 117, 101] else [102, 97, 108, 115, 101]
set_option maxHeartbeats 2000000 in
theorem AppendBool_ok {w : World} {B : Nat} {sv : Value} {out : List UInt8} (b : Bool) (hown : w.ownsRow B 5 1 sv out.length (Lib.byteCells out)) (hB : B ≤ w.heap.size) (ho : out.length ≤ 1000) :
    Calls Tryz.prog 31 #[sv, .bool b] w fun e w' => ∃ v', e = .returned v' ∧ w'.ownsRow B 5 1 v' (out.length + (boolB b).length) (Lib.byteCells out ++ Lib.byteCells (boolB b)) ∧ Below B w w' ∧ w.grownBy w' sv.ownBlock := by
  obtain ⟨oa, ol, oc, rfl⟩ := owns_shape hown
  go_enter Tryz.func31, Tryz.ntmps31
  go_wp2_with (go_at_call 74; refine (iAppendBool_ok b hown hB ho).mono ?_; rintro e w1 ⟨v', rfl, hown1, k1, g1⟩; obtain ⟨a', l', c', rfl⟩ := owns_shape hown1)
  go_ret
  exact ⟨_, rfl, hown1, k1, g1⟩
set_option maxHeartbeats 2000000 in
theorem begin_bool {w : World} {B W : Nat} {out : List UInt8} {pv : Value} (b : Bool) (h : Wr w B W out pv) (ho : out.length ≤ 1000) :
    Calls Tryz.prog 13 #[.pointer (some ⟨W, 0, none⟩), .iface 96 (.bool b)] w fun e w' => e = .returned (.tuple #[]) ∧ Wr w' B W (out ++ boolB b) pv ∧ Wrote B W w w' := by
  obtain ⟨hlt, hle, ov, hb, hown⟩ := h
  obtain ⟨c0, c1, c2, c3, c4⟩ := two_c0 hb
  obtain ⟨oa, ol, oc, rfl⟩ := owns_shape hown
  have m0 := missVNull; have m1 := missVNumber; have m2 := missVString; have m3 := missVArray; have m4 := missVObject; have m5 := hitVBool
  go_enter Tryz.func13, Tryz.ntmps13
  go_wp2_with (go_at_call 31; refine (AppendBool_ok b hown hle ho).mono ?_; rintro e w1 ⟨v', rfl, hown1, k1, _⟩; obtain ⟨a', l', c', rfl⟩ := owns_shape hown1; obtain ⟨d0, d1, d2, d3, d4⟩ := two_c0 ((k1.block W hlt).trans hb))
  go_end0
  exact ⟨rfl, Wr.wrote hlt hle hb k1 hown1⟩
end Go.Proofs.Tryz

