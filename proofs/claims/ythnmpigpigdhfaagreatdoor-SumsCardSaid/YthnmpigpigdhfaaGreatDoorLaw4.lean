import Derived.Test.YthnmpigpigdhfaaGreatDoorVal7
import Derived.Test.YthnmpigpigdhfaaGreatDoorVal3
import Derived.Test.YthnmpigpigdhfaaGreatDoorClosed
import Derived.Test.YthnmpigpigdhfaaGreatDoorCollect2
import Derived.Test.YthnmpigpigdhfaaGreatDoorBegin
import Derived.Test.YthnmpigpigdhfaaGreatDoorCanon5
import Derived.Lib.ItoaLen
set_option linter.all false
namespace Go.Proofs.Tryz
open Go.RowKit
set_option maxRecDepth 10000

set_option maxHeartbeats 4000000 in
theorem step_end {w : World} {B W : Nat} {out : List UInt8} {a n c : Nat} (h : WrA w B W out (.slice (some ⟨a, 0, none⟩) n c) n) (hn2 : n ≤ 100) (ha : a < B) (ho : out.length ≤ 900) :
    Calls Tryz.prog 137 #[.pointer (some ⟨W, 0, none⟩)] w fun e w' => e = .returned (.tuple #[]) ∧ (∃ g cap, Wr w' B W (out ++ [93]) (.slice (some ⟨g, 0, none⟩) 0 cap)) ∧ Wrote B W w w' := by
  obtain ⟨i0, hi0, hz0, hz1, hz2⟩ := info_parts (show (Tryz.prog.info? 5).map (fun i => (i.zero, i.size, i.bytes)) = some (some (.int .u8 0), 1, 1) by kernel_rfl)
  obtain ⟨hlt, hle, ov, g, cap, cs, hb, hown, hg, hc1, hc2, hbk, s0, s1, s2, s3⟩ := h
  have hne := owns_type hown hbk
  obtain ⟨oa, ol, oc, rfl⟩ := owns_shape hown
  obtain ⟨c0, c1, c2, c3, c4⟩ := two_c0 hb
  have e0 := cells_cell hbk s0
  have e1 := cells_cell hbk s1
  have e2 := cells_cell hbk s2
  have e3 := cells_cell hbk s3
  have hgl := lt_of_block hbk
  have nWg : ¬ W = g := by omega
  have ngW : ¬ g = W := by omega
  have hc1' : (0 : Int) ≤ (cap : Int) := by omega
  go_enter Tryz.func137, Tryz.ntmps137
  go_wp2_with fail
  go_quiet (fail)
  go_wp2_with fail
  go_quiet (fail)
  go_wp2_with fail
  have y0 : ∀ m o, ((w.drewN m).alloc o).cell? ⟨W, 0, none⟩ = some (.slice oa ol oc) := fun m o => ((below_alloc (w.drewN m) o).cell (p := ⟨W, 0, none⟩) (by simpa using c4)).trans c0
  have y1 : ∀ m o, ((w.drewN m).alloc o).frozen? ⟨W, 0, none⟩ = false := fun m o => ((below_alloc (w.drewN m) o).frozen (p := ⟨W, 0, none⟩) (by simpa using c4)).trans c2
  go_region_law (refine step_append_lies _ (by rfl) _ _ _ (by rfl) B 5 i0 _ 1 1 Tryz.underlying83 hi0 hz0 hz1 hz2 rfl (by omega) _ out.length (Lib.byteCells out) (by rfl) (owns_same hown (fun k hk => (below_alloc w _).block k (hown.lt k hk).2)) ⟨w.heap.size, 0, none⟩ 1 1 [.int .u8 93] (by rfl) (by rfl) (World.news_of_block (cs := #[.int .u8 93]) (t := 5) (fr := (0, 0)) (heap_new w _)) (by simp [Value.oneCell']) (by omega) (by unfold maxLen; omega) (by omega) (by simp; omega) (w.heap.size + 1) (by simp) ?_; intro g1 cap1 w1 hown1 hgrow1 hat1 hlt1; have hbl : ∀ k, k < B → w1.heap[k]? = w.heap[k]? := (fun k hk => (hgrow1.block k (by simp; omega) (fun e => by have := (hown.lt k e.symm).1; omega)).trans ((below_alloc w (.cells #[.int .u8 93] 5)).block k (by omega))); obtain ⟨d0, d1, d2, d3, d4⟩ := two_c0 ((hbl W hlt).trans hb))
  all_goals
    go_wp2_with fail
    go_region
    all_goals
      go_wp2_with fail
      have hgs := hgrow1.size
      simp at hgs
      have hf1 : Fr (fun k => k = W ∨ B ≤ k) w w1 := ⟨hgrow1.os, hgrow1.tape, hgrow1.output, by omega, fun k hk hd => hbl k (by omega)⟩
      refine bodyPost_ret (v := .tuple #[]) (by simp [results, Tryz.results137, go_sem]) rfl ⟨rfl, ⟨g, cap, hlt, by simp; omega, _, two_set1 (two_set0 ((hbl W hlt).trans hb)), ?_⟩, ((hf1.setCell _ (.inl (.inl rfl))).setCell _ (.inl (.inl rfl))).drewN 1⟩
      rw [List.length_append, byteCells_append]
      exact owns_off (owns_off hown1 hlt) hlt

theorem WrA.look {w : World} {B W : Nat} {out : List UInt8} {items : Value} {i : Int} (h : WrA w B W out items i) : ∃ g cap, w.cell? ⟨W, 1, none⟩ = some (.slice (some ⟨g, 0, none⟩) 1 cap) ∧ W < w.heap.size := by
  obtain ⟨hlt, hle, ov, g, cap, cs, hb, _⟩ := h
  obtain ⟨_, c1, _, _, c4⟩ := two_c0 hb
  exact ⟨g, cap, c1, c4⟩
theorem Wrote.cell {w w' : World} {B W a i : Nat} {v : Value} (h : Wrote B W w w') (hW : a ≠ W) (hB : a < B) (hc : w.cell? ⟨a, i, none⟩ = some v) : w'.cell? ⟨a, i, none⟩ = some v :=
  (World.cell?_of_block (w := w) (h.block a (lt_cell hc) (by omega))).trans hc
theorem Wrote.trans {w w1 w2 : World} {B W : Nat} (h : Wrote B W w w1) (k : Wrote B W w1 w2) : Wrote B W w w2 := Fr.trans h k (fun _ _ e => e)

abbrev boolV (b : Bool) : Value := .iface 195 (.bool b)
theorem boolB_le (b : Bool) : (boolB b).length ≤ 5 := by cases b <;> decide

def five (b0 b1 b2 b3 b4 : Bool) : List UInt8 := 91 :: (boolB b0 ++ (44 :: (boolB b1 ++ (44 :: (boolB b2 ++ (44 :: (boolB b3 ++ (44 :: (boolB b4 ++ [93])))))))))
set_option maxHeartbeats 8000000 in
theorem Canonical_five {w : World} {a c : Nat} {b0 b1 b2 b3 b4 : Bool} (h0 : w.cell? ⟨a, 0, none⟩ = some (boolV b0)) (h1 : w.cell? ⟨a, 1, none⟩ = some (boolV b1)) (h2 : w.cell? ⟨a, 2, none⟩ = some (boolV b2)) (h3 : w.cell? ⟨a, 3, none⟩ = some (boolV b3)) (h4 : w.cell? ⟨a, 4, none⟩ = some (boolV b4)) :
    Calls Tryz.prog 69 #[arrV a 5 c] w fun e w' => e = .returned (.string ⟨(five b0 b1 b2 b3 b4).toArray⟩) ∧ Below w.heap.size w w' := by
  have ha := lt_cell h0
  simp only at ha
  have q0 := boolB_le b0; have q1 := boolB_le b1; have q2 := boolB_le b2; have q3 := boolB_le b3; have q4 := boolB_le b4
  have ac : ∀ {o i v}, w.cell? ⟨a, i, none⟩ = some v → (w.alloc o).cell? ⟨a, i, none⟩ = some v := fun h => ((below_alloc w _).cell (p := ⟨a, _, none⟩) ha).trans h
  go_enter Tryz.func69, Tryz.ntmps69
  go_wp2_with (go_at_call 136; refine (begin_arr (writer_new w) (by simp)).mono ?_; rintro e w1 ⟨rfl, hW, hk⟩; obtain ⟨g1, cap1, l1, m1⟩ := hW.look)
  refine wp_loop_rounds 7 ?_
  rw [rounds_succ]
  go_wp2_with (go_at_call 137; refine (step_first hW (by omega) (by omega) (by omega) (hk.cell (by omega) (by omega) (ac h0)) (by simp)).mono ?_; rintro e w2 ⟨rfl, hW2, hk2⟩; obtain ⟨g2, cap2, l2, m2⟩ := hW2.look; have hj2 := hk.trans hk2)
  rw [rounds_succ]
  go_wp2_with (go_at_call 137; refine (step_next (i := 1) hW2 (by omega) (by omega) (by omega) (by omega) (hj2.cell (by omega) (by omega) (ac h1)) (by simp; omega)).mono ?_; rintro e w3 ⟨rfl, hW3, hk3⟩; obtain ⟨g3, cap3, l3, m3⟩ := hW3.look; have hj3 := hj2.trans hk3)
  rw [rounds_succ]
  go_wp2_with (go_at_call 137; refine (step_next (i := 2) hW3 (by omega) (by omega) (by omega) (by omega) (hj3.cell (by omega) (by omega) (ac h2)) (by simp; omega)).mono ?_; rintro e w4 ⟨rfl, hW4, hk4⟩; obtain ⟨g4, cap4, l4, m4⟩ := hW4.look; have hj4 := hj3.trans hk4)
  rw [rounds_succ]
  go_wp2_with (go_at_call 137; refine (step_next (i := 3) hW4 (by omega) (by omega) (by omega) (by omega) (hj4.cell (by omega) (by omega) (ac h3)) (by simp; omega)).mono ?_; rintro e w5 ⟨rfl, hW5, hk5⟩; obtain ⟨g5, cap5, l5, m5⟩ := hW5.look; have hj5 := hj4.trans hk5)
  rw [rounds_succ]
  go_wp2_with (go_at_call 137; refine (step_next (i := 4) hW5 (by omega) (by omega) (by omega) (by omega) (hj5.cell (by omega) (by omega) (ac h4)) (by simp; omega)).mono ?_; rintro e w6 ⟨rfl, hW6, hk6⟩; obtain ⟨g6, cap6, l6, m6⟩ := hW6.look; have hj6 := hj5.trans hk6)
  rw [rounds_succ]
  go_wp2_with (go_at_call 137; refine (step_end (n := 5) hW6 (by omega) (by omega) (by simp; omega)).mono ?_; rintro e w7 ⟨rfl, ⟨g7, cap7, hW7⟩, hk7⟩; have hj7 := hj6.trans hk7; obtain ⟨out, hout⟩ : ∃ out, ((((((([] ++ [91]) ++ boolB b0) ++ 44 :: boolB b1) ++ 44 :: boolB b2) ++ 44 :: boolB b3) ++ 44 :: boolB b4) ++ [93]) = out := ⟨_, rfl⟩; rw [hout] at hW7; have hne : out ≠ [] := (by rw [← hout]; simp); have H : Hid _ := hout; clear hout; obtain ⟨_, hle, ov, hb, hown⟩ := hW7; obtain ⟨c0, c1, c2, c3, c4⟩ := two_c0 hb; obtain ⟨g, c, rfl, hc⟩ := owns_bytes hown hne; have hcv := run_convert_bytes_back (P := Tryz.prog) w7 83 9 5 ⟨g, 0, none⟩ c out Tryz.underlying83 Tryz.underlying5 Tryz.underlying9 hc)
  rw [rounds_succ]
  go_wp2_with fail
  go_ret
  exact ⟨by rw [← H.out]; simp [five], hj7.below⟩
end Go.Proofs.Tryz

namespace Go.Proofs.Tryz
open Go.RowKit
set_option maxRecDepth 10000

theorem enters_made1 : Enters Tryz.prog 129 := enters_of Tryz.func129 (by kernel_rfl) rfl
set_option maxHeartbeats 2000000 in
theorem made1_ok {B pb fb sb b T1 b1 : Nat} {w0 w : World} {kn : Option Addr} {d : Int} {x : IV} {L : List IV} (hp : PlaceBox w pb kn d) (hf : Box w fb (.pointer (some ⟨b, 0, none⟩)) 236) (hx : SpotBox w sb (iv x)) (hb : b < B) (c0 : w0.cell? ⟨b, 0, none⟩ = some (.iface T1 (.pointer (some ⟨b1, 0, none⟩)))) (hO : Opens B w0 (.iface T1 (.pointer (some ⟨b1, 0, none⟩))) x L .none) (hs : SameOn (· < B) w0 w) (hB : B ≤ w.heap.size) (hL : L ≠ []) (hL2 : L.length ≤ 1000) :
    Calls Tryz.prog 129 #[.pointer (some ⟨pb, 0, none⟩), .pointer (some ⟨fb, 0, none⟩), .pointer (some ⟨sb, 0, none⟩)] w fun e w' => Below w.heap.size w w' ∧ ∃ y, e = .returned (iv y) ∧ Arr w.heap.size L w' y := by
  have hc := fun w' (k : Below w.heap.size w w') => collect_ok (kn := kn) (d := d) hO (hs.trans (fun j hj => k.block j (Nat.lt_of_lt_of_le hj hB))) (Nat.le_trans hB k.size) hL hL2
  obtain ⟨T, u⟩ := x
  simp only [iv] at hx hc ⊢
  obtain ⟨x0, x1, _, _, x4⟩ := hx.facts
  obtain ⟨p0, p1, _, _, p4⟩ := PlaceBox.facts hp
  have f0 := hf.cell
  have f2 := hf.lt
  have n0 := hs.cell hb c0
  have n2 : b < w.heap.size := by omega
  go_enter Tryz.func129, Tryz.ntmps129
  have s0 := six ((Below.refl _ w).drew) p0 p1 f0 n0 x0 x1
  go_wp2_with fail
  go_region_held3 (fun w' => w'.cell? ⟨pb, 0, none⟩ = some (.pointer kn) ∧ w'.cell? ⟨pb, 1, none⟩ = some (.int .i64 d) ∧ w'.cell? ⟨fb, 0, none⟩ = some (.pointer (some ⟨b, 0, none⟩)) ∧ w'.cell? ⟨b, 0, none⟩ = some (.iface T1 (.pointer (some ⟨b1, 0, none⟩))) ∧ w'.cell? ⟨sb, 0, none⟩ = some (.iface T u) ∧ w'.cell? ⟨sb, 1, none⟩ = some (.pointer none)) (first | exact s0 | exact e4 | go_keep)
    (first | (go_at_call 130; refine (hc _ (Below.refl _ _).drew).mono ?_; rintro e w1 ⟨k1, ⟨Ty, uy⟩, rfl, ha⟩; have kX : Below w.heap.size w w1 := (Below.refl _ _).drew.trans (k1.mono (by simp)); have e4 := six kX p0 p1 f0 n0 x0 x1))
  all_goals
    go_wp2_with fail
    go_ret
    exact ⟨kX, (Ty, uy), rfl, ha⟩

theorem out_collect {B pb fb sb b T1 b1 : Nat} {w0 w : World} {kn : Option Addr} {d : Int} {x : IV} {L : List IV} (hp : PlaceBox w pb kn d) (hf : Box w fb (.pointer (some ⟨b, 0, none⟩)) 236) (hx : SpotBox w sb (iv x)) (hb : b < B) (c0 : w0.cell? ⟨b, 0, none⟩ = some (.iface T1 (.pointer (some ⟨b1, 0, none⟩)))) (hO : Opens B w0 (.iface T1 (.pointer (some ⟨b1, 0, none⟩))) x L .none) (hs : SameOn (· < B) w0 w) (hB : B ≤ w.heap.size) (hL : L ≠ []) (hL2 : L.length ≤ 1000) :
    OutArr (fun k => k < B ∨ k = pb ∨ k = fb ∨ k = sb) w (.func (.func 129) #[] #[.pointer (some ⟨pb, 0, none⟩), .pointer (some ⟨fb, 0, none⟩), .pointer (some ⟨sb, 0, none⟩)]) L := by
  refine ⟨_, _, rfl, enters_made1, ?_, ?_⟩
  · have := hp.lt; have := hf.lt; have := hx.lt
    rintro k (h | h | h | h) <;> omega
  · intro w' hs' hl
    exact made1_ok (hp.same (hs' _ (by simp))) (hf.same (hs' _ (by simp))) (hx.same (hs' _ (by simp))) hb c0 hO (hs.trans (fun k hk => hs' k (.inl hk))) (Nat.le_trans hB hl) hL hL2

set_option maxHeartbeats 2000000 in
theorem made_collect {B b T1 b1 : Nat} {w0 : World} {x : IV} {L : List IV} (hb : b < B) (c0 : w0.cell? ⟨b, 0, none⟩ = some (.iface T1 (.pointer (some ⟨b1, 0, none⟩)))) (hO : Opens B w0 (.iface T1 (.pointer (some ⟨b1, 0, none⟩))) x L .none) (hL : L ≠ []) (hL2 : L.length ≤ 1000) : Mades B w0 (.iface 236 (.pointer (some ⟨b, 0, none⟩))) x (GoodArr B L) := by
  intro w kn d hs hB
  have n0 := hs.cell hb c0
  have n2 : b < w.heap.size := by omega
  have m0 := missLiteral
  have m1 := missVariable
  have m2 := hitCollect
  obtain ⟨T, u⟩ := x
  simp only [iv]
  have k3 := below_alloc3 w (.cells #[.pointer kn, .int .i64 d] 67) (.cells #[.iface T u, .pointer none] 71) (.cells #[.pointer (some ⟨b, 0, none⟩)] 236)
  have y0 : PlaceBox _ w.heap.size kn d := heap_at1 w (.cells #[.pointer kn, .int .i64 d] 67) (.cells #[.iface T u, .pointer none] 71) (.cells #[.pointer (some ⟨b, 0, none⟩)] 236)
  have y1 : SpotBox _ (w.heap.size + 1) (iv (T, u)) := heap_at2 w (.cells #[.pointer kn, .int .i64 d] 67) (.cells #[.iface T u, .pointer none] 71) (.cells #[.pointer (some ⟨b, 0, none⟩)] 236)
  have y2 : Box _ (w.heap.size + 1 + 1) (.pointer (some ⟨b, 0, none⟩)) 236 := heap_new3 w (.cells #[.pointer kn, .int .i64 d] 67) (.cells #[.iface T u, .pointer none] 71) (.cells #[.pointer (some ⟨b, 0, none⟩)] 236)
  have hw := worked_ok (out_collect y0 y2 y1 hb c0 hO (hs.trans (fun k hk => k3.block k (Nat.lt_of_lt_of_le hk hB))) (Nat.le_trans hB k3.size) hL hL2)
  clear y0 y1 y2
  have hk3 := k3.size
  go_enter Tryz.func68, Tryz.ntmps68
  go_wp2_with (go_at_call 128; refine hw.mono ?_; rintro e w1 ⟨k1, r, F, D, rfl, hS, hF, hD⟩; obtain ⟨K, cap, rfl⟩ := hS.shape)
  go_ret
  refine ⟨k3.trans (k1.mono hk3), K, cap, rfl, F, D, hS, ?_, fun k hk => Nat.le_trans hk3 (hD k hk)⟩
  intro k hk
  rcases hF k hk with (h | h | h | h) | h
  · exact .inl h
  · exact .inr (by omega)
  · exact .inr (by omega)
  · exact .inr (by omega)
  · exact .inr (Nat.le_trans hk3 h)

/-- What a filter is opened as. -/
theorem opensQ_of {B : Nat} {w0 : World} {v : Value} {x : IV} {l : List IV} {E : Fin1} (h : Opens B w0 v x l E) : OpensQ B w0 v x (GoodK (.vals l E) B) := by
  intro w kn d hs hB
  refine (h w kn d hs hB).mono ?_
  rintro e w' ⟨k, f, F, D, rfl, hS, hF, hD⟩
  obtain ⟨K, cap, rfl⟩ := hS.shape
  exact ⟨k, K, cap, rfl, F, D, hS, hF, hD⟩
theorem opensQ_res {B : Nat} {w0 : World} {v : Value} {x : IV} {r : Res} (h : OpensR B w0 v x r) : OpensQ B w0 v x (GoodK (match r with | .ok y => .vals [y] .none | .error y => .vals [] (.some y)) B) := by
  intro w kn d hs hB
  refine (h w kn d hs hB).mono ?_
  rintro e w' ⟨k, f, F, D, rfl, hS, hF, hD⟩
  cases r with
  | ok y =>
    obtain ⟨K, cap, rfl⟩ := hS.shape
    exact ⟨k, K, cap, rfl, F, D, hS, hF, hD⟩
  | error y =>
    obtain ⟨K, cap, rfl⟩ := hS.shape
    exact ⟨k, K, cap, rfl, F, D, hS, hF, hD⟩
theorem opensQ_collect {B b T1 b1 : Nat} {w0 : World} {x : IV} {L : List IV} (hb : b < B) (c0 : w0.cell? ⟨b, 0, none⟩ = some (.iface T1 (.pointer (some ⟨b1, 0, none⟩)))) (hO : Opens B w0 (.iface T1 (.pointer (some ⟨b1, 0, none⟩))) x L .none) (hL : L ≠ []) (hL2 : L.length ≤ 1000) : OpensQ B w0 (.iface 236 (.pointer (some ⟨b, 0, none⟩))) x (GoodK (.arr L) B) := by
  intro w kn d hs hB
  refine (open_default (.inr rfl) (made_collect hb c0 hO hL hL2) w kn d hs hB).mono ?_
  rintro e w1 ⟨k1, K, cap, w2, n, rfl, hn, k2, F, D, hS, hF, hD⟩
  exact ⟨k1, K, cap, rfl, F, D, hS.move (fun k hk => k2.block k (hS.lt k hk)) k2.size, fun k hk => (hF k hk).elim .inl (fun h => .inr (Nat.le_trans hn h)), fun k hk => Nat.le_trans hn (hD k hk)⟩
end Go.Proofs.Tryz

namespace Go.Proofs.Tryz
open Go.RowKit
set_option maxRecDepth 10000

/-- x op y of the two numbers of an array. -/
theorem opens_op {B g c : Nat} {w0 : World} {a b : Int} {op : ByteArray} {r : Res} (hop : Plainly op) (hg : g < B) (h0 : w0.cell? ⟨g, 0, none⟩ = some (numV a)) (h1 : w0.cell? ⟨g, 1, none⟩ = some (numV b)) (hr : OperIs B w0 (228, .int .i64 a) op (228, .int .i64 b) r) {v : Value} (hv : Rep (· < B) w0 v (cmp op)) :
    OpensR B w0 v (101, .slice (some ⟨g, 0, none⟩) 2 c) r := by
  obtain ⟨b9, x9, y9, rfl, hb, c0, c1, c2, r1, r2⟩ := Rep.bin_of hv
  · skip
    obtain ⟨T1, b1, rfl⟩ := r1.shape
    obtain ⟨T2, b2, rfl⟩ := r2.shape
    exact opens_oper hop hb c0 c1 c2 (opens_elem 0 (by omega) hg h0 r1) (opens_elem 1 (by omega) hg h1 r2) hr

theorem opens_of_gives {B : Nat} {w0 : World} {v : Value} {x y : IV} (h : OpensR B w0 v x (.ok y)) : Opens B w0 v x [y] .none := h

theorem comma {B : Nat} {w0 : World} {x : IV} {l1 l2 : List IV} {s t : Tr} (h1 : ∀ v, Rep (· < B) w0 v s → Opens B w0 v x l1 .none) (h2 : ∀ v, Rep (· < B) w0 v t → Opens B w0 v x l2 .none) (hl : l2 ≠ []) {v : Value} (hv : Rep (· < B) w0 v (.bin s ⟨#[44]⟩ t)) : Opens B w0 v x (l1 ++ l2) .none := by
  obtain ⟨b9, x9, y9, rfl, hb, c0, c1, c2, r1, r2⟩ := Rep.bin_of hv
  · skip
    obtain ⟨T1, b1, rfl⟩ := r1.shape
    obtain ⟨T2, b2, rfl⟩ := r2.shape
    exact opens_comma (.inl hl) hb c0 c1 c2 (h1 _ r1) (h2 _ r2)

abbrev boolI (b : Bool) : IV := (195, .bool b)
theorem opens_order {B g c : Nat} {w0 : World} {a b : Int} (hg : g < B) (h0 : w0.cell? ⟨g, 0, none⟩ = some (numV a)) (h1 : w0.cell? ⟨g, 1, none⟩ = some (numV b)) {v : Value}
    (hv : Rep (· < B) w0 v (.collect (.bin (.bin (.bin (.bin (cmp ⟨#[61, 61]⟩) ⟨#[44]⟩ (cmp ⟨#[60]⟩)) ⟨#[44]⟩ (cmp ⟨#[60, 61]⟩)) ⟨#[44]⟩ (cmp ⟨#[62]⟩)) ⟨#[44]⟩ (cmp ⟨#[33, 61]⟩)))) :
    OpensQ B w0 v (101, .slice (some ⟨g, 0, none⟩) 2 c) (GoodK (.arr [boolI (decide (sgn a b = 0)), boolI (decide (sgn a b < 0)), boolI (decide (sgn a b ≤ 0)), boolI (decide (0 < sgn a b)), boolI (!decide (sgn a b = 0))]) B) := by
  obtain ⟨b9, x9, rfl, hb, c0, r⟩ := Rep.collect_of hv
  · skip
    obtain ⟨T1, b1, rfl⟩ := r.shape
    refine opensQ_collect hb c0 ?_ (by simp) (by simp)
    exact comma (l1 := [_, _, _, _]) (fun _ => comma (l1 := [_, _, _]) (fun _ => comma (l1 := [_, _]) (fun _ => comma (l1 := [_])
      (fun _ r => opens_of_gives (opens_op plainly_eq hg h0 h1 (operate_eq a b) r))
      (fun _ r => opens_of_gives (opens_op plainly_lt hg h0 h1 (operate_lt a b) r)) (by simp))
      (fun _ r => opens_of_gives (opens_op plainly_le hg h0 h1 (operate_le a b) r)) (by simp))
      (fun _ r => opens_of_gives (opens_op plainly_gt hg h0 h1 (operate_gt a b) r)) (by simp))
      (fun _ r => opens_of_gives (opens_op plainly_ne hg h0 h1 (operate_ne a b) r)) (by simp) r
end Go.Proofs.Tryz

namespace Go.Proofs.Tryz
open Go.RowKit
set_option maxRecDepth 10000

/-- The first ask of a stream of this kind gives a value with this text, and then it is done. -/
def NextIs (κ : Kd) (w : World) (out : ByteArray) : Prop := ∀ (w1 : World) (sb : Nat) (f : Value) (F D : Nat → Prop), Below w.heap.size w w1 → StreamBox w1 sb f → SK κ F D w1 f → ¬ D sb → (∀ k, D k → w.heap.size ≤ k) →
  Calls Tryz.prog 13 #[.pointer (some ⟨sb, 0, none⟩)] w1 fun e w' => Fr D w1 w' ∧ e = .returned (ansV 1 out) ∧ StreamBox w' sb f ∧ ∃ F' D', (∀ k, F' k → F k ∨ w1.heap.size ≤ k) ∧ (∀ k, D' k → D k ∨ w1.heap.size ≤ k) ∧ Str [] .none F' D' w' f

theorem Fr.belowN {D : Nat → Prop} {n : Nat} {a w w' : World} (h : Fr D w w') (hD : ∀ k, D k → n ≤ k) (hb : Below n a w) (hn : n ≤ w.heap.size) : Below n a w' :=
  hb.trans ⟨h.os, h.tape, h.output, h.size, fun k hk => h.block k (by omega) (fun e => by have := hD k e; omega)⟩

theorem next_vals {w : World} {y : IV} {out : ByteArray} (hc : ∀ w', Below w.heap.size w w' → CanonAt w' y out) : NextIs (.vals [y] .none) w out := by
  intro w1 sb f F D hb hsb hS hD hDn
  exact next_some hsb hS hD (fun w' fr => hc w' (fr.belowN hDn hb hb.size))
theorem next_arrs {w : World} {l : List IV} {out : ByteArray} (hc : ∀ w' y, Below w.heap.size w w' → Arr w.heap.size l w' y → CanonAt w' y out) : NextIs (.arr l) w out := by
  intro w1 sb f F D hb hsb hS hD hDn
  exact next_arr hsb hS (SK.sub (κ := .arr l) hS) hD (fun w' y fr ha => hc w' y (fr.belowN hDn hb hb.size) (ha.low hb.size))

/-- What a filter's tree is opened as, for an array of two numbers. -/
def TreeIs (w : World) (t : Tr) (a b : Int) (κ : Kd) : Prop := ∀ (w0 : World) (g c : Nat) (v : Value), Below w.heap.size w w0 → g < w0.heap.size → w0.cell? ⟨g, 0, none⟩ = some (numV a) → w0.cell? ⟨g, 1, none⟩ = some (numV b) → Rep (· < w0.heap.size) w0 v t → OpensQ w0.heap.size w0 v (101, .slice (some ⟨g, 0, none⟩) 2 c) (GoodK κ w0.heap.size)

theorem four_facts {w : World} {b : Nat} {x y z v : Value} {t : TypeId} (h : w.heap[b]? = some (.cells #[x, y, z, v] t (0, 0))) : (w.cell? ⟨b, 0, none⟩ = some x ∧ w.cell? ⟨b, 1, none⟩ = some y ∧ w.cell? ⟨b, 2, none⟩ = some z ∧ w.cell? ⟨b, 3, none⟩ = some v) ∧ (w.frozen? ⟨b, 0, none⟩ = false ∧ w.frozen? ⟨b, 1, none⟩ = false ∧ w.frozen? ⟨b, 2, none⟩ = false ∧ w.frozen? ⟨b, 3, none⟩ = false) ∧ b < w.heap.size := by
  refine ⟨⟨?_, ?_, ?_, ?_⟩, ⟨?_, ?_, ?_, ?_⟩, lt_of_block h⟩ <;> simp [World.cell?, World.frozen?, h]
def resV (st : Int) (o : Value) (e : ByteArray) : Value := .agg #[.int .u8 st, o, .string e, .int .i64 0]

set_option maxHeartbeats 8000000 in
theorem run_gives (hP : ParsesAll) (hI : ParsesInt) {w : World} {f s : ByteArray} {t : Tr} {a b : Int} {κ : Kd} {out : ByteArray} (a0 : -9223372036854775808 ≤ a) (a1 : a ≤ 9223372036854775807) (b0 : -9223372036854775808 ≤ b) (b1 : b ≤ 9223372036854775807) (hs : s.data.toList = pairB a b) (hm : s.size ≤ 100000) (hf : readAs f = some t) (hfs : f.size ≤ 2000) (hS : SignsIn w) (hok : κ.ok) (hO : TreeIs w t a b κ) (hN : NextIs κ w out) :
    Calls Tryz.prog 6 #[.string f, .string s, .int .i64 2, .int .i64 50] w fun e w' => Below w.heap.size w w' ∧ ∃ g c, e = .returned (resV 0 (.slice (some ⟨g, 0, none⟩) 1 c) ⟨#[]⟩) ∧ w'.cell? ⟨g, 0, none⟩ = some (.string out) := by
  obtain ⟨i0, hi0, hz0, hz1, hz2⟩ := info_parts (show (Tryz.prog.info? 9).map (fun i => (i.zero, i.size, i.bytes)) = some (some (.string ⟨#[]⟩), 1, 16) by kernel_rfl)
  have hsg := hS.2
  go_enter Tryz.func6, Tryz.ntmps6
  go_wp2_with (first
    | (go_at_call 10; refine (readAs_ok hI hf _ hfs (hS.below (below_alloc _ _))).mono ?_; rintro e w1 ⟨T, bb, rfl, k1, r1⟩; have kA : Below w.heap.size w w1 := (below_alloc _ _).trans (k1.mono (by simp)))
    | (go_at_call 11; refine (Read_pair hP a0 a1 b0 b1 hs hm).mono ?_; rintro e w2 ⟨k2, g, c, rfl, hg, cA, cB⟩; have kB : Below w.heap.size w w2 := kA.trans (k2.mono kA.size); have r2 : Rep (· < w2.heap.size) w2 _ t := (r1.upon k2).to (fun _ _ _ _ hv => ⟨cell_lt hv, hv⟩))
    | (go_at_call 12; refine (Start_ok hI hok (.inr rfl) (hO w2 g c _ kB (lt_cell cA) cA cB r2) (hS.below kB) (Nat.lt_of_lt_of_le hsg kB.size) (SameOn.refl _ _) (Nat.le_refl _)).mono ?_; rintro e w3 ⟨k3, sb, fv, F, D, rfl, hsb, hsk, hF, hD, hnF, hsbl⟩))
  have kC : Below w.heap.size w w3 := kB.trans (k3.mono kB.size)
  have nD : ¬ D sb := fun e => hnF (hsk.sub _ e)
  have hDw : ∀ k, D k → w.heap.size ≤ k := fun k hk => Nat.le_trans kB.size (hD k hk)
  have hsl := lt_of_block hsb
  have hw1 : w.heap.size < w1.heap.size := by have := k1.size; simp at this; omega
  have hw2 : w.heap.size < w2.heap.size := by have := k2.size; omega
  have hR3 := (k3.block w.heap.size hw2).trans ((k2.block w.heap.size hw1).trans ((k1.block w.heap.size (by simp)).trans (heap_new w _)))
  refine wp_loop_rounds 2 ?_
  rw [rounds_succ]
  go_wp2_with (first
    | (go_at_call 13; refine (hN w3 sb fv F D kC hsb hsk nD hDw).mono ?_; rintro e w4 ⟨fr4, rfl, hsb4, F', D', hF', hD', hS4⟩; simp only [ansV]; have hs4 := fr4.size)
    | (refine wpList_append_lies _ (by rfl) _ _ _ (by rfl) w.heap.size 9 i0 _ 1 16 Tryz.underlying24 hi0 hz0 hz1 hz2 rfl (by omega) _ 0 [] (by rfl) (World.ownsRow_nil _ _ _ _) ⟨w4.heap.size + 1, 0, none⟩ 1 1 [.string out] (by rfl) (by rfl) (World.news_of_block (cs := #[.string out]) (t := 9) (fr := (0, 0)) (heap_new2' w4 _ _)) (by simp [Value.oneCell']) (by omega) (by unfold maxLen; omega) (by omega) (by have := kC.size; simp; omega) (w4.heap.size + 2) (by simp) ?_; intro g5 cap5 w5 ow5 hgr5 hat5 hlt5))
  rw [rounds_succ]
  have b5 : Below w4.heap.size w4 w5 := (below_alloc2 w4 _ _).trans ((Below.of_grown hgr5).mono (by simp; omega))
  have hR5 := (b5.block w.heap.size (by have := k3.size; omega)).trans ((fr4.block w.heap.size (by have := k3.size; omega) (fun e => by have := hD _ e; omega)).trans hR3)
  have hb5 := b5.size
  have hk3s := k3.size
  have hsb5 : StreamBox w5 sb fv := hsb4.same (b5.block sb (by omega))
  have hS5 : Str [] .none F' D' w5 fv := hS4.move (fun k hk => b5.block k (hS4.lt k hk)) b5.size
  have nD' : ¬ D' sb := fun e => by
    rcases hD' _ e with h | h
    · exact nD h
    · omega
  go_wp2_with (go_at_call 13; refine (next_done hsb5 hS5 nD').mono ?_; rintro e w6 ⟨fr6, rfl⟩; simp only [ansV]; obtain ⟨⟨m0, m1, m2, m3⟩, ⟨p0, p1, p2, p3⟩, ml⟩ := four_facts ((fr6.block w.heap.size (by omega) (fun e => e.elim (fun e => (hD' _ e).elim (fun e => by have := hD _ e; omega) (fun e => by omega)) (fun e => by omega))).trans hR5))
  obtain rfl : g5 = w4.heap.size + 2 := by
    rcases hat5 with e | e
    · simp [Value.ownBlock] at e
    · exact e
  have hD'w : ∀ k, D' k ∨ k = sb → w.heap.size ≤ k := by
    rintro k (e | e)
    · rcases hD' k e with h | h
      · exact hDw k h
      · omega
    · omega
  have kD : Below w.heap.size w w4 := fr4.belowN hDw kC kC.size
  have kE : Below w.heap.size w w5 := kD.trans (b5.mono kD.size)
  have kF : Below w.heap.size w w6 := fr6.belowN hD'w kE kE.size
  have c5 : w5.cell? ⟨w4.heap.size + 2, 0, none⟩ = some (.string out) := by
    rcases ow5.2 with ⟨e, _⟩ | ⟨g', cap', cur, e, _, hb, _, _, _, ht⟩
    · cases e
    · cases e
      have e0 : cur.toList[0]? = some (.string out) := by rw [← List.getElem?_take_of_lt (show 0 < (0 + 1) * 1 by omega), ht]; rfl
      exact cells_cell hb (by simpa using e0)
  have c6 : w6.cell? ⟨w4.heap.size + 2, 0, none⟩ = some (.string out) := (World.cell?_of_block (w := w5) (fr6.block (w4.heap.size + 2) hlt5 (fun e => e.elim (fun e => by have := hS4.lt _ (hS4.sub _ e); omega) (fun e => by omega)))).trans c5
  refine bodyPost_ret (v := resV 0 (.slice (some ⟨w4.heap.size + 2, 0, none⟩) 1 cap5) ⟨#[]⟩) (by simp [results, Tryz.results6, go_sem, m0, m1, m2, m3, ml, resV]) rfl ⟨((((kF.setCell (p := ⟨w.heap.size, 0, none⟩) (Nat.le_refl _) _).setCell (p := ⟨w.heap.size, 1, none⟩) (Nat.le_refl _) _).setCell (p := ⟨w.heap.size, 2, none⟩) (Nat.le_refl _) _).setCell (p := ⟨w.heap.size, 3, none⟩) (Nat.le_refl _) _).alloc (by simp; omega) _, _, cap5, rfl, ?_⟩
  have c6l := lt_cell c6
  simp only at c6l
  rw [(below_alloc _ _).cell (p := ⟨w4.heap.size + 2, 0, none⟩) (by simpa using c6l)]
  rw [World.cell?_setCell_far _ _ _ _ (by simp; omega), World.cell?_setCell_far _ _ _ _ (by simp; omega), World.cell?_setCell_far _ _ _ _ (by simp; omega), World.cell?_setCell_far _ _ _ _ (by simp; omega)]
  exact c6
end Go.Proofs.Tryz

namespace Go.Proofs.Tryz
open Go.RowKit
set_option maxRecDepth 10000

set_option maxHeartbeats 8000000 in
theorem run_fails (hP : ParsesAll) (hI : ParsesInt) {w : World} {f s : ByteArray} {t : Tr} {a b : Int} {y : IV} {out : ByteArray} (a0 : -9223372036854775808 ≤ a) (a1 : a ≤ 9223372036854775807) (b0 : -9223372036854775808 ≤ b) (b1 : b ≤ 9223372036854775807) (hs : s.data.toList = pairB a b) (hm : s.size ≤ 100000) (hf : readAs f = some t) (hfs : f.size ≤ 2000) (hS : SignsIn w) (hO : TreeIs w t a b (.vals [] (.some y))) (hc : ∀ w', CanonAt w' y out) :
    Calls Tryz.prog 6 #[.string f, .string s, .int .i64 1, .int .i64 0] w fun e w' => Below w.heap.size w w' ∧ e = .returned (resV 2 (.slice none 0 0) out) := by
  have hsg := hS.2
  go_enter Tryz.func6, Tryz.ntmps6
  go_wp2_with (first
    | (go_at_call 10; refine (readAs_ok hI hf _ hfs (hS.below (below_alloc _ _))).mono ?_; rintro e w1 ⟨T, bb, rfl, k1, r1⟩; have kA : Below w.heap.size w w1 := (below_alloc _ _).trans (k1.mono (by simp)))
    | (go_at_call 11; refine (Read_pair hP a0 a1 b0 b1 hs hm).mono ?_; rintro e w2 ⟨k2, g, c, rfl, hg, cA, cB⟩; have kB : Below w.heap.size w w2 := kA.trans (k2.mono kA.size); have r2 : Rep (· < w2.heap.size) w2 _ t := (r1.upon k2).to (fun _ _ _ _ hv => ⟨cell_lt hv, hv⟩))
    | (go_at_call 12; refine (Start_ok hI (κ := .vals [] (.some y)) (.inr ⟨y, rfl⟩) (.inl rfl) (hO w2 g c _ kB (lt_cell cA) cA cB r2) (hS.below kB) (Nat.lt_of_lt_of_le hsg kB.size) (SameOn.refl _ _) (Nat.le_refl _)).mono ?_; rintro e w3 ⟨k3, sb, fv, F, D, rfl, hsb, hsk, hF, hD, hnF, hsbl⟩))
  have kC : Below w.heap.size w w3 := kB.trans (k3.mono kB.size)
  have nD : ¬ D sb := fun e => hnF (hsk.sub _ e)
  have hDw : ∀ k, D k → w.heap.size ≤ k := fun k hk => Nat.le_trans kB.size (hD k hk)
  have hsl := lt_of_block hsb
  have hw1 : w.heap.size < w1.heap.size := by have := k1.size; simp at this; omega
  have hw2 : w.heap.size < w2.heap.size := by have := k2.size; omega
  have hR3 := (k3.block w.heap.size hw2).trans ((k2.block w.heap.size hw1).trans ((k1.block w.heap.size (by simp)).trans (heap_new w _)))
  have hk3s := k3.size
  refine wp_loop_rounds 1 ?_
  rw [rounds_succ]
  go_wp2_with (go_at_call 13; refine (next_thrown hsb hsk nD (fun w' _ => hc w')).mono ?_; rintro e w6 ⟨fr6, rfl⟩; simp only [ansV]; obtain ⟨⟨m0, m1, m2, m3⟩, ⟨p0, p1, p2, p3⟩, ml⟩ := four_facts ((fr6.block w.heap.size (by omega) (fun e => e.elim (fun e => by have := hD _ e; omega) (fun e => by omega))).trans hR3))
  have hD'w : ∀ k, D k ∨ k = sb → w.heap.size ≤ k := by
    rintro k (e | e)
    · exact hDw k e
    · omega
  have kF : Below w.heap.size w w6 := fr6.belowN hD'w kC kC.size
  exact bodyPost_ret (v := resV 2 (.slice none 0 0) out) (by simp [results, Tryz.results6, go_sem, m0, m1, m2, m3, ml, resV]) rfl ⟨((((kF.setCell (p := ⟨w.heap.size, 0, none⟩) (Nat.le_refl _) _).setCell (p := ⟨w.heap.size, 1, none⟩) (Nat.le_refl _) _).setCell (p := ⟨w.heap.size, 2, none⟩) (Nat.le_refl _) _).setCell (p := ⟨w.heap.size, 3, none⟩) (Nat.le_refl _) _).alloc (by simp; omega) _, rfl⟩
end Go.Proofs.Tryz

namespace Go.Proofs.Tryz
open Go.RowKit
set_option maxRecDepth 10000

set_option maxHeartbeats 4000000 in
theorem gives_ok {w : World} {f s want : ByteArray} (hr : Calls Tryz.prog 6 #[.string f, .string s, .int .i64 2, .int .i64 50] w fun e w' => Below w.heap.size w w' ∧ ∃ g c, e = .returned (resV 0 (.slice (some ⟨g, 0, none⟩) 1 c) ⟨#[]⟩) ∧ w'.cell? ⟨g, 0, none⟩ = some (.string want)) :
    Calls Tryz.prog 8 #[.string f, .string s, .string want] w fun e w' => e = .returned (.bool true) ∧ Below w.heap.size w w' := by
  go_enter Tryz.func8, Tryz.ntmps8
  go_wp2_with (go_at_call 6; refine hr.mono ?_; rintro e w1 ⟨k1, g, c, rfl, cA⟩; simp only [resV]; have hgl : g < w1.heap.size := lt_cell cA)
  go_ret
  exact ⟨rfl, k1.alloc k1.size _⟩
set_option maxHeartbeats 4000000 in
theorem over_ok {w : World} {op s : ByteArray} {x : Int} (hop : op.size = 1) (hr : Calls Tryz.prog 6 #[.string (⟨#[46, 91, 48, 93, 32]⟩ ++ op ++ ⟨#[32, 46, 91, 49, 93]⟩), .string s, .int .i64 1, .int .i64 0] w fun e w' => Below w.heap.size w w' ∧ e = .returned (resV 2 (.slice none 0 0) ⟨#[34, 111, 118, 101, 114, 102, 108, 111, 119, 34]⟩)) :
    Calls Tryz.prog 5 #[.string op, .string s, .int .i64 x, .bool true] w fun e w' => e = .returned (.bool true) ∧ Below w.heap.size w w' := by
  go_enter Tryz.func5, Tryz.ntmps5
  go_wp2_with (go_at_call 6; refine hr.mono ?_; rintro e w1 ⟨k1, rfl⟩; simp only [resV])
  go_ret
  exact ⟨rfl, k1.alloc k1.size _⟩

/-- strconv.Itoa: what the library's contract says of it. -/
def ItoaIs : Prop := ∀ (n : Int) (w : World), -9223372036854775808 ≤ n → n ≤ 9223372036854775807 → Lib.TabBelow Tryz.prog w.heap.size w "internal/strconv.uint64pow10" .u64 Lib.pow10Tab →
  Calls Tryz.prog 4 #[.int .i64 n] w fun e w' => e = .returned (.string ⟨(Lib.itoa n).toArray⟩) ∧ Below w.heap.size w w'

set_option maxHeartbeats 4000000 in
theorem fits_ok (hIt : ItoaIs) {w : World} {op s : ByteArray} {x : Int} (x0 : -9223372036854775808 ≤ x) (x1 : x ≤ 9223372036854775807) (ht : Lib.TabBelow Tryz.prog w.heap.size w "internal/strconv.uint64pow10" .u64 Lib.pow10Tab) (hop : op.size = 1) (hr : ∀ w0, Below w.heap.size w w0 → Calls Tryz.prog 8 #[.string (⟨#[46, 91, 48, 93, 32]⟩ ++ op ++ ⟨#[32, 46, 91, 49, 93]⟩), .string s, .string ⟨(Lib.itoa x).toArray⟩] w0 fun e w' => e = .returned (.bool true) ∧ Below w0.heap.size w0 w') :
    Calls Tryz.prog 5 #[.string op, .string s, .int .i64 x, .bool false] w fun e w' => e = .returned (.bool true) ∧ Below w.heap.size w w' := by
  go_enter Tryz.func5, Tryz.ntmps5
  go_wp2_with (first
    | (go_at_call 4; refine (hIt x _ x0 x1 ht).mono ?_; rintro e w1 ⟨rfl, k1⟩)
    | (go_at_call 8; refine (hr _ k1).mono ?_; rintro e w2 ⟨rfl, k2⟩))
  go_ret
  exact ⟨rfl, k1.trans (k2.mono k1.size)⟩
end Go.Proofs.Tryz

namespace Go.Proofs.Tryz
open Go.RowKit
set_option maxRecDepth 10000

/-- What the library's contracts say. -/
structure Shelf : Prop where
  all : ParsesAll
  int : ParsesInt
  app : AppendsInt
  itoa : ItoaIs

def tOver : ByteArray := ⟨#[111, 118, 101, 114, 102, 108, 111, 119]⟩
def tZero : ByteArray := ⟨#[122, 101, 114, 111]⟩

/-- The variables lie as the program's text lays them. -/
structure Laid (w : World) : Prop where
  signs : SignsIn w
  tab : Lib.TabBelow Tryz.prog w.heap.size w "internal/strconv.uint64pow10" .u64 Lib.pow10Tab
  over : ∃ eb, ErrIn w 6 eb tOver
  zero : ∃ eb, ErrIn w 11 eb tZero
theorem Laid.below {w w' : World} (h : Laid w) (k : Below w.heap.size w w') : Laid w' :=
  ⟨h.signs.below k, tab_up h.tab k k.size, by obtain ⟨eb, he⟩ := h.over; exact ⟨eb, he.below k⟩, by obtain ⟨eb, he⟩ := h.zero; exact ⟨eb, he.below k⟩⟩

theorem plain_over : ∀ i (h : i < tOver.size), plainB tOver[i] := by unfold plainB; decide
theorem plain_zero : ∀ i (h : i < tZero.size), plainB tZero[i] := by unfold plainB; decide
theorem canon_over (w : World) : CanonAt w (strV tOver) ⟨#[34, 111, 118, 101, 114, 102, 108, 111, 119, 34]⟩ := canonAt_str tOver (by decide) plain_over
theorem canon_zero (w : World) : CanonAt w (strV tZero) ⟨#[34, 122, 101, 114, 111, 34]⟩ := canonAt_str tZero (by decide) plain_zero

def inI64 (n : Int) : Prop := -9223372036854775808 ≤ n ∧ n ≤ 9223372036854775807

def kdOf (r : Res) : Kd := match r with
  | .ok y => .vals [y] .none
  | .error y => .vals [] (.some y)
theorem tree_op {w : World} {op : ByteArray} {a b : Int} {r : Res} (hop : Plainly op) (hr : ∀ w0, Below w.heap.size w w0 → OperIs w0.heap.size w0 (228, .int .i64 a) op (228, .int .i64 b) r) : TreeIs w (cmp op) a b (kdOf r) := by
  intro w0 g c v k hg h0 h1 hv
  cases r with
  | ok y => exact opensQ_res (opens_op hop hg h0 h1 (hr w0 k) hv)
  | error y => exact opensQ_res (opens_op hop hg h0 h1 (hr w0 k) hv)

theorem itoa_ne (n : Int) : Lib.itoa n ≠ [] := by obtain ⟨c, r, e, _⟩ := itoa_first n; rw [e]; simp

/-- x op y gives so much. -/
theorem op_gives (S : Shelf) {w : World} (hE : Laid w) {op f s : ByteArray} {a b x : Int} (ha : inI64 a) (hb : inI64 b) (hx : inI64 x) (hs : s.data.toList = pairB a b) (hm : s.size ≤ 100000) (hf : readAs f = some (cmp op)) (hfs : f.size ≤ 2000) (hop : Plainly op) (hr : ∀ w0, Below w.heap.size w w0 → OperIs w0.heap.size w0 (228, .int .i64 a) op (228, .int .i64 b) (.ok (228, .int .i64 x))) :
    Calls Tryz.prog 8 #[.string f, .string s, .string ⟨(Lib.itoa x).toArray⟩] w fun e w' => e = .returned (.bool true) ∧ Below w.heap.size w w' :=
  gives_ok (run_gives S.all S.int ha.1 ha.2 hb.1 hb.2 hs hm hf hfs hE.signs (κ := .vals [(228, .int .i64 x)] .none) (.inl (by simp)) (tree_op hop hr)
    (next_vals (fun w' k => canonAt_num S.app (w0 := w) x hx.1 hx.2 (tab_up hE.tab k (Nat.le_refl _)) k.size (itoa_ne x))))

theorem op_fails (S : Shelf) {w : World} (hE : Laid w) {op f s : ByteArray} {a b : Int} {txt out : ByteArray} (ha : inI64 a) (hb : inI64 b) (hs : s.data.toList = pairB a b) (hm : s.size ≤ 100000) (hf : readAs f = some (cmp op)) (hfs : f.size ≤ 2000) (hop : Plainly op) (hr : ∀ w0, Below w.heap.size w w0 → OperIs w0.heap.size w0 (228, .int .i64 a) op (228, .int .i64 b) (.error (strV txt))) (hc : ∀ w', CanonAt w' (strV txt) out) :
    Calls Tryz.prog 6 #[.string f, .string s, .int .i64 1, .int .i64 0] w fun e w' => Below w.heap.size w w' ∧ e = .returned (resV 2 (.slice none 0 0) out) :=
  run_fails S.all S.int ha.1 ha.2 hb.1 hb.2 hs hm hf hfs hE.signs (tree_op hop hr) hc

/-- reckons is right: it fits, or it is too much. -/
theorem reckons_ok (S : Shelf) {w : World} (hE : Laid w) {op f s : ByteArray} {a b x : Int} {ov : Bool} (ha : inI64 a) (hb : inI64 b) (hx : inI64 x) (hs : s.data.toList = pairB a b) (hm : s.size ≤ 100000) (hf : readAs f = some (cmp op)) (hfs : f.size ≤ 2000) (hop : Plainly op) (hop1 : op.size = 1) (hfe : ⟨#[46, 91, 48, 93, 32]⟩ ++ op ++ ⟨#[32, 46, 91, 49, 93]⟩ = f)
    (h0 : ov = false → ∀ w0, Below w.heap.size w w0 → OperIs w0.heap.size w0 (228, .int .i64 a) op (228, .int .i64 b) (.ok (228, .int .i64 x)))
    (h1 : ov = true → ∀ w0, Below w.heap.size w w0 → OperIs w0.heap.size w0 (228, .int .i64 a) op (228, .int .i64 b) (.error (strV tOver))) :
    Calls Tryz.prog 5 #[.string op, .string s, .int .i64 x, .bool ov] w fun e w' => e = .returned (.bool true) ∧ Below w.heap.size w w' := by
  cases ov with
  | false =>
    refine fits_ok S.itoa hx.1 hx.2 hE.tab hop1 (fun w0 k => ?_)
    rw [hfe]
    exact op_gives S (hE.below k) ha hb hx hs hm hf hfs hop (fun w1 k1 => h0 rfl w1 (k.trans (k1.mono k.size)))
  | true =>
    refine over_ok hop1 ?_
    rw [hfe]
    exact op_fails S hE ha hb hs hm hf hfs hop (h1 rfl) canon_over

/-- An error that lies in a variable, further on. -/
theorem err_on {w w0 : World} {g : Nat} {eb : Addr} {txt : ByteArray} (h : ErrIn w g eb txt) (k : Below w.heap.size w w0) : g < w0.heap.size ∧ eb.block < w0.heap.size ∧ ErrIn w0 g eb txt :=
  ⟨Nat.lt_of_lt_of_le (lt_cell h.1) k.size, Nat.lt_of_lt_of_le (lt_cell h.2) k.size, h.below k⟩

theorem plus_ok (S : Shelf) {w : World} (hE : Laid w) {s : ByteArray} {a b : Int} {ov : Bool} (ha : inI64 a) (hb : inI64 b) (hs : s.data.toList = pairB a b) (hm : s.size ≤ 100000) (hov : ov = true ↔ ((0 ≤ a ↔ 0 ≤ b) ∧ ¬ (0 ≤ wrap64 (a + b) ↔ 0 ≤ a))) :
    Calls Tryz.prog 5 #[.string ⟨#[43]⟩, .string s, .int .i64 (wrap64 (a + b)), .bool ov] w fun e w' => e = .returned (.bool true) ∧ Below w.heap.size w w' := by
  obtain ⟨a0, a1⟩ := ha
  obtain ⟨b0, b1⟩ := hb
  refine reckons_ok S hE ⟨a0, a1⟩ ⟨b0, b1⟩ ?_ hs hm readsPlus (by decide) plainly_plus rfl rfl ?_ ?_
  · unfold inI64 wrap64; omega
  · intro h w0 k
    refine operate_plus_fits a b ?_
    rw [h] at hov
    simp only [Bool.false_eq_true, false_iff] at hov
    unfold wrap64 at hov ⊢
    rw [decide_eq_decide]
    omega
  · intro h w0 k
    obtain ⟨eb, he⟩ := hE.over
    obtain ⟨e1, e2, e3⟩ := err_on he k
    refine operate_plus_over a b ?_ e1 e2 e3
    rw [h] at hov
    simp only [true_iff] at hov
    unfold wrap64 at hov ⊢
    by_cases hb0 : b < 0
    · simp [hb0]; omega
    · simp [hb0]; omega
end Go.Proofs.Tryz

namespace Go.Proofs.Tryz
open Go.RowKit
set_option maxRecDepth 10000

theorem wrap_in (n : Int) : inI64 (wrap64 n) := by unfold inI64 wrap64; omega

theorem minus_ok (S : Shelf) {w : World} (hE : Laid w) {s : ByteArray} {a b : Int} {ov : Bool} (ha : inI64 a) (hb : inI64 b) (hs : s.data.toList = pairB a b) (hm : s.size ≤ 100000) (hov : ov = true ↔ (¬ (0 ≤ a ↔ 0 ≤ b) ∧ ¬ (0 ≤ wrap64 (a - b) ↔ 0 ≤ a))) :
    Calls Tryz.prog 5 #[.string ⟨#[45]⟩, .string s, .int .i64 (wrap64 (a - b)), .bool ov] w fun e w' => e = .returned (.bool true) ∧ Below w.heap.size w w' := by
  obtain ⟨a0, a1⟩ := ha
  obtain ⟨b0, b1⟩ := hb
  refine reckons_ok S hE ⟨a0, a1⟩ ⟨b0, b1⟩ (wrap_in _) hs hm readsMinus (by decide) plainly_minus rfl rfl ?_ ?_
  · intro h w0 k
    refine operate_minus_fits a b ?_
    rw [h] at hov
    simp only [Bool.false_eq_true, false_iff] at hov
    unfold wrap64 at hov ⊢
    rw [decide_eq_decide]
    omega
  · intro h w0 k
    obtain ⟨eb, he⟩ := hE.over
    obtain ⟨e1, e2, e3⟩ := err_on he k
    refine operate_minus_over a b ?_ e1 e2 e3
    rw [h] at hov
    simp only [true_iff] at hov
    unfold wrap64 at hov ⊢
    by_cases hb0 : b < 0
    · simp [hb0]; omega
    · simp [hb0]; omega

theorem times_ok (S : Shelf) {w : World} (hE : Laid w) {s : ByteArray} {a b : Int} {ov : Bool} (ha : inI64 a) (hb : inI64 b) (hs : s.data.toList = pairB a b) (hm : s.size ≤ 100000) (hov : ov = true ↔ (a ≠ 0 ∧ (wrap64 ((wrap64 (a * b)).tdiv a) ≠ b ∨ (a = -1 ∧ b = -9223372036854775808)))) :
    Calls Tryz.prog 5 #[.string ⟨#[42]⟩, .string s, .int .i64 (wrap64 (a * b)), .bool ov] w fun e w' => e = .returned (.bool true) ∧ Below w.heap.size w w' := by
  obtain ⟨b0, b1⟩ := hb
  refine reckons_ok S hE ha ⟨b0, b1⟩ (wrap_in _) hs hm readsTimes (by decide) plainly_times rfl rfl ?_ ?_
  · intro h w0 k
    rw [h] at hov
    simp only [Bool.false_eq_true, false_iff] at hov
    by_cases hz : a = 0
    · subst hz
      have := operate_times_zero (B := w0.heap.size) (w0 := w0) b
      rw [Int.zero_mul, show wrap64 0 = 0 by unfold wrap64; omega]
      exact this
    · have h1 : wrap64 ((wrap64 (a * b)).tdiv a) = b := by
        by_cases e : wrap64 ((wrap64 (a * b)).tdiv a) = b
        · exact e
        · exact absurd ⟨hz, .inl e⟩ hov
      by_cases hm1 : a = -1
      · subst hm1
        have hb2 : ¬ b = -9223372036854775808 := fun e => hov ⟨hz, .inr ⟨rfl, e⟩⟩
        have e1 : (-1 : Int) * b = -b := by omega
        rw [e1]
        exact operate_times_turns b (by unfold wrap64; omega) hb2
      · exact operate_times_fits a b hz h1 hm1
  · intro h w0 k
    rw [h] at hov
    simp only [true_iff] at hov
    obtain ⟨eb, he⟩ := hE.over
    obtain ⟨e1, e2, e3⟩ := err_on he k
    by_cases hd : wrap64 ((wrap64 (a * b)).tdiv a) = b
    · rcases hov.2 with e | ⟨rfl, rfl⟩
      · exact absurd hd e
      · exact operate_times_least e1 e2 e3
    · exact operate_times_over a b hov.1 hd e1 e2 e3

theorem div_ok (S : Shelf) {w : World} (hE : Laid w) {s : ByteArray} {a b : Int} {ov : Bool} (ha : inI64 a) (hb : inI64 b) (hb0 : ¬ b = 0) (hs : s.data.toList = pairB a b) (hm : s.size ≤ 100000) (hov : ov = true ↔ (a = -9223372036854775808 ∧ b = -1)) :
    Calls Tryz.prog 5 #[.string ⟨#[47]⟩, .string s, .int .i64 (wrap64 (a.tdiv b)), .bool ov] w fun e w' => e = .returned (.bool true) ∧ Below w.heap.size w w' := by
  refine reckons_ok S hE ha hb (wrap_in _) hs hm readsOver (by decide) plainly_over rfl rfl ?_ ?_
  · intro h w0 k
    rw [h] at hov
    simp only [Bool.false_eq_true, false_iff] at hov
    by_cases hl : a = -9223372036854775808
    · subst hl
      exact operate_over_least b hb0 (fun e => hov ⟨rfl, e⟩)
    · exact operate_over_ok a b hb0 hl
  · intro h w0 k
    rw [h] at hov
    obtain ⟨rfl, rfl⟩ := hov.1 rfl
    obtain ⟨eb, he⟩ := hE.over
    obtain ⟨e1, e2, e3⟩ := err_on he k
    exact operate_over_over e1 e2 e3

theorem tmod_in {a b : Int} (ha : inI64 a) : inI64 (a.tmod b) := by
  obtain ⟨a0, a1⟩ := ha
  have h1 := Int.natAbs_tmod a b
  have h2 := Nat.mod_le a.natAbs b.natAbs
  by_cases h : 0 ≤ a
  · have h3 := Int.tmod_nonneg b h
    constructor <;> omega
  · have h3 := Int.tmod_nonneg b (show 0 ≤ -a by omega)
    rw [Int.neg_tmod] at h3
    constructor <;> omega

theorem rest_ok (S : Shelf) {w : World} (hE : Laid w) {s : ByteArray} {a b : Int} (ha : inI64 a) (hb : inI64 b) (hb0 : ¬ b = 0) (hs : s.data.toList = pairB a b) (hm : s.size ≤ 100000) :
    Calls Tryz.prog 5 #[.string ⟨#[37]⟩, .string s, .int .i64 (a.tmod b), .bool false] w fun e w' => e = .returned (.bool true) ∧ Below w.heap.size w w' :=
  reckons_ok S hE ha hb (tmod_in ha) hs hm readsRest (by decide) plainly_rest rfl rfl (fun _ w0 _ => operate_rest_ok a b hb0) (fun h => by cases h)

theorem divzero_ok (S : Shelf) {w : World} (hE : Laid w) {s : ByteArray} {a : Int} (ha : inI64 a) (hs : s.data.toList = pairB a 0) (hm : s.size ≤ 100000) :
    Calls Tryz.prog 6 #[.string fOver, .string s, .int .i64 1, .int .i64 0] w fun e w' => Below w.heap.size w w' ∧ e = .returned (resV 2 (.slice none 0 0) ⟨#[34, 122, 101, 114, 111, 34]⟩) := by
  obtain ⟨eb, he⟩ := hE.zero
  exact op_fails S hE ha (by unfold inI64; omega) hs hm readsOver (by decide) plainly_over (fun w0 k => by obtain ⟨e1, e2, e3⟩ := err_on he k; exact operate_over_zero a e1 e2 e3) canon_zero
theorem restzero_ok (S : Shelf) {w : World} (hE : Laid w) {s : ByteArray} {a : Int} (ha : inI64 a) (hs : s.data.toList = pairB a 0) (hm : s.size ≤ 100000) :
    Calls Tryz.prog 6 #[.string fRest, .string s, .int .i64 1, .int .i64 0] w fun e w' => Below w.heap.size w w' ∧ e = .returned (resV 2 (.slice none 0 0) ⟨#[34, 122, 101, 114, 111, 34]⟩) := by
  obtain ⟨eb, he⟩ := hE.zero
  exact op_fails S hE ha (by unfold inI64; omega) hs hm readsRest (by decide) plainly_rest (fun w0 k => by obtain ⟨e1, e2, e3⟩ := err_on he k; exact operate_rest_zero a e1 e2 e3) canon_zero

theorem order_ok (S : Shelf) {w : World} (hE : Laid w) {s : ByteArray} {a b : Int} (ha : inI64 a) (hb : inI64 b) (hs : s.data.toList = pairB a b) (hm : s.size ≤ 100000) :
    Calls Tryz.prog 8 #[.string fOrder, .string s, .string ⟨(five (decide (a = b)) (decide (a < b)) (decide (a ≤ b)) (decide (b < a)) (!decide (a = b))).toArray⟩] w fun e w' => e = .returned (.bool true) ∧ Below w.heap.size w w' := by
  have q0 : decide (sgn a b = 0) = decide (a = b) := by unfold sgn; rw [decide_eq_decide]; split <;> (try split) <;> omega
  have q1 : decide (sgn a b < 0) = decide (a < b) := by unfold sgn; rw [decide_eq_decide]; split <;> (try split) <;> omega
  have q2 : decide (sgn a b ≤ 0) = decide (a ≤ b) := by unfold sgn; rw [decide_eq_decide]; split <;> (try split) <;> omega
  have q3 : decide (0 < sgn a b) = decide (b < a) := by unfold sgn; rw [decide_eq_decide]; split <;> (try split) <;> omega
  refine gives_ok (run_gives S.all S.int ha.1 ha.2 hb.1 hb.2 hs hm readsOrder (by decide) hE.signs (κ := .arr [boolI (decide (sgn a b = 0)), boolI (decide (sgn a b < 0)), boolI (decide (sgn a b ≤ 0)), boolI (decide (0 < sgn a b)), boolI (!decide (sgn a b = 0))]) trivial ?_ ?_)
  · intro w0 g c v k hg h0 h1 hv
    exact opens_order hg h0 h1 hv
  · refine next_arrs (fun w' y k hA => ?_)
    obtain ⟨g, cap, hg, hl, _, _, rfl, hc⟩ := hA
    intro w'' k''
    have hc' : ∀ i (h : i < 5), w''.cell? ⟨g, i, none⟩ = _ := fun i h => (k''.cell (p := ⟨g, i, none⟩) hl).trans (hc i h)
    rw [← q0, ← q1, ← q2, ← q3]
    exact Canonical_five (hc' 0 (by omega)) (hc' 1 (by omega)) (hc' 2 (by omega)) (hc' 3 (by omega)) (hc' 4 (by omega))
end Go.Proofs.Tryz

namespace Go.Proofs.Tryz
open Go.RowKit
set_option maxRecDepth 10000

set_option maxHeartbeats 4000000 in
theorem yes_ok (b : Bool) (w : World) : Calls Tryz.prog 7 #[.bool b] w fun e w' => e = .returned (.string ⟨(boolB b).toArray⟩) ∧ w' = w := by
  cases b with
  | true =>
    go_enter Tryz.func7, Tryz.ntmps7
    go_wp2
    go_ret
    exact ⟨rfl, rfl⟩
  | false =>
    go_enter Tryz.func7, Tryz.ntmps7
    go_wp2
    go_ret
    exact ⟨rfl, rfl⟩

theorem itoa2 (S : Shelf) {n : Int} {w : World} (hn : inI64 n) (hE : Laid w) : Calls Tryz.prog 4 #[.int .i64 n] w fun e w' => ∃ sa : ByteArray, e = .returned (.string sa) ∧ sa.data.toList = Lib.itoa n ∧ sa.size ≤ 21 ∧ Below w.heap.size w w' := by
  refine (S.itoa n w hn.1 hn.2 hE.tab).mono ?_
  rintro e w' ⟨rfl, k⟩
  refine ⟨_, rfl, rfl, ?_, k⟩
  have := Lib.itoa_length_le n hn.1 hn.2
  show (Lib.itoa n).toArray.size ≤ 21
  simpa using this

theorem pair_list {sa sb : ByteArray} {a b : Int} (ha : sa.data.toList = Lib.itoa a) (hb : sb.data.toList = Lib.itoa b) : ((⟨#[91]⟩ : ByteArray) ++ sa ++ ⟨#[44]⟩ ++ sb ++ ⟨#[93]⟩).data.toList = pairB a b := by
  simp [ByteArray.data_append, ha, hb, pairB]

theorem pair_size {sa sb : ByteArray} (ha : sa.size ≤ 21) (hb : sb.size ≤ 21) : ((⟨#[91]⟩ : ByteArray) ++ sa ++ ⟨#[44]⟩ ++ sb ++ ⟨#[93]⟩).size ≤ 100000 := by
  simp only [ByteArray.size_append]
  have e : ∀ x : UInt8, (⟨#[x]⟩ : ByteArray).size = 1 := fun x => rfl
  rw [e, e, e]
  omega

theorem yes2 (b : Bool) (w : World) : Calls Tryz.prog 7 #[.bool b] w fun e w' => ∃ y : ByteArray, e = .returned (.string y) ∧ y = ⟨(boolB b).toArray⟩ ∧ y.size ≤ 5 ∧ w' = w := by
  refine (yes_ok b w).mono ?_
  rintro e w' ⟨rfl, rfl⟩
  refine ⟨_, rfl, rfl, ?_, rfl⟩
  cases b <;> decide

theorem five_eq (b0 b1 b2 b3 b4 : Bool) : (⟨#[91]⟩ : ByteArray) ++ ⟨(boolB b0).toArray⟩ ++ ⟨#[44]⟩ ++ ⟨(boolB b1).toArray⟩ ++ ⟨#[44]⟩ ++ ⟨(boolB b2).toArray⟩ ++ ⟨#[44]⟩ ++ ⟨(boolB b3).toArray⟩ ++ ⟨#[44]⟩ ++ ⟨(boolB b4).toArray⟩ ++ ⟨#[93]⟩ = ⟨(five b0 b1 b2 b3 b4).toArray⟩ := by
  cases b0 <;> cases b1 <;> cases b2 <;> cases b3 <;> cases b4 <;> rfl

theorem order2 (S : Shelf) {w : World} (hE : Laid w) {s y0 y1 y2 y3 y4 : ByteArray} {a b : Int} {c0 c1 c2 c3 c4 : Bool} (ha : inI64 a) (hb : inI64 b) (hs : s.data.toList = pairB a b) (hm : s.size ≤ 100000) (e0 : y0 = ⟨(boolB c0).toArray⟩) (e1 : y1 = ⟨(boolB c1).toArray⟩) (e2 : y2 = ⟨(boolB c2).toArray⟩) (e3 : y3 = ⟨(boolB c3).toArray⟩) (e4 : y4 = ⟨(boolB c4).toArray⟩)
    (f0 : c0 = true ↔ a = b) (f1 : c1 = true ↔ a < b) (f2 : c2 = true ↔ a ≤ b) (f3 : c3 = true ↔ b < a) (f4 : c4 = true ↔ ¬ a = b) :
    Calls Tryz.prog 8 #[.string fOrder, .string s, .string (⟨#[91]⟩ ++ y0 ++ ⟨#[44]⟩ ++ y1 ++ ⟨#[44]⟩ ++ y2 ++ ⟨#[44]⟩ ++ y3 ++ ⟨#[44]⟩ ++ y4 ++ ⟨#[93]⟩)] w fun e w' => e = .returned (.bool true) ∧ Below w.heap.size w w' := by
  subst e0; subst e1; subst e2; subst e3; subst e4
  obtain rfl : c0 = decide (a = b) := by rw [Bool.eq_iff_iff]; simpa using f0
  obtain rfl : c1 = decide (a < b) := by rw [Bool.eq_iff_iff]; simpa using f1
  obtain rfl : c2 = decide (a ≤ b) := by rw [Bool.eq_iff_iff]; simpa using f2
  obtain rfl : c3 = decide (b < a) := by rw [Bool.eq_iff_iff]; simpa using f3
  obtain rfl : c4 = !decide (a = b) := by rw [Bool.eq_iff_iff]; simpa using f4
  rw [five_eq]
  exact order_ok S hE ha hb hs hm
end Go.Proofs.Tryz

