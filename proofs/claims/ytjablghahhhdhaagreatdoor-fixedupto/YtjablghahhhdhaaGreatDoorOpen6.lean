import Derived.Test.YtjablghahhhdhaaGreatDoorOpen3
set_option linter.all false
namespace Go.Proofs.Tryz
open Go.RowKit
set_option maxRecDepth 10000

theorem then_oper {B pb fb sb b T1 b1 : Nat} {w0 w : World} {kn : Option Addr} {d : Int} {x x' y : IV} {op : ByteArray} {r : Res} (hp : PlaceBox w pb kn d) (hf : Box w fb (.pointer (some ⟨b, 0, none⟩)) 171) (hx : SpotBox w sb (iv x)) (hb : b < B) (c1 : w0.cell? ⟨b, 1, none⟩ = some (.string op)) (c2 : w0.cell? ⟨b, 2, none⟩ = some (.iface T1 (.pointer (some ⟨b1, 0, none⟩)))) (hO : Opens B w0 (.iface T1 (.pointer (some ⟨b1, 0, none⟩))) x [y] .none) (h : OperIs B w0 x' op y r) (hs : SameOn (· < B) w0 w) (hB : B ≤ w.heap.size) :
    ThenOuts (fun k => k < B ∨ k = pb ∨ k = fb ∨ k = sb) w (.func (.func 181) #[] #[.pointer (some ⟨pb, 0, none⟩), .pointer (some ⟨fb, 0, none⟩), .pointer (some ⟨sb, 0, none⟩)]) x' r := by
  have hC : ∀ k, (k < B ∨ k = pb ∨ k = fb ∨ k = sb) → k < w.heap.size := by
    rintro k (hk | rfl | rfl | rfl)
    · omega
    · exact hp.lt
    · exact hf.lt
    · exact hx.lt
  cases r with
  | ok z =>
    refine ⟨_, _, rfl, enters_op3, hC, ?_⟩
    intro w' hs' hl'
    refine (op3_ok (hp.same (hs' _ (by simp))) (hf.same (hs' _ (by simp))) (hx.same (hs' _ (by simp))) hb c1 c2 hO h (hs.trans (fun k hk => hs' k (.inl hk))) (by omega)).mono ?_
    rintro e w1 ⟨k1, f, F, D, rfl, hS, hF, hD⟩
    exact ⟨k1, f, F, D, rfl, hS, fun k hk => (hF k hk).elim (fun h => h.elim (fun h => .inl (.inl h)) (fun h => .inl (by simp [h]))) .inr, hD⟩
  | error z =>
    refine ⟨_, _, rfl, enters_op3, hC, ?_⟩
    intro w' hs' hl'
    refine (op3_ok (hp.same (hs' _ (by simp))) (hf.same (hs' _ (by simp))) (hx.same (hs' _ (by simp))) hb c1 c2 hO h (hs.trans (fun k hk => hs' k (.inl hk))) (by omega)).mono ?_
    rintro e w1 ⟨k1, f, F, D, rfl, hS, hF, hD⟩
    exact ⟨k1, f, F, D, rfl, hS, fun k hk => (hF k hk).elim (fun h => h.elim (fun h => .inl (.inl h)) (fun h => .inl (by simp [h]))) .inr, hD⟩

theorem opC3 {B n m m1 : Nat} (hB : B ≤ n) (h : m ≤ m1) (hm : m = n + 3) : ∀ k, (k < B ∨ k = n ∨ k = n + 1 ∨ k = n + 2) → k < m1 := by
  intro k hk
  omega
theorem opD3 {B n : Nat} {D : Nat → Prop} {wA : World} (hD : ∀ k, D k → wA.drew.heap.size ≤ k) (hB : B ≤ n) (hm : wA.heap.size = n + 3) : ∀ k, (k < B ∨ k = n ∨ k = n + 1 ∨ k = n + 2) → ¬ D k := by
  intro k hk e
  have := hD k e
  simp at this
  omega

/-- An operator that works two values out. -/
def Plainly (op : ByteArray) : Prop := (op.toList == [124, 61]) = false ∧ (op.toList == [61]) = false ∧ (op.toList == [111, 114]) = false ∧ (op.toList == [97, 110, 100]) = false ∧ (op.toList == [124]) = false ∧ (op.toList == [44]) = false ∧ (op.toList == [47, 47]) = false
theorem plainly_plus : Plainly ⟨#[43]⟩ := by refine ⟨?_, ?_, ?_, ?_, ?_, ?_, ?_⟩ <;> simp [go_sem]
theorem plainly_minus : Plainly ⟨#[45]⟩ := by refine ⟨?_, ?_, ?_, ?_, ?_, ?_, ?_⟩ <;> simp [go_sem]
theorem plainly_times : Plainly ⟨#[42]⟩ := by refine ⟨?_, ?_, ?_, ?_, ?_, ?_, ?_⟩ <;> simp [go_sem]
theorem plainly_over : Plainly ⟨#[47]⟩ := by refine ⟨?_, ?_, ?_, ?_, ?_, ?_, ?_⟩ <;> simp [go_sem]
theorem plainly_rest : Plainly ⟨#[37]⟩ := by refine ⟨?_, ?_, ?_, ?_, ?_, ?_, ?_⟩ <;> simp [go_sem]
theorem plainly_eq : Plainly ⟨#[61, 61]⟩ := by refine ⟨?_, ?_, ?_, ?_, ?_, ?_, ?_⟩ <;> simp [go_sem]
theorem plainly_ne : Plainly ⟨#[33, 61]⟩ := by refine ⟨?_, ?_, ?_, ?_, ?_, ?_, ?_⟩ <;> simp [go_sem]
theorem plainly_lt : Plainly ⟨#[60]⟩ := by refine ⟨?_, ?_, ?_, ?_, ?_, ?_, ?_⟩ <;> simp [go_sem]
theorem plainly_le : Plainly ⟨#[60, 61]⟩ := by refine ⟨?_, ?_, ?_, ?_, ?_, ?_, ?_⟩ <;> simp [go_sem]
theorem plainly_gt : Plainly ⟨#[62]⟩ := by refine ⟨?_, ?_, ?_, ?_, ?_, ?_, ?_⟩ <;> simp [go_sem]

def GoodR (B : Nat) (r : Res) (w : World) (n : Nat) (f : Value) : Prop := ∃ F D, Outs r F D w f ∧ (∀ k, F k → k < B ∨ n ≤ k) ∧ (∀ k, D k → n ≤ k)

set_option maxHeartbeats 4000000 in
theorem operation_ok {B b T1 b1 T2 b2 : Nat} {w0 : World} {x x' y : IV} {op : ByteArray} {r : Res} (hop : Plainly op) (hb : b < B) (c0 : w0.cell? ⟨b, 0, none⟩ = some (.iface T1 (.pointer (some ⟨b1, 0, none⟩)))) (c1 : w0.cell? ⟨b, 1, none⟩ = some (.string op)) (c2 : w0.cell? ⟨b, 2, none⟩ = some (.iface T2 (.pointer (some ⟨b2, 0, none⟩))))
    (hO1 : Opens B w0 (.iface T1 (.pointer (some ⟨b1, 0, none⟩))) x [x'] .none) (hO2 : Opens B w0 (.iface T2 (.pointer (some ⟨b2, 0, none⟩))) x [y] .none) (h : OperIs B w0 x' op y r) (w : World) (kn : Option Addr) (d : Int) (hs : SameOn (· < B) w0 w) (hB : B ≤ w.heap.size) :
    Calls Tryz.prog 129 #[.agg #[.pointer kn, .int .i64 d], .pointer (some ⟨b, 0, none⟩), .agg #[iv x, .pointer none]] w fun e w' => Below w.heap.size w w' ∧ ∃ K cap, e = .returned (.func (.func K) #[] cap) ∧ GoodR B r w' w.heap.size (.func (.func K) #[] cap) := by
  obtain ⟨o1, o2, o3, o4, _, _, _⟩ := hop
  have n0 := hs.cell hb c0
  have n1 := hs.cell hb c1
  have n2 : b < w.heap.size := by omega
  have hT := fun w1 pb fb sb hp hf hx hs hB => then_oper (w := w1) (pb := pb) (fb := fb) (sb := sb) (kn := kn) (d := d) hp hf hx hb c1 c2 hO2 h hs hB
  obtain ⟨T, u⟩ := x
  simp only [iv, Opens] at hO1 hT ⊢
  have wp : PlaceBox (((w.alloc (.cells #[.pointer kn, .int .i64 d] 71)).alloc (.cells #[.pointer (some ⟨b, 0, none⟩)] 171)).alloc (.cells #[.iface T u, .pointer none] 75)) w.heap.size kn d := heap_at1 w _ _ _
  have wf : Box (((w.alloc (.cells #[.pointer kn, .int .i64 d] 71)).alloc (.cells #[.pointer (some ⟨b, 0, none⟩)] 171)).alloc (.cells #[.iface T u, .pointer none] 75)) (w.heap.size + 1) (.pointer (some ⟨b, 0, none⟩)) 171 := heap_at2 w _ _ _
  have wx : SpotBox (((w.alloc (.cells #[.pointer kn, .int .i64 d] 71)).alloc (.cells #[.pointer (some ⟨b, 0, none⟩)] 171)).alloc (.cells #[.iface T u, .pointer none] 75)) (w.heap.size + 2) (.iface T u) := heap_new3 w _ _ _
  have kW : Below w.heap.size w (((w.alloc (.cells #[.pointer kn, .int .i64 d] 71)).alloc (.cells #[.pointer (some ⟨b, 0, none⟩)] 171)).alloc (.cells #[.iface T u, .pointer none] 75)) := below_alloc3 w _ _ _
  have wn := (kW.cell (p := ⟨b, 0, none⟩) n2).trans n0
  have wn1 := (kW.cell (p := ⟨b, 1, none⟩) n2).trans n1
  have wl : (((w.alloc (.cells #[.pointer kn, .int .i64 d] 71)).alloc (.cells #[.pointer (some ⟨b, 0, none⟩)] 171)).alloc (.cells #[.iface T u, .pointer none] 75)).heap.size = w.heap.size + 3 := by simp
  have s0 := six ((Below.refl _ (((w.alloc (.cells #[.pointer kn, .int .i64 d] 71)).alloc (.cells #[.pointer (some ⟨b, 0, none⟩)] 171)).alloc (.cells #[.iface T u, .pointer none] 75))).drew) wp.c0 wp.c1 wf.cell wn wx.c0 wx.c1
  go_enter Tryz.func129, Tryz.ntmps129
  go_wp2_with fail
  generalize (((w.alloc (.cells #[.pointer kn, .int .i64 d] 71)).alloc (.cells #[.pointer (some ⟨b, 0, none⟩)] 171)).alloc (.cells #[.iface T u, .pointer none] 75)) = wA at *
  go_region_held3 (fun w' => w'.cell? ⟨w.heap.size, 0, none⟩ = some (.pointer kn) ∧ w'.cell? ⟨w.heap.size, 1, none⟩ = some (.int .i64 d) ∧ w'.cell? ⟨w.heap.size + 1, 0, none⟩ = some (.pointer (some ⟨b, 0, none⟩)) ∧ w'.cell? ⟨b, 0, none⟩ = some (.iface T1 (.pointer (some ⟨b1, 0, none⟩))) ∧ w'.cell? ⟨w.heap.size + 2, 0, none⟩ = some (.iface T u) ∧ w'.cell? ⟨w.heap.size + 2, 1, none⟩ = some (.pointer none)) (first | exact s0 | exact e4 | exact f4 | go_keep)
      (first
        | (go_at_call 22; refine (hO1 _ kn d (hs.trans (fun k hk => kW.drew.block k (by have : k < B := hk; omega))) (by have := kW.size; simp; omega)).mono ?_; rintro e w1 ⟨k1, f, F, D, rfl, hS, hF, hD⟩; obtain ⟨K, cap, rfl⟩ := hS.shape; have kX : Below wA.heap.size wA w1 := (Below.refl _ _).drew.trans (k1.mono (by simp)); have e4 := six kX wp.c0 wp.c1 wf.cell wn wx.c0 wx.c1; have kA := kW.trans (kX.mono kW.size); have p1 := wp.same (kX.block _ wp.lt); have x1 := wx.same (kX.block _ wx.lt); have f1 := wf.same (kX.block _ wf.lt); have s1 : SameOn (· < B) w0 w1 := hs.trans (fun k hk => kA.block k (Nat.lt_of_lt_of_le hk hB)); have t1 := hT w1 _ _ _ p1 f1 x1 s1 (Nat.le_trans hB kA.size); have hX := kX.size)
        | (go_at_call 48; refine (each_ok hS (opC3 hB hX wl) t1 (opD3 hD hB wl)).mono ?_; rintro e w2 ⟨k2, f2, F2, D2, rfl, hS2, hF2, hD2⟩; obtain ⟨K2, cap2, rfl⟩ := hS2.shape; have kB := kA.trans (k2.mono kA.size); have f4 := six (kX.trans (k2.mono kX.size)) wp.c0 wp.c1 wf.cell wn wx.c0 wx.c1))
  all_goals
    go_wp2_with fail
    go_ret
    refine ⟨kB, _, _, rfl, F2, D2, hS2, ?_, ?_⟩
    · intro k hk
      rcases hF2 k hk with h | (h | h | h | h) | h
      · rcases hF k h with h | h
        · exact .inl h
        · exact .inr (by simp at h; omega)
      · exact .inl h
      · exact .inr (by omega)
      · exact .inr (by omega)
      · exact .inr (by omega)
      · exact .inr (by omega)
    · intro k hk
      rcases hD2 k hk with h | h
      · have := hD k h; simp at this; omega
      · omega
end Go.Proofs.Tryz

namespace Go.Proofs.Tryz
open Go.RowKit
set_option maxRecDepth 10000

set_option maxHeartbeats 2000000 in
theorem made_bin {B b : Nat} {w0 : World} {x : IV} {Q : World → Nat → Value → Prop} (hQ : ∀ w n m f, n ≤ m → Q w m f → Q w n f)
    (h : ∀ (w : World) (kn : Option Addr) (d : Int), SameOn (· < B) w0 w → B ≤ w.heap.size → Calls Tryz.prog 129 #[.agg #[.pointer kn, .int .i64 d], .pointer (some ⟨b, 0, none⟩), .agg #[iv x, .pointer none]] w fun e w' => Below w.heap.size w w' ∧ ∃ K cap, e = .returned (.func (.func K) #[] cap) ∧ Q w' w.heap.size (.func (.func K) #[] cap)) :
    Mades B w0 (.iface 171 (.pointer (some ⟨b, 0, none⟩))) x Q := by
  intro w kn d hs hB
  have m0 := missLiteral; have m1 := missVariable; have m2 := missCollect; have m3 := missBuild; have m4 := missMinus; have m5 := hitBinary
  obtain ⟨T, u⟩ := x
  simp only [iv] at h ⊢
  go_enter Tryz.func66, Tryz.ntmps66
  go_wp2_with (go_at_call 129; refine (h _ kn d (hs.trans (fun k hk => (below_alloc2 w _ _).block k (by have : k < B := hk; omega))) (by simp; omega)).mono ?_; rintro e w1 ⟨k1, K, cap, rfl, q⟩)
  go_ret
  exact ⟨(below_alloc2 w _ _).trans (k1.mono (by simp; omega)), K, cap, rfl, hQ _ _ _ _ (by simp; omega) q⟩

set_option maxHeartbeats 4000000 in
theorem binary_ok {B b : Nat} {w0 : World} {x : IV} {op : ByteArray} {Q : World → Nat → Value → Prop} (hop : Plainly op) (hb : b < B) (c1 : w0.cell? ⟨b, 1, none⟩ = some (.string op)) (hM : Mades B w0 (.iface 171 (.pointer (some ⟨b, 0, none⟩))) x Q)
    (w : World) (kn : Option Addr) (d : Int) (hs : SameOn (· < B) w0 w) (hB : B ≤ w.heap.size) :
    Calls Tryz.prog 64 #[.agg #[.pointer kn, .int .i64 d], .pointer (some ⟨b, 0, none⟩), .agg #[iv x, .pointer none]] w fun e w' => Below w.heap.size w w' ∧ ∃ K cap w1 n, e = .returned (.func (.func K) #[] cap) ∧ w.heap.size ≤ n ∧ Below w1.heap.size w1 w' ∧ Q w1 n (.func (.func K) #[] cap) := by
  obtain ⟨_, _, _, _, o1, o2, o3⟩ := hop
  have n1 := hs.cell hb c1
  have n2 : b < w.heap.size := by omega
  obtain ⟨T, u⟩ := x
  simp only [iv, Mades] at hM ⊢
  have wp : PlaceBox (((w.alloc (.cells #[.pointer kn, .int .i64 d] 71)).alloc (.cells #[.pointer (some ⟨b, 0, none⟩)] 171)).alloc (.cells #[.iface T u, .pointer none] 75)) w.heap.size kn d := heap_at1 w _ _ _
  have wf : Box (((w.alloc (.cells #[.pointer kn, .int .i64 d] 71)).alloc (.cells #[.pointer (some ⟨b, 0, none⟩)] 171)).alloc (.cells #[.iface T u, .pointer none] 75)) (w.heap.size + 1) (.pointer (some ⟨b, 0, none⟩)) 171 := heap_at2 w _ _ _
  have wx : SpotBox (((w.alloc (.cells #[.pointer kn, .int .i64 d] 71)).alloc (.cells #[.pointer (some ⟨b, 0, none⟩)] 171)).alloc (.cells #[.iface T u, .pointer none] 75)) (w.heap.size + 2) (.iface T u) := heap_new3 w _ _ _
  have kW : Below w.heap.size w (((w.alloc (.cells #[.pointer kn, .int .i64 d] 71)).alloc (.cells #[.pointer (some ⟨b, 0, none⟩)] 171)).alloc (.cells #[.iface T u, .pointer none] 75)) := below_alloc3 w _ _ _
  have wn := (kW.cell (p := ⟨b, 1, none⟩) n2).trans n1
  have wl : (((w.alloc (.cells #[.pointer kn, .int .i64 d] 71)).alloc (.cells #[.pointer (some ⟨b, 0, none⟩)] 171)).alloc (.cells #[.iface T u, .pointer none] 75)).heap.size = w.heap.size + 3 := by simp
  have s0 := six ((Below.refl _ (((w.alloc (.cells #[.pointer kn, .int .i64 d] 71)).alloc (.cells #[.pointer (some ⟨b, 0, none⟩)] 171)).alloc (.cells #[.iface T u, .pointer none] 75))).drew) wp.c0 wp.c1 wf.cell wn wx.c0 wx.c1
  go_enter Tryz.func64, Tryz.ntmps64
  go_wp2_with fail
  generalize (((w.alloc (.cells #[.pointer kn, .int .i64 d] 71)).alloc (.cells #[.pointer (some ⟨b, 0, none⟩)] 171)).alloc (.cells #[.iface T u, .pointer none] 75)) = wA at *
  go_region_held3 (fun w' => w'.cell? ⟨w.heap.size, 0, none⟩ = some (.pointer kn) ∧ w'.cell? ⟨w.heap.size, 1, none⟩ = some (.int .i64 d) ∧ w'.cell? ⟨w.heap.size + 1, 0, none⟩ = some (.pointer (some ⟨b, 0, none⟩)) ∧ w'.cell? ⟨b, 1, none⟩ = some (.string op) ∧ w'.cell? ⟨w.heap.size + 2, 0, none⟩ = some (.iface T u) ∧ w'.cell? ⟨w.heap.size + 2, 1, none⟩ = some (.pointer none)) (first | exact s0 | exact e4 | exact f4 | exact g4 | go_keep)
      (first
        | (go_at_call 50; refine plain_ok.mono ?_; rintro e w1 ⟨rfl, k1⟩; have kX : Below wA.heap.size wA w1 := (Below.refl _ _).drew.trans (k1.mono (by simp)); have e4 := six kX wp.c0 wp.c1 wf.cell wn wx.c0 wx.c1; have kA := kW.trans (kX.mono kW.size))
        | (go_at_call 66; refine (hM _ kn d (hs.trans (fun k hk => kA.block k (Nat.lt_of_lt_of_le hk hB))) (Nat.le_trans hB kA.size)).mono ?_; rintro e w2 ⟨k2, K, cap, rfl, hQ⟩; have kY := kX.trans (k2.mono kX.size); have f4 := six kY wp.c0 wp.c1 wf.cell wn wx.c0 wx.c1)
        | (go_at_call 65; refine pathless_ok.mono ?_; rintro e w3 ⟨rfl, k3⟩; have kZ := kY.trans (k3.mono kY.size); have g4 := six kZ wp.c0 wp.c1 wf.cell wn wx.c0 wx.c1))
  all_goals
    go_wp2_with fail
    go_ret
    exact ⟨kW.trans (kZ.mono kW.size), K, cap, w2, _, rfl, kA.size, k3, hQ⟩

set_option maxHeartbeats 4000000 in
theorem open_bin {B b : Nat} {w0 : World} {x : IV} {R : World → World → Value → Prop} (hR : ∀ w w1 w' f, Below w.heap.size w w1 → R w1 w' f → R w w' f)
    (h : ∀ (w : World) (kn : Option Addr) (d : Int), SameOn (· < B) w0 w → B ≤ w.heap.size → Calls Tryz.prog 64 #[.agg #[.pointer kn, .int .i64 d], .pointer (some ⟨b, 0, none⟩), .agg #[iv x, .pointer none]] w fun e w' => Below w.heap.size w w' ∧ ∃ K cap, e = .returned (.func (.func K) #[] cap) ∧ R w w' (.func (.func K) #[] cap))
    (w : World) (kn : Option Addr) (d : Int) (hs : SameOn (· < B) w0 w) (hB : B ≤ w.heap.size) :
    Calls Tryz.prog 22 #[.agg #[.pointer kn, .int .i64 d], .iface 171 (.pointer (some ⟨b, 0, none⟩)), .agg #[iv x, .pointer none]] w fun e w' => Below w.heap.size w w' ∧ ∃ K cap, e = .returned (.func (.func K) #[] cap) ∧ R w w' (.func (.func K) #[] cap) := by
  have m0 := missIdentity; have m1 := missDescent; have m2 := missField; have m3 := missIndex; have m4 := missEach; have m5 := missOptional; have m6 := missTry; have m7 := missLabel; have m8 := missBreak; have m9 := missIf; have m10 := missBind; have m11 := missReduce; have m12 := missForeach; have m13 := missDef; have m14 := missCall; have m15 := hitBinary
  obtain ⟨T, u⟩ := x
  simp only [iv] at h ⊢
  go_enter Tryz.func22, Tryz.ntmps22
  go_wp2_with (go_at_call 64; refine (h _ kn d (hs.trans (fun k hk => (below_alloc2 w _ _).block k (by have : k < B := hk; omega))) (by simp; omega)).mono ?_; rintro e w1 ⟨k1, K, cap, rfl, q⟩)
  go_ret
  exact ⟨(below_alloc2 w _ _).trans (k1.mono (by simp; omega)), K, cap, rfl, hR _ _ _ _ (below_alloc2 w _ _) q⟩

/-- What a filter whose stream has one value, or throws, comes to. -/
def OpensR (B : Nat) (w0 : World) (v : Value) (x : IV) (r : Res) : Prop := ∀ (w : World) (kn : Option Addr) (d : Int), SameOn (· < B) w0 w → B ≤ w.heap.size →
  Calls Tryz.prog 22 #[.agg #[.pointer kn, .int .i64 d], v, .agg #[iv x, .pointer none]] w fun e w' => Below w.heap.size w w' ∧ ∃ f F D, e = .returned f ∧ Outs r F D w' f ∧ (∀ k, F k → k < B ∨ w.heap.size ≤ k) ∧ (∀ k, D k → w.heap.size ≤ k)

theorem Outs.lt {r : Res} {F D : Nat → Prop} {w : World} {f : Value} (h : Outs r F D w f) : ∀ k, F k → k < w.heap.size := by
  cases r <;> exact Str.lt h
theorem Outs.move {r : Res} {F D : Nat → Prop} {w w1 : World} {f : Value} (h : Outs r F D w f) (hs : SameOn F w w1) (hl : w.heap.size ≤ w1.heap.size) : Outs r F D w1 f := by
  cases r <;> exact Str.move h hs hl

theorem opens_oper {B b T1 b1 T2 b2 : Nat} {w0 : World} {x x' y : IV} {op : ByteArray} {r : Res} (hop : Plainly op) (hb : b < B) (c0 : w0.cell? ⟨b, 0, none⟩ = some (.iface T1 (.pointer (some ⟨b1, 0, none⟩)))) (c1 : w0.cell? ⟨b, 1, none⟩ = some (.string op)) (c2 : w0.cell? ⟨b, 2, none⟩ = some (.iface T2 (.pointer (some ⟨b2, 0, none⟩))))
    (hO1 : Opens B w0 (.iface T1 (.pointer (some ⟨b1, 0, none⟩))) x [x'] .none) (hO2 : Opens B w0 (.iface T2 (.pointer (some ⟨b2, 0, none⟩))) x [y] .none) (h : OperIs B w0 x' op y r) :
    OpensR B w0 (.iface 171 (.pointer (some ⟨b, 0, none⟩))) x r := by
  intro w kn d hs hB
  have hM : Mades B w0 (.iface 171 (.pointer (some ⟨b, 0, none⟩))) x (GoodR B r) := made_bin (by
    rintro w n m f hn ⟨F, D, hS, hF, hD⟩
    exact ⟨F, D, hS, fun k hk => (hF k hk).elim .inl (fun h => .inr (Nat.le_trans hn h)), fun k hk => Nat.le_trans hn (hD k hk)⟩) (operation_ok hop hb c0 c1 c2 hO1 hO2 h)
  refine (open_bin (R := fun w w' f => GoodR B r w' w.heap.size f) ?_ ?_ w kn d hs hB).mono ?_
  · rintro w w1 w' f k1 ⟨F, D, hS, hF, hD⟩
    exact ⟨F, D, hS, fun k hk => (hF k hk).elim .inl (fun h => .inr (Nat.le_trans k1.size h)), fun k hk => Nat.le_trans k1.size (hD k hk)⟩
  · intro w kn d hs hB
    refine (binary_ok hop hb c1 hM w kn d hs hB).mono ?_
    rintro e w' ⟨k, K, cap, w1, n, rfl, hn, k1, F, D, hS, hF, hD⟩
    exact ⟨k, K, cap, rfl, F, D, hS.move (fun k hk => k1.block k (hS.lt k hk)) k1.size, fun k hk => (hF k hk).elim .inl (fun h => .inr (Nat.le_trans hn h)), fun k hk => Nat.le_trans hn (hD k hk)⟩
  · rintro e w' ⟨k, K, cap, rfl, F, D, hS, hF, hD⟩
    exact ⟨k, _, F, D, rfl, hS, hF, hD⟩
end Go.Proofs.Tryz

namespace Go.Proofs.Tryz
open Go.RowKit
set_option maxRecDepth 10000

theorem enters_bin2 : Enters Tryz.prog 119 := enters_of Tryz.func119 (by kernel_rfl) rfl
set_option maxHeartbeats 4000000 in
theorem bin2_ok {B pb fb sb b T1 b1 : Nat} {w0 w : World} {kn : Option Addr} {d : Int} {x : IV} {l : List IV} {E : Fin1} (hp : PlaceBox w pb kn d) (hf : Box w fb (.pointer (some ⟨b, 0, none⟩)) 171) (hx : SpotBox w sb (iv x)) (hb : b < B) (c2 : w0.cell? ⟨b, 2, none⟩ = some (.iface T1 (.pointer (some ⟨b1, 0, none⟩)))) (hO : Opens B w0 (.iface T1 (.pointer (some ⟨b1, 0, none⟩))) x l E) (hs : SameOn (· < B) w0 w) (hB : B ≤ w.heap.size) :
    Calls Tryz.prog 119 #[.pointer (some ⟨pb, 0, none⟩), .pointer (some ⟨fb, 0, none⟩), .pointer (some ⟨sb, 0, none⟩)] w fun e w' => Below w.heap.size w w' ∧ ∃ f F D, e = .returned f ∧ Str l E F D w' f ∧ (∀ k, F k → k < B ∨ w.heap.size ≤ k) ∧ (∀ k, D k → w.heap.size ≤ k) := by
  have p0 := hp.c0
  have p1 := hp.c1
  have f0 := hf.cell
  obtain ⟨x0, x1, _, _, x4⟩ := hx.facts
  have n1 := hs.cell hb c2
  obtain ⟨T, u⟩ := x
  simp only [iv, Opens] at hO x0 ⊢
  have s0 := six ((Below.refl w.heap.size w).drew) p0 p1 f0 n1 x0 x1
  go_enter Tryz.func119, Tryz.ntmps119
  go_wp2_with fail
  go_region_held3 (fun w' => w'.cell? ⟨pb, 0, none⟩ = some (.pointer kn) ∧ w'.cell? ⟨pb, 1, none⟩ = some (.int .i64 d) ∧ w'.cell? ⟨fb, 0, none⟩ = some (.pointer (some ⟨b, 0, none⟩)) ∧ w'.cell? ⟨b, 2, none⟩ = some (.iface T1 (.pointer (some ⟨b1, 0, none⟩))) ∧ w'.cell? ⟨sb, 0, none⟩ = some (.iface T u) ∧ w'.cell? ⟨sb, 1, none⟩ = some (.pointer none)) (first | exact s0 | exact f4 | go_keep)
      (first
        | (go_at_call 22; refine (hO _ kn d (hs.trans (fun k hk => (Below.refl w.heap.size w).drew.block k (by have : k < B := hk; omega))) (by simpa using hB)).mono ?_; rintro e w2 ⟨k2, f, F, D, rfl, hS, hF, hD⟩; obtain ⟨K, cap, rfl⟩ := hS.shape; have kB : Below w.heap.size w w2 := (Below.refl _ _).drew.trans (k2.mono (by simp)); have f4 := six kB p0 p1 f0 n1 x0 x1))
  all_goals
    go_wp2_with fail
    go_ret
    exact ⟨kB, _, F, D, rfl, hS, hF, hD⟩

theorem sec_bin2 {B pb fb sb b T1 b1 : Nat} {w0 w : World} {kn : Option Addr} {d : Int} {x : IV} {l : List IV} {E : Fin1} (hp : PlaceBox w pb kn d) (hf : Box w fb (.pointer (some ⟨b, 0, none⟩)) 171) (hx : SpotBox w sb (iv x)) (hb : b < B) (c2 : w0.cell? ⟨b, 2, none⟩ = some (.iface T1 (.pointer (some ⟨b1, 0, none⟩)))) (hO : Opens B w0 (.iface T1 (.pointer (some ⟨b1, 0, none⟩))) x l E) (hs : SameOn (· < B) w0 w) (hB : B ≤ w.heap.size) :
    SecIs (fun k => k < B ∨ k = pb ∨ k = fb ∨ k = sb) w (.func (.func 119) #[] #[.pointer (some ⟨pb, 0, none⟩), .pointer (some ⟨fb, 0, none⟩), .pointer (some ⟨sb, 0, none⟩)]) l E := by
  refine ⟨_, _, rfl, enters_bin2, ?_, ?_⟩
  · rintro k (hk | rfl | rfl | rfl)
    · omega
    · exact hp.lt
    · exact hf.lt
    · exact hx.lt
  · intro w' hs' hl'
    refine (bin2_ok (hp.same (hs' _ (by simp))) (hf.same (hs' _ (by simp))) (hx.same (hs' _ (by simp))) hb c2 hO (hs.trans (fun k hk => hs' k (.inl hk))) (by omega)).mono ?_
    rintro e w1 ⟨k1, f, F, D, rfl, hS, hF, hD⟩
    exact ⟨k1, f, F, D, rfl, hS, fun k hk => (hF k hk).elim (fun h => .inl (.inl h)) .inr, hD⟩

set_option maxHeartbeats 4000000 in
theorem binary_comma {B b T1 b1 T2 b2 : Nat} {w0 : World} {x : IV} {l1 l2 : List IV} (hso : SomeOrThrown l2 .none) (hb : b < B) (c0 : w0.cell? ⟨b, 0, none⟩ = some (.iface T1 (.pointer (some ⟨b1, 0, none⟩)))) (c1 : w0.cell? ⟨b, 1, none⟩ = some (.string ⟨#[44]⟩)) (c2 : w0.cell? ⟨b, 2, none⟩ = some (.iface T2 (.pointer (some ⟨b2, 0, none⟩))))
    (hO1 : Opens B w0 (.iface T1 (.pointer (some ⟨b1, 0, none⟩))) x l1 .none) (hO2 : Opens B w0 (.iface T2 (.pointer (some ⟨b2, 0, none⟩))) x l2 .none) (w : World) (kn : Option Addr) (d : Int) (hs : SameOn (· < B) w0 w) (hB : B ≤ w.heap.size) :
    Calls Tryz.prog 64 #[.agg #[.pointer kn, .int .i64 d], .pointer (some ⟨b, 0, none⟩), .agg #[iv x, .pointer none]] w fun e w' => Below w.heap.size w w' ∧ ∃ K cap, e = .returned (.func (.func K) #[] cap) ∧ Good B (l1 ++ l2) .none w' w.heap.size (.func (.func K) #[] cap) := by
  have n0 := hs.cell hb c0
  have n1 := hs.cell hb c1
  have n2 : b < w.heap.size := by omega
  have hT := fun w1 pb fb sb hp hf hx hs hB => sec_bin2 (w := w1) (pb := pb) (fb := fb) (sb := sb) (kn := kn) (d := d) hp hf hx hb c2 hO2 hs hB
  obtain ⟨T, u⟩ := x
  simp only [iv, Opens] at hO1 hT ⊢
  have wp : PlaceBox (((w.alloc (.cells #[.pointer kn, .int .i64 d] 71)).alloc (.cells #[.pointer (some ⟨b, 0, none⟩)] 171)).alloc (.cells #[.iface T u, .pointer none] 75)) w.heap.size kn d := heap_at1 w _ _ _
  have wf : Box (((w.alloc (.cells #[.pointer kn, .int .i64 d] 71)).alloc (.cells #[.pointer (some ⟨b, 0, none⟩)] 171)).alloc (.cells #[.iface T u, .pointer none] 75)) (w.heap.size + 1) (.pointer (some ⟨b, 0, none⟩)) 171 := heap_at2 w _ _ _
  have wx : SpotBox (((w.alloc (.cells #[.pointer kn, .int .i64 d] 71)).alloc (.cells #[.pointer (some ⟨b, 0, none⟩)] 171)).alloc (.cells #[.iface T u, .pointer none] 75)) (w.heap.size + 2) (.iface T u) := heap_new3 w _ _ _
  have kW : Below w.heap.size w (((w.alloc (.cells #[.pointer kn, .int .i64 d] 71)).alloc (.cells #[.pointer (some ⟨b, 0, none⟩)] 171)).alloc (.cells #[.iface T u, .pointer none] 75)) := below_alloc3 w _ _ _
  have wn := (kW.cell (p := ⟨b, 0, none⟩) n2).trans n0
  have wn1 := (kW.cell (p := ⟨b, 1, none⟩) n2).trans n1
  have wl : (((w.alloc (.cells #[.pointer kn, .int .i64 d] 71)).alloc (.cells #[.pointer (some ⟨b, 0, none⟩)] 171)).alloc (.cells #[.iface T u, .pointer none] 75)).heap.size = w.heap.size + 3 := by simp
  have s0 := six ((Below.refl _ (((w.alloc (.cells #[.pointer kn, .int .i64 d] 71)).alloc (.cells #[.pointer (some ⟨b, 0, none⟩)] 171)).alloc (.cells #[.iface T u, .pointer none] 75))).drew) wp.c0 wp.c1 wf.cell wn wx.c0 wx.c1
  go_enter Tryz.func64, Tryz.ntmps64
  go_wp2_with fail
  generalize (((w.alloc (.cells #[.pointer kn, .int .i64 d] 71)).alloc (.cells #[.pointer (some ⟨b, 0, none⟩)] 171)).alloc (.cells #[.iface T u, .pointer none] 75)) = wA at *
  go_region_held3 (fun w' => w'.cell? ⟨w.heap.size, 0, none⟩ = some (.pointer kn) ∧ w'.cell? ⟨w.heap.size, 1, none⟩ = some (.int .i64 d) ∧ w'.cell? ⟨w.heap.size + 1, 0, none⟩ = some (.pointer (some ⟨b, 0, none⟩)) ∧ w'.cell? ⟨b, 0, none⟩ = some (.iface T1 (.pointer (some ⟨b1, 0, none⟩))) ∧ w'.cell? ⟨w.heap.size + 2, 0, none⟩ = some (.iface T u) ∧ w'.cell? ⟨w.heap.size + 2, 1, none⟩ = some (.pointer none)) (first | exact s0 | exact e4 | exact f4 | go_keep)
      (first
        | (go_at_call 22; refine (hO1 _ kn d (hs.trans (fun k hk => kW.drew.block k (by have : k < B := hk; omega))) (by have := kW.size; simp; omega)).mono ?_; rintro e w1 ⟨k1, f, F, D, rfl, hS, hF, hD⟩; obtain ⟨K, cap, rfl⟩ := hS.shape; have kX : Below wA.heap.size wA w1 := (Below.refl _ _).drew.trans (k1.mono (by simp)); have e4 := six kX wp.c0 wp.c1 wf.cell wn wx.c0 wx.c1; have kA := kW.trans (kX.mono kW.size); have p1 := wp.same (kX.block _ wp.lt); have x1 := wx.same (kX.block _ wx.lt); have f1 := wf.same (kX.block _ wf.lt); have s1 : SameOn (· < B) w0 w1 := hs.trans (fun k hk => kA.block k (Nat.lt_of_lt_of_le hk hB)); have t1 := hT w1 _ _ _ p1 f1 x1 s1 (Nat.le_trans hB kA.size); have hX := kX.size)
        | (go_at_call 18; refine (behind_ok hso hS (opC3 hB hX wl) t1 (opD3 hD hB wl)).mono ?_; rintro e w2 ⟨k2, f2, F2, D2, rfl, hS2, hF2, hD2⟩; obtain ⟨K2, cap2, rfl⟩ := hS2.shape; have kB := kA.trans (k2.mono kA.size); have f4 := six (kX.trans (k2.mono kX.size)) wp.c0 wp.c1 wf.cell wn wx.c0 wx.c1))
  all_goals
    go_wp2_with fail
    go_ret
    refine ⟨kB, _, _, rfl, F2, D2, hS2, ?_, ?_⟩
    · intro k hk
      rcases hF2 k hk with h | (h | h | h | h) | h
      · rcases hF k h with h | h
        · exact .inl h
        · exact .inr (by simp at h; omega)
      · exact .inl h
      · exact .inr (by omega)
      · exact .inr (by omega)
      · exact .inr (by omega)
      · exact .inr (by omega)
    · intro k hk
      rcases hD2 k hk with h | h
      · have := hD k h; simp at this; omega
      · omega

theorem opens_comma {B b T1 b1 T2 b2 : Nat} {w0 : World} {x : IV} {l1 l2 : List IV} (hso : SomeOrThrown l2 .none) (hb : b < B) (c0 : w0.cell? ⟨b, 0, none⟩ = some (.iface T1 (.pointer (some ⟨b1, 0, none⟩)))) (c1 : w0.cell? ⟨b, 1, none⟩ = some (.string ⟨#[44]⟩)) (c2 : w0.cell? ⟨b, 2, none⟩ = some (.iface T2 (.pointer (some ⟨b2, 0, none⟩))))
    (hO1 : Opens B w0 (.iface T1 (.pointer (some ⟨b1, 0, none⟩))) x l1 .none) (hO2 : Opens B w0 (.iface T2 (.pointer (some ⟨b2, 0, none⟩))) x l2 .none) :
    Opens B w0 (.iface 171 (.pointer (some ⟨b, 0, none⟩))) x (l1 ++ l2) .none := by
  intro w kn d hs hB
  refine (open_bin (R := fun w w' f => Good B (l1 ++ l2) .none w' w.heap.size f) ?_ (binary_comma hso hb c0 c1 c2 hO1 hO2) w kn d hs hB).mono ?_
  · rintro w w1 w' f k1 ⟨F, D, hS, hF, hD⟩
    exact ⟨F, D, hS, fun k hk => (hF k hk).elim .inl (fun h => .inr (Nat.le_trans k1.size h)), fun k hk => Nat.le_trans k1.size (hD k hk)⟩
  · rintro e w' ⟨k, K, cap, rfl, F, D, hS, hF, hD⟩
    exact ⟨k, _, F, D, rfl, hS, hF, hD⟩
end Go.Proofs.Tryz

