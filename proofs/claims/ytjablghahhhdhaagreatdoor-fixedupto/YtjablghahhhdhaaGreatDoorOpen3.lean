import Derived.Test.YtjablghahhhdhaaGreatDoorStr8
import Derived.Test.YtjablghahhhdhaaGreatDoorNames3
import Derived.RegionDies
set_option linter.all false
namespace Go.Proofs.Tryz
open Go.RowKit
set_option maxRecDepth 10000

set_option maxHeartbeats 400000 in
theorem plain_ok {w : World} {T : Nat} {u : Value} : Calls Tryz.prog 50 #[.agg #[.iface T u, .pointer none]] w fun e w' => e = .returned (.agg #[.iface T u, .pointer none]) ∧ Below w.heap.size w w' := by
  go_enter Tryz.func50, Tryz.ntmps50
  go_wp2
  exact bodyPost_ret (v := .agg #[.iface T u, .pointer none]) (by simp [results, Tryz.results50, go_sem]) rfl ⟨rfl, below_alloc2 w _ _⟩

set_option maxHeartbeats 400000 in
theorem pathless_ok {w : World} {T K : Nat} {u : Value} {cap : Array Value} : Calls Tryz.prog 65 #[.agg #[.iface T u, .pointer none], .func (.func K) #[] cap] w fun e w' => e = .returned (.func (.func K) #[] cap) ∧ Below w.heap.size w w' := by
  go_enter Tryz.func65, Tryz.ntmps65
  go_wp2
  go_ret
  exact ⟨rfl, below_alloc2 w _ _⟩

/-- The filter v, opened for the value x, gives l and ends as E says: in every world that is like w0 below B. -/
def Opens (B : Nat) (w0 : World) (v : Value) (x : IV) (l : List IV) (E : Fin1) : Prop := ∀ (w : World) (kn : Option Addr) (d : Int), SameOn (· < B) w0 w → B ≤ w.heap.size →
  Calls Tryz.prog 22 #[.agg #[.pointer kn, .int .i64 d], v, .agg #[iv x, .pointer none]] w fun e w' => Below w.heap.size w w' ∧ ∃ f F D, e = .returned f ∧ Str l E F D w' f ∧ (∀ k, F k → k < B ∨ w.heap.size ≤ k) ∧ (∀ k, D k → w.heap.size ≤ k)

set_option maxHeartbeats 1000000 in
theorem opens_ident {B : Nat} {w0 : World} {b : Nat} (x : IV) : Opens B w0 (.iface 125 (.pointer (some ⟨b, 0, none⟩))) x [x] .none := by
  intro w kn d hs hB
  obtain ⟨T, u⟩ := x
  simp only [iv]
  have a0 := hitIdentity
  go_enter Tryz.func22, Tryz.ntmps22
  go_wp2_with (go_at_call 43; refine one_ok.mono ?_; rintro e w1 ⟨f, F, D, rfl, k1, hS, hF⟩; obtain ⟨K, cap, rfl⟩ := hS.shape)
  go_ret
  exact ⟨(below_alloc2 w _ _).trans (k1.mono (by simp; omega)), _, F, D, rfl, hS, fun k hk => .inr (by have := hF k hk; simp at this; omega), fun k hk => by have := hF k (hS.sub k hk); simp at this; omega⟩

/-- The same of what makes values of its own. -/
def Mades (B : Nat) (w0 : World) (v : Value) (x : IV) (Q : World → Nat → Value → Prop) : Prop := ∀ (w : World) (kn : Option Addr) (d : Int), SameOn (· < B) w0 w → B ≤ w.heap.size →
  Calls Tryz.prog 66 #[.agg #[.pointer kn, .int .i64 d], v, .agg #[iv x, .pointer none]] w fun e w' => Below w.heap.size w w' ∧ ∃ K cap, e = .returned (.func (.func K) #[] cap) ∧ Q w' w.heap.size (.func (.func K) #[] cap)

/-- What is asked of a stream at w that was made from block n on. -/
def Good (B : Nat) (l : List IV) (E : Fin1) (w : World) (n : Nat) (f : Value) : Prop := ∃ F D, Str l E F D w f ∧ (∀ k, F k → k < B ∨ n ≤ k) ∧ (∀ k, D k → n ≤ k)
def GoodArr (B : Nat) (l : List IV) (w : World) (n : Nat) (f : Value) : Prop := ∃ F D, StrArr l F D w f ∧ (∀ k, F k → k < B ∨ n ≤ k) ∧ (∀ k, D k → n ≤ k)

theorem four {w w1 : World} {kn : Option Addr} {d : Int} {T : Nat} {u : Value} (k : Below (w.heap.size + 2) ((w.alloc (.cells #[.pointer kn, .int .i64 d] 71)).alloc (.cells #[.iface T u, .pointer none] 75)) w1) : w1.cell? ⟨w.heap.size, 0, none⟩ = some (.pointer kn) ∧ w1.cell? ⟨w.heap.size, 1, none⟩ = some (.int .i64 d) ∧ w1.cell? ⟨w.heap.size + 1, 0, none⟩ = some (.iface T u) ∧ w1.cell? ⟨w.heap.size + 1, 1, none⟩ = some (.pointer none) := by
  have h0 := k.cell (p := ⟨w.heap.size, 0, none⟩) (by simp)
  have h1 := k.cell (p := ⟨w.heap.size, 1, none⟩) (by simp)
  have h2 := k.cell (p := ⟨w.heap.size + 1, 0, none⟩) (by simp)
  have h3 := k.cell (p := ⟨w.heap.size + 1, 1, none⟩) (by simp)
  simp at h0 h1 h2 h3
  exact ⟨h0, h1, h2, h3⟩

set_option maxHeartbeats 4000000 in
theorem open_default {B : Nat} {w0 : World} {U b : Nat} {x : IV} {Q : World → Nat → Value → Prop} (hU : U = 224 ∨ U = 230) (hM : Mades B w0 (.iface U (.pointer (some ⟨b, 0, none⟩))) x Q)
    (w : World) (kn : Option Addr) (d : Int) (hs : SameOn (· < B) w0 w) (hB : B ≤ w.heap.size) :
    Calls Tryz.prog 22 #[.agg #[.pointer kn, .int .i64 d], .iface U (.pointer (some ⟨b, 0, none⟩)), .agg #[iv x, .pointer none]] w fun e w' => Below w.heap.size w w' ∧ ∃ K cap w1 n, e = .returned (.func (.func K) #[] cap) ∧ w.heap.size ≤ n ∧ Below w1.heap.size w1 w' ∧ Q w1 n (.func (.func K) #[] cap) := by
  obtain ⟨T, u⟩ := x
  simp only [iv, Mades] at hM ⊢
  have m0 := missIdentity; have m1 := missDescent; have m2 := missField; have m3 := missIndex; have m4 := missEach; have m5 := missOptional; have m6 := missTry; have m7 := missLabel; have m8 := missBreak; have m9 := missIf; have m10 := missBind; have m11 := missReduce; have m12 := missForeach; have m13 := missDef; have m14 := missCall; have m15 := missBinary
  rcases hU with rfl | rfl
  · go_enter Tryz.func22, Tryz.ntmps22
    go_wp2_with fail
    go_region_held3 (fun w' => w'.cell? ⟨w.heap.size, 0, none⟩ = some (.pointer kn) ∧ w'.cell? ⟨w.heap.size, 1, none⟩ = some (.int .i64 d) ∧ w'.cell? ⟨w.heap.size + 1, 0, none⟩ = some (.iface T u) ∧ w'.cell? ⟨w.heap.size + 1, 1, none⟩ = some (.pointer none)) (first | exact e4 | exact f4 | exact g4 | go_keep)
      (first
        | (go_at_call 50; refine plain_ok.mono ?_; rintro e w1 ⟨rfl, k1⟩; have kA : Below (w.heap.size + 2) ((w.alloc (.cells #[.pointer kn, .int .i64 d] 71)).alloc (.cells #[.iface T u, .pointer none] 75)) w1 := (Below.refl _ _).drew.trans (k1.mono (by simp)); have e4 := four kA)
        | (go_at_call 66; refine (hM _ kn d (hs.trans (fun k hk => (kA.block k (by have : k < B := hk; omega)).trans ((below_alloc2 w _ _).block k (by have : k < B := hk; omega)))) (by have := kA.size; simp at this; omega)).mono ?_; rintro e w2 ⟨k2, K, cap, rfl, hQ⟩; have kB := kA.trans (k2.mono (by have := kA.size; simp at this; omega)); have f4 := four kB)
        | (go_at_call 65; refine pathless_ok.mono ?_; rintro e w3 ⟨rfl, k3⟩; have kC := kB.trans (k3.mono (by have := kB.size; simp at this; omega)); have g4 := four kC))
    go_wp2_with fail
    go_ret
    exact ⟨(below_alloc2 w _ _).trans (kC.mono (by omega)), K, cap, w2, _, rfl, (by have := kA.size; simp at this; omega), k3, hQ⟩
  · go_enter Tryz.func22, Tryz.ntmps22
    go_wp2_with fail
    go_region_held3 (fun w' => w'.cell? ⟨w.heap.size, 0, none⟩ = some (.pointer kn) ∧ w'.cell? ⟨w.heap.size, 1, none⟩ = some (.int .i64 d) ∧ w'.cell? ⟨w.heap.size + 1, 0, none⟩ = some (.iface T u) ∧ w'.cell? ⟨w.heap.size + 1, 1, none⟩ = some (.pointer none)) (first | exact e4 | exact f4 | exact g4 | go_keep)
      (first
        | (go_at_call 50; refine plain_ok.mono ?_; rintro e w1 ⟨rfl, k1⟩; have kA : Below (w.heap.size + 2) ((w.alloc (.cells #[.pointer kn, .int .i64 d] 71)).alloc (.cells #[.iface T u, .pointer none] 75)) w1 := (Below.refl _ _).drew.trans (k1.mono (by simp)); have e4 := four kA)
        | (go_at_call 66; refine (hM _ kn d (hs.trans (fun k hk => (kA.block k (by have : k < B := hk; omega)).trans ((below_alloc2 w _ _).block k (by have : k < B := hk; omega)))) (by have := kA.size; simp at this; omega)).mono ?_; rintro e w2 ⟨k2, K, cap, rfl, hQ⟩; have kB := kA.trans (k2.mono (by have := kA.size; simp at this; omega)); have f4 := four kB)
        | (go_at_call 65; refine pathless_ok.mono ?_; rintro e w3 ⟨rfl, k3⟩; have kC := kB.trans (k3.mono (by have := kB.size; simp at this; omega)); have g4 := four kC))
    go_wp2_with fail
    go_ret
    exact ⟨(below_alloc2 w _ _).trans (kC.mono (by omega)), K, cap, w2, _, rfl, (by have := kA.size; simp at this; omega), k3, hQ⟩
end Go.Proofs.Tryz

namespace Go.Proofs.Tryz
open Go.RowKit
set_option maxRecDepth 10000

set_option maxHeartbeats 400000 in
theorem sure_none {w : World} {T : Nat} {u : Value} : Calls Tryz.prog 94 #[.iface T u, .nilIface] w fun e w' => e = .returned (.iface T u) ∧ w' = w := by
  go_enter Tryz.func94, Tryz.ntmps94
  go_wp2
  go_ret
  exact ⟨rfl, rfl⟩
set_option maxHeartbeats 400000 in
theorem grown_none {w : World} {T : Nat} {u : Value} : Calls Tryz.prog 96 #[.pointer none, .iface T u] w fun e w' => e = .returned (.pointer none) ∧ w' = w := by
  go_enter Tryz.func96, Tryz.ntmps96
  go_wp2
  go_ret
  exact ⟨rfl, rfl⟩

theorem lt_cell {w : World} {a : Addr} {v : Value} (h : w.cell? a = some v) : a.block < w.heap.size := by
  unfold World.cell? at h
  by_cases hb : a.block < w.heap.size
  · exact hb
  · simp [Array.getElem?_eq_none (by omega : w.heap.size ≤ a.block)] at h
theorem six {w w1 : World} (k : Below w.heap.size w w1) {a b c d e f : Addr} {va vb vc vd ve vf : Value} (ha : w.cell? a = some va) (hb : w.cell? b = some vb) (hc : w.cell? c = some vc) (hd : w.cell? d = some vd) (he : w.cell? e = some ve) (hf : w.cell? f = some vf) :
    w1.cell? a = some va ∧ w1.cell? b = some vb ∧ w1.cell? c = some vc ∧ w1.cell? d = some vd ∧ w1.cell? e = some ve ∧ w1.cell? f = some vf :=
  ⟨(k.cell (lt_cell ha)).trans ha, (k.cell (lt_cell hb)).trans hb, (k.cell (lt_cell hc)).trans hc, (k.cell (lt_cell hd)).trans hd, (k.cell (lt_cell he)).trans he, (k.cell (lt_cell hf)).trans hf⟩

/-- What stands in x at i. -/
def AtIs (B : Nat) (w0 : World) (x i y : IV) : Prop := ∀ w, SameOn (· < B) w0 w → B ≤ w.heap.size → Calls Tryz.prog 95 #[iv x, iv i] w fun e w' => e = .returned (.tuple #[iv y, .nilIface]) ∧ Below w.heap.size w w'

set_option maxHeartbeats 2000000 in
theorem at_ok {B : Nat} {w0 w : World} {x i y : IV} (h : AtIs B w0 x i y) (hs : SameOn (· < B) w0 w) (hB : B ≤ w.heap.size) :
    Calls Tryz.prog 47 #[.agg #[iv x, .pointer none], iv i] w fun e w' => e = .returned (.agg #[iv y, .pointer none]) ∧ Below w.heap.size w w' := by
  obtain ⟨T, u⟩ := x
  obtain ⟨T1, u1⟩ := i
  obtain ⟨T2, u2⟩ := y
  simp only [iv, AtIs] at h ⊢
  go_enter Tryz.func47, Tryz.ntmps47
  go_wp2_with fail
  go_region_held3 (fun w' => w'.cell? ⟨w.heap.size, 0, none⟩ = some (.iface T u) ∧ w'.cell? ⟨w.heap.size, 1, none⟩ = some (.pointer none)) (first | exact e4 | go_keep)
      (first
        | (go_at_call 95; refine (h _ (hs.trans (fun k hk => (below_alloc2 w _ _).drew.block k (by have : k < B := hk; omega))) (by simp; omega)).mono ?_; rintro e w1 ⟨rfl, k1⟩; have kA : Below (w.heap.size + 2) ((w.alloc (.cells #[.iface T u, .pointer none] 75)).alloc (.cells #[.nilIface, .pointer none] 75)) w1 := (Below.refl _ _).drew.trans (k1.mono (by simp)); have q0 := kA.cell (p := ⟨w.heap.size, 0, none⟩) (by simp); have q1 := kA.cell (p := ⟨w.heap.size, 1, none⟩) (by simp); simp at q0 q1; have e4 := And.intro q0 q1; have q : SpotBox w1 (w.heap.size + 1) .nilIface := SpotBox.same (heap_new2' w _ _) (kA.block _ (by omega)); obtain ⟨r0, r1, r2, r3, r4⟩ := q.facts)
        | (go_at_call 94; refine sure_none.mono ?_; rintro e w2 ⟨rfl, rfl⟩)
        | (go_at_call 96; refine grown_none.mono ?_; rintro e w3 ⟨rfl, rfl⟩))
  go_wp2_with fail
  exact bodyPost_ret (v := .agg #[.iface T2 u2, .pointer none]) (by simp [results, Tryz.results47, go_sem, r4, r0, r1]) rfl ⟨rfl, (((below_alloc2 w _ _).trans (kA.mono (by omega))).setCell (by simp) _).setCell (by simp) _⟩

theorem enters_open21 : Enters Tryz.prog 51 := enters_of Tryz.func51 (by kernel_rfl) rfl
set_option maxHeartbeats 2000000 in
theorem open21_ok {B xb : Nat} {w0 w : World} {x i y : IV} (h : AtIs B w0 x i y) (hx : SpotBox w xb (iv x)) (hs : SameOn (· < B) w0 w) (hB : B ≤ w.heap.size) :
    Calls Tryz.prog 51 #[.agg #[iv i, .pointer none], .pointer (some ⟨xb, 0, none⟩)] w fun e w' => Below w.heap.size w w' ∧ e = .returned (.agg #[iv y, .pointer none]) := by
  obtain ⟨T, u⟩ := x
  obtain ⟨T1, u1⟩ := i
  obtain ⟨T2, u2⟩ := y
  obtain ⟨x0, x1, _, _, x4⟩ := hx.facts
  have ha := fun w hs hB => at_ok (w := w) h hs hB
  simp only [iv] at ha x0 ⊢
  go_enter Tryz.func51, Tryz.ntmps51
  go_wp2_with (go_at_call 47; refine (ha _ (hs.trans (fun k hk => (below_alloc2 w _ _).block k (by have : k < B := hk; omega))) (by simp; omega)).mono ?_; rintro e w1 ⟨rfl, k1⟩; have q : SpotBox w1 (w.heap.size + 1) .nilIface := SpotBox.same (heap_new2' w _ _) (k1.block _ (by simp)); obtain ⟨r0, r1, r2, r3, r4⟩ := q.facts)
  exact bodyPost_ret (v := .agg #[.iface T2 u2, .pointer none]) (by simp [results, Tryz.results51, go_sem, r4, r0, r1]) rfl ⟨(((below_alloc2 w _ _).trans (k1.mono (by simp; omega))).setCell (by simp) _).setCell (by simp) _, rfl⟩

/-- The box of a place. -/
def PlaceBox (w : World) (b : Nat) (kn : Option Addr) (d : Int) : Prop := w.heap[b]? = some (.cells #[.pointer kn, .int .i64 d] 71 (0, 0))
theorem PlaceBox.c0 {w : World} {b : Nat} {kn : Option Addr} {d : Int} (h : PlaceBox w b kn d) : w.cell? ⟨b, 0, none⟩ = some (.pointer kn) := by simp [World.cell?, PlaceBox] at *; simp [h]
theorem PlaceBox.c1 {w : World} {b : Nat} {kn : Option Addr} {d : Int} (h : PlaceBox w b kn d) : w.cell? ⟨b, 1, none⟩ = some (.int .i64 d) := by simp [World.cell?, PlaceBox] at *; simp [h]
theorem PlaceBox.lt {w : World} {b : Nat} {kn : Option Addr} {d : Int} (h : PlaceBox w b kn d) : b < w.heap.size := lt_of_block h
theorem PlaceBox.same {w w' : World} {b : Nat} {kn : Option Addr} {d : Int} (h : PlaceBox w b kn d) (e : w'.heap[b]? = w.heap[b]?) : PlaceBox w' b kn d := e.trans h
theorem SameOn.cell {F : Nat → Prop} {w w' : World} (h : SameOn F w w') {b o : Nat} (hb : F b) {v : Value} (hv : w.cell? ⟨b, o, none⟩ = some v) : w'.cell? ⟨b, o, none⟩ = some v := (World.cell?_of_block (w := w) (h b hb)).trans hv

theorem toAt {B xb : Nat} {w0 w : World} {x i y : IV} (h : AtIs B w0 x i y) (hx : SpotBox w xb (iv x)) (hs : SameOn (· < B) w0 w) (hB : B ≤ w.heap.size) : ToIs (fun k => k < B ∨ k = xb) w (.func (.func 51) #[] #[.pointer (some ⟨xb, 0, none⟩)]) i (.ok y) := by
  refine ⟨_, _, rfl, enters_open21, ?_, ?_⟩
  · rintro k (hk | rfl)
    · omega
    · exact hx.lt
  · intro w' hs' hl'
    exact open21_ok h (hx.same (hs' _ (.inr rfl))) (hs.trans (fun k hk => hs' k (.inl hk))) (by omega)

theorem enters_open2 : Enters Tryz.prog 49 := enters_of Tryz.func49 (by kernel_rfl) rfl
theorem atC {B n m : Nat} (h : B ≤ m) (h' : n < m) : ∀ k, (k < B ∨ k = n) → k < m := by
  rintro k (hk | rfl)
  · omega
  · exact h'
theorem atD {B n m : Nat} {D : Nat → Prop} (hD : ∀ k, D k → m ≤ k) (h : B ≤ m) (h' : n < m) : ∀ k, (k < B ∨ k = n) → ¬ D k := by
  rintro k (hk | rfl) e
  · have := hD _ e; omega
  · have := hD _ e; omega

set_option maxHeartbeats 4000000 in
theorem open2_ok {B pb fb sb b T1 b1 : Nat} {w0 w : World} {kn : Option Addr} {d : Int} {x x' i y : IV} (hp : PlaceBox w pb kn d) (hf : Box w fb (.pointer (some ⟨b, 0, none⟩)) 134) (hx : SpotBox w sb (iv x)) (hb : b < B) (c1 : w0.cell? ⟨b, 1, none⟩ = some (.iface T1 (.pointer (some ⟨b1, 0, none⟩)))) (hO : Opens B w0 (.iface T1 (.pointer (some ⟨b1, 0, none⟩))) x [i] .none) (h : AtIs B w0 x' i y) (hs : SameOn (· < B) w0 w) (hB : B ≤ w.heap.size) :
    Calls Tryz.prog 49 #[.agg #[iv x', .pointer none], .pointer (some ⟨pb, 0, none⟩), .pointer (some ⟨fb, 0, none⟩), .pointer (some ⟨sb, 0, none⟩)] w fun e w' => Below w.heap.size w w' ∧ ∃ f F D, e = .returned f ∧ Str [y] .none F D w' f ∧ (∀ k, F k → k < B ∨ w.heap.size ≤ k) ∧ (∀ k, D k → w.heap.size ≤ k) := by
  have p0 := hp.c0
  have p1 := hp.c1
  have p2 := hp.lt
  have f0 := hf.cell
  have f2 := hf.lt
  obtain ⟨x0, x1, _, _, x4⟩ := hx.facts
  have n1 := hs.cell hb c1
  have n2 : b < w.heap.size := by omega
  obtain ⟨T, u⟩ := x
  obtain ⟨T', u'⟩ := x'
  simp only [iv, Opens] at hO x0 ⊢
  go_enter Tryz.func49, Tryz.ntmps49
  go_wp2_with fail
  go_region_held3 (fun w' => w'.cell? ⟨pb, 0, none⟩ = some (.pointer kn) ∧ w'.cell? ⟨pb, 1, none⟩ = some (.int .i64 d) ∧ w'.cell? ⟨fb, 0, none⟩ = some (.pointer (some ⟨b, 0, none⟩)) ∧ w'.cell? ⟨b, 1, none⟩ = some (.iface T1 (.pointer (some ⟨b1, 0, none⟩))) ∧ w'.cell? ⟨sb, 0, none⟩ = some (.iface T u) ∧ w'.cell? ⟨sb, 1, none⟩ = some (.pointer none)) (first | exact e4 | exact f4 | exact g4 | go_keep)
      (first
        | (go_at_call 50; refine plain_ok.mono ?_; rintro e w1 ⟨rfl, k1⟩; have kX : Below (w.heap.size + 1) (w.alloc (.cells #[.iface T' u', .pointer none] 75)) w1 := (Below.refl _ _).drew.trans (k1.mono (by simp)); have hX : SpotBox w1 w.heap.size (.iface T' u') := (SpotBox.new w _).same (kX.block _ (by omega)); have kA : Below w.heap.size w w1 := (below_alloc w _).trans (kX.mono (by omega)); have e4 := six kA p0 p1 f0 n1 x0 x1; have hX1 := hX.lt)
        | (go_at_call 22; refine (hO _ kn d (hs.trans (fun k hk => kA.block k (by have : k < B := hk; omega))) (by have := kA.size; omega)).mono ?_; rintro e w2 ⟨k2, f, F, D, rfl, hS, hF, hD⟩; obtain ⟨K, cap, rfl⟩ := hS.shape; have kB := kA.trans (k2.mono kA.size); have f4 := six kB p0 p1 f0 n1 x0 x1; have hX2 := hX.same (k2.block _ hX1); have hX3 := hX2.lt; have s2 : SameOn (· < B) w0 w2 := hs.trans (fun k hk => kB.block k (Nat.lt_of_lt_of_le hk hB)); have b2 : B ≤ w2.heap.size := Nat.le_trans hB kB.size)
        | (go_at_call 45; refine (mapped_ok (φ := fun _ => y) (C := fun k => k < B ∨ k = w.heap.size) hS ⟨_, _, rfl⟩ (atC b2 hX3) (fun z hz => (by simp at hz; subst hz; exact toAt h hX2 s2 b2)) (atD hD (Nat.le_trans hB kA.size) hX1)).mono ?_; rintro e w3 ⟨k3, r, F', rfl, hS', hF'⟩; obtain ⟨K3, cap3, rfl⟩ := hS'.shape; have kC := kB.trans (k3.mono kB.size); have g4 := six kC p0 p1 f0 n1 x0 x1))
  all_goals
    go_wp2_with fail
    go_ret
    refine ⟨kC, _, F', D, rfl, hS', ?_, fun k hk => by have := hD k hk; have := kA.size; omega⟩
    intro k hk
    rcases hF' k hk with h | (h | h) | h
    · rcases hF k h with h | h
      · exact .inl h
      · exact .inr (by have := kA.size; omega)
    · exact .inl h
    · exact .inr (by omega)
    · exact .inr (by have := kB.size; omega)
theorem then_index {B pb fb sb b T1 b1 : Nat} {w0 w : World} {kn : Option Addr} {d : Int} {x x' i y : IV} (hp : PlaceBox w pb kn d) (hf : Box w fb (.pointer (some ⟨b, 0, none⟩)) 134) (hx : SpotBox w sb (iv x)) (hb : b < B) (c1 : w0.cell? ⟨b, 1, none⟩ = some (.iface T1 (.pointer (some ⟨b1, 0, none⟩)))) (hO : Opens B w0 (.iface T1 (.pointer (some ⟨b1, 0, none⟩))) x [i] .none) (h : AtIs B w0 x' i y) (hs : SameOn (· < B) w0 w) (hB : B ≤ w.heap.size) :
    ThenOuts (fun k => k < B ∨ k = pb ∨ k = fb ∨ k = sb) w (.func (.func 49) #[] #[.pointer (some ⟨pb, 0, none⟩), .pointer (some ⟨fb, 0, none⟩), .pointer (some ⟨sb, 0, none⟩)]) x' (.ok y) := by
  refine ⟨_, _, rfl, enters_open2, ?_, ?_⟩
  · rintro k (hk | rfl | rfl | rfl)
    · omega
    · exact hp.lt
    · exact hf.lt
    · exact hx.lt
  · intro w' hs' hl'
    refine (open2_ok (hp.same (hs' _ (by simp))) (hf.same (hs' _ (by simp))) (hx.same (hs' _ (by simp))) hb c1 hO h (hs.trans (fun k hk => hs' k (.inl hk))) (by omega)).mono ?_
    rintro e w1 ⟨k1, f, F, D, rfl, hS, hF, hD⟩
    exact ⟨k1, f, F, D, rfl, hS, fun k hk => (hF k hk).elim (fun h => .inl (.inl h)) .inr, hD⟩

theorem idxC {B n m m1 : Nat} (hB : B ≤ n) (h : m ≤ m1) (hm : m = n + 3) : ∀ k, (k < B ∨ k = n ∨ k = n + 2 ∨ k = n + 1) → k < m1 := by
  intro k hk
  omega
theorem idxD {B n : Nat} {D : Nat → Prop} {wA : World} (hD : ∀ k, D k → wA.drew.heap.size ≤ k) (hB : B ≤ n) (hm : wA.heap.size = n + 3) : ∀ k, (k < B ∨ k = n ∨ k = n + 2 ∨ k = n + 1) → ¬ D k := by
  intro k hk e
  have := hD k e
  simp at this
  omega

set_option maxHeartbeats 4000000 in
theorem opens_index {B b T1 b1 T2 b2 : Nat} {w0 : World} {x x' i y : IV} (hb : b < B) (c0 : w0.cell? ⟨b, 0, none⟩ = some (.iface T1 (.pointer (some ⟨b1, 0, none⟩)))) (c1 : w0.cell? ⟨b, 1, none⟩ = some (.iface T2 (.pointer (some ⟨b2, 0, none⟩))))
    (hO1 : Opens B w0 (.iface T1 (.pointer (some ⟨b1, 0, none⟩))) x [x'] .none) (hO2 : Opens B w0 (.iface T2 (.pointer (some ⟨b2, 0, none⟩))) x [i] .none) (h : AtIs B w0 x' i y) : Opens B w0 (.iface 134 (.pointer (some ⟨b, 0, none⟩))) x [y] .none := by
  intro w kn d hs hB
  have n0 := hs.cell hb c0
  have n2 : b < w.heap.size := by omega
  have m0 := missIdentity; have m1 := missDescent; have m2 := missField; have m3 := hitIndex
  have hT := fun w1 pb fb sb hp hf hx hs hB => then_index (w := w1) (pb := pb) (fb := fb) (sb := sb) (kn := kn) (d := d) hp hf hx hb c1 hO2 h hs hB
  obtain ⟨T, u⟩ := x
  simp only [iv, Opens] at hO1 hT ⊢
  have wp : PlaceBox (((w.alloc (.cells #[.pointer kn, .int .i64 d] 71)).alloc (.cells #[.iface T u, .pointer none] 75)).alloc (.cells #[.pointer (some ⟨b, 0, none⟩)] 134)) w.heap.size kn d := heap_at1 w _ _ _
  have wx : SpotBox (((w.alloc (.cells #[.pointer kn, .int .i64 d] 71)).alloc (.cells #[.iface T u, .pointer none] 75)).alloc (.cells #[.pointer (some ⟨b, 0, none⟩)] 134)) (w.heap.size + 1) (.iface T u) := heap_at2 w _ _ _
  have wf : Box (((w.alloc (.cells #[.pointer kn, .int .i64 d] 71)).alloc (.cells #[.iface T u, .pointer none] 75)).alloc (.cells #[.pointer (some ⟨b, 0, none⟩)] 134)) (w.heap.size + 2) (.pointer (some ⟨b, 0, none⟩)) 134 := heap_new3 w _ _ _
  have kW : Below w.heap.size w (((w.alloc (.cells #[.pointer kn, .int .i64 d] 71)).alloc (.cells #[.iface T u, .pointer none] 75)).alloc (.cells #[.pointer (some ⟨b, 0, none⟩)] 134)) := below_alloc3 w _ _ _
  have wn := (kW.cell (p := ⟨b, 0, none⟩) n2).trans n0
  have wl : (((w.alloc (.cells #[.pointer kn, .int .i64 d] 71)).alloc (.cells #[.iface T u, .pointer none] 75)).alloc (.cells #[.pointer (some ⟨b, 0, none⟩)] 134)).heap.size = w.heap.size + 3 := by simp
  have s0 := six ((Below.refl _ (((w.alloc (.cells #[.pointer kn, .int .i64 d] 71)).alloc (.cells #[.iface T u, .pointer none] 75)).alloc (.cells #[.pointer (some ⟨b, 0, none⟩)] 134))).drew) wp.c0 wp.c1 wf.cell wn wx.c0 wx.c1
  go_enter Tryz.func22, Tryz.ntmps22
  go_wp2_with fail
  generalize (((w.alloc (.cells #[.pointer kn, .int .i64 d] 71)).alloc (.cells #[.iface T u, .pointer none] 75)).alloc (.cells #[.pointer (some ⟨b, 0, none⟩)] 134)) = wA at *
  go_region_held3 (fun w' => w'.cell? ⟨w.heap.size, 0, none⟩ = some (.pointer kn) ∧ w'.cell? ⟨w.heap.size, 1, none⟩ = some (.int .i64 d) ∧ w'.cell? ⟨w.heap.size + 2, 0, none⟩ = some (.pointer (some ⟨b, 0, none⟩)) ∧ w'.cell? ⟨b, 0, none⟩ = some (.iface T1 (.pointer (some ⟨b1, 0, none⟩))) ∧ w'.cell? ⟨w.heap.size + 1, 0, none⟩ = some (.iface T u) ∧ w'.cell? ⟨w.heap.size + 1, 1, none⟩ = some (.pointer none)) (first | exact s0 | exact e4 | exact f4 | go_keep)
      (first
        | (go_at_call 22; refine (hO1 _ kn d (hs.trans (fun k hk => kW.drew.block k (by have : k < B := hk; omega))) (by have := kW.size; simp; omega)).mono ?_; rintro e w1 ⟨k1, f, F, D, rfl, hS, hF, hD⟩; obtain ⟨K, cap, rfl⟩ := hS.shape; have kX : Below wA.heap.size wA w1 := (Below.refl _ _).drew.trans (k1.mono (by simp)); have e4 := six kX wp.c0 wp.c1 wf.cell wn wx.c0 wx.c1; have kA := kW.trans (kX.mono kW.size); have p1 := wp.same (kX.block _ wp.lt); have x1 := wx.same (kX.block _ wx.lt); have f1 := wf.same (kX.block _ wf.lt); have s1 : SameOn (· < B) w0 w1 := hs.trans (fun k hk => kA.block k (Nat.lt_of_lt_of_le hk hB)); have t1 := hT w1 _ _ _ p1 f1 x1 s1 (Nat.le_trans hB kA.size); have hX := kX.size)
        | (go_at_call 48; refine (each_ok hS (idxC hB hX wl) t1 (idxD hD hB wl)).mono ?_; rintro e w2 ⟨k2, f2, F2, D2, rfl, hS2, hF2, hD2⟩; obtain ⟨K2, cap2, rfl⟩ := Str.shape hS2; have kB := kA.trans (k2.mono kA.size); have f4 := six (kX.trans (k2.mono kX.size)) wp.c0 wp.c1 wf.cell wn wx.c0 wx.c1))
  all_goals
    go_wp2_with fail
    go_ret
    refine ⟨kB, _, F2, D2, rfl, hS2, ?_, ?_⟩
    · intro k hk
      rcases hF2 k hk with h | (h | h | h | h) | h
      · rcases hF k h with h | h
        · exact .inl h
        · exact .inr (by simp at h; omega)
      · exact .inl h
      · exact .inr (by omega)
      · exact .inr (by omega)
      · exact .inr (by omega)
      · exact .inr (by omega)
    · intro k hk
      rcases hD2 k hk with h | h
      · have := hD k h; simp at this; omega
      · omega
end Go.Proofs.Tryz

namespace Go.Proofs.Tryz
open Go.RowKit
set_option maxRecDepth 10000

theorem opens_of_made {B U b : Nat} {w0 : World} {x : IV} {l : List IV} {E : Fin1} (hU : U = 224 ∨ U = 230) (hM : Mades B w0 (.iface U (.pointer (some ⟨b, 0, none⟩))) x (Good B l E)) : Opens B w0 (.iface U (.pointer (some ⟨b, 0, none⟩))) x l E := by
  intro w kn d hs hB
  refine (open_default hU hM w kn d hs hB).mono ?_
  rintro e w1 ⟨k1, K, cap, w2, n, rfl, hn, k2, F, D, hS, hF, hD⟩
  exact ⟨k1, _, F, D, rfl, hS.move (fun k hk => k2.block k (hS.lt k hk)) k2.size, fun k hk => (hF k hk).elim .inl (fun h => .inr (Nat.le_trans hn h)), fun k hk => Nat.le_trans hn (hD k hk)⟩

set_option maxHeartbeats 1000000 in
theorem made_num {B b : Nat} {w0 : World} {x : IV} {n : Int} (hb : b < B) (c0 : w0.cell? ⟨b, 0, none⟩ = some (.iface 98 (.int .i64 n))) : Mades B w0 (.iface 224 (.pointer (some ⟨b, 0, none⟩))) x (Good B [(98, .int .i64 n)] .none) := by
  intro w kn d hs hB
  have n0 := hs.cell hb c0
  have n2 : b < w.heap.size := by omega
  have m0 := hitLiteral
  obtain ⟨T, u⟩ := x
  simp only [iv]
  go_enter Tryz.func66, Tryz.ntmps66
  go_wp2_with (go_at_call 43; refine one_ok.mono ?_; rintro e w1 ⟨f, F, D, rfl, k1, hS, hF⟩; obtain ⟨K, cap, rfl⟩ := hS.shape)
  go_ret
  exact ⟨(below_alloc2 w _ _).trans (k1.mono (by simp; omega)), K, cap, rfl, F, D, hS, fun k hk => .inr (by have := hF k hk; simp at this; omega), fun k hk => by have := hF k (hS.sub k hk); simp at this; omega⟩

theorem opens_num {B b : Nat} {w0 : World} {n : Int} (x : IV) (hb : b < B) (c0 : w0.cell? ⟨b, 0, none⟩ = some (.iface 98 (.int .i64 n))) : Opens B w0 (.iface 224 (.pointer (some ⟨b, 0, none⟩))) x [(98, .int .i64 n)] .none :=
  opens_of_made (.inl rfl) (made_num hb c0)

/-- What an operation of two values comes to. -/
def OperIs (B : Nat) (w0 : World) (x : IV) (op : ByteArray) (y : IV) (r : Res) : Prop := ∀ w, SameOn (· < B) w0 w → B ≤ w.heap.size → Calls Tryz.prog 183 #[iv x, .string op, iv y] w fun e w' => Below w.heap.size w w' ∧ r.Is' w.heap.size e w'

theorem enters_op31 : Enters Tryz.prog 182 := enters_of Tryz.func182 (by kernel_rfl) rfl
set_option maxHeartbeats 2000000 in
theorem op31_ok {B xb fb b : Nat} {w0 w : World} {x y : IV} {op : ByteArray} {r : Res} (h : OperIs B w0 x op y r) (hx : SpotBox w xb (iv x)) (hf : Box w fb (.pointer (some ⟨b, 0, none⟩)) 171) (hb : b < B) (c1 : w0.cell? ⟨b, 1, none⟩ = some (.string op)) (hs : SameOn (· < B) w0 w) (hB : B ≤ w.heap.size) :
    Calls Tryz.prog 182 #[iv y, .pointer (some ⟨xb, 0, none⟩), .pointer (some ⟨fb, 0, none⟩)] w fun e w' => Below w.heap.size w w' ∧ r.Is' w.heap.size e w' := by
  obtain ⟨T, u⟩ := x
  obtain ⟨T1, u1⟩ := y
  obtain ⟨x0, x1, _, _, x4⟩ := hx.facts
  have f0 := hf.cell
  have f2 := hf.lt
  have n1 := hs.cell hb c1
  have n2 : b < w.heap.size := by omega
  simp only [iv, OperIs] at h x0 ⊢
  have s0 := six ((Below.refl _ w).drew) x0 x1 f0 n1 x0 x1
  cases r with
  | ok z =>
    obtain ⟨T2, u2⟩ := z
    simp only [iv, Res.Is'] at h ⊢
    go_enter Tryz.func182, Tryz.ntmps182
    go_wp2_with fail
    go_region_held3 (fun w' => w'.cell? ⟨xb, 0, none⟩ = some (.iface T u) ∧ w'.cell? ⟨xb, 1, none⟩ = some (.pointer none) ∧ w'.cell? ⟨fb, 0, none⟩ = some (.pointer (some ⟨b, 0, none⟩)) ∧ w'.cell? ⟨b, 1, none⟩ = some (.string op) ∧ w'.cell? ⟨xb, 0, none⟩ = some (.iface T u) ∧ w'.cell? ⟨xb, 1, none⟩ = some (.pointer none)) (first | exact s0 | exact e4 | go_keep)
      (first | (go_at_call 183; refine (h _ (hs.trans (fun k hk => (Below.refl w.heap.size w).drew.block k (by have : k < B := hk; omega))) (by simpa using hB)).mono ?_; rintro e w1 ⟨k1, rfl⟩; have kX : Below w.heap.size w w1 := (Below.refl _ _).drew.trans (k1.mono (by simp)); have e4 := six kX x0 x1 f0 n1 x0 x1))
    all_goals
      go_wp2_with fail
      go_ret
      exact ⟨kX, rfl⟩
  | error z =>
    simp only [Res.Is'] at h ⊢
    go_enter Tryz.func182, Tryz.ntmps182
    go_wp2_with fail
    go_region_dies
    all_goals
      refine (h _ (hs.trans (fun k hk => (Below.refl w.heap.size w).drew.block k (by have : k < B := hk; omega))) (by simpa using hB)).mono ?_
      rintro e w1 ⟨k1, bb, hbb, rfl, hc⟩
      exact ⟨rfl, (Below.refl _ _).drew.trans (k1.mono (by simp)), bb, by simpa using hbb, rfl, hc⟩

theorem toOper {B xb fb b : Nat} {w0 w : World} {x y : IV} {op : ByteArray} {r : Res} (h : OperIs B w0 x op y r) (hx : SpotBox w xb (iv x)) (hf : Box w fb (.pointer (some ⟨b, 0, none⟩)) 171) (hb : b < B) (c1 : w0.cell? ⟨b, 1, none⟩ = some (.string op)) (hs : SameOn (· < B) w0 w) (hB : B ≤ w.heap.size) :
    VIs (fun k => k < B ∨ k = xb ∨ k = fb) w (.func (.func 182) #[] #[.pointer (some ⟨xb, 0, none⟩), .pointer (some ⟨fb, 0, none⟩)]) y r := by
  refine ⟨_, _, rfl, enters_op31, ?_, ?_⟩
  · rintro k (hk | rfl | rfl)
    · omega
    · exact hx.lt
    · exact hf.lt
  · intro w' hs' hl'
    exact op31_ok h (hx.same (hs' _ (by simp))) (hf.same (hs' _ (by simp))) hb c1 (hs.trans (fun k hk => hs' k (.inl hk))) (by omega)

/-- valued, at one value. -/
theorem valued_one {r : Res} {C : Nat → Prop} {f g : Value} {y : IV} {w : World} {F D : Nat → Prop} (hS : Str [y] .none F D w f) (hC : ∀ k, C k → k < w.heap.size) (hT : VIs C w g y r) (hCD : ∀ k, C k → ¬ D k) :
    Calls Tryz.prog 126 #[f, g] w fun e w' => Below w.heap.size w w' ∧ ∃ v F', e = .returned v ∧ Outs r F' D w' v ∧ (∀ k, F' k → F k ∨ C k ∨ w.heap.size ≤ k) := by
  cases r with
  | ok z =>
    have hT' := hT
    obtain ⟨K, cap, e, _⟩ := hT'
    exact valued_ok (φ := fun _ => z) hS ⟨K, cap, e⟩ hC (fun x hx => by simp at hx; subst hx; exact hT) hCD
  | error z => exact valued_ok_throws hS hC hT hCD
theorem Outs.shape {r : Res} {F D : Nat → Prop} {w : World} {f : Value} (h : Outs r F D w f) : ∃ K cap, f = .func (.func K) #[] cap := by
  cases r <;> exact Str.shape h

theorem opC {B n n2 m : Nat} (h : B ≤ m) (h' : n < m) (h2 : n2 < m) : ∀ k, (k < B ∨ k = n ∨ k = n2) → k < m := by
  intro k hk
  omega
theorem opD {B n n2 m : Nat} {D : Nat → Prop} (hD : ∀ k, D k → m ≤ k) (h : B ≤ m) (h' : n < m) (h2 : n2 < m) : ∀ k, (k < B ∨ k = n ∨ k = n2) → ¬ D k := by
  intro k hk e
  have := hD _ e
  omega

theorem enters_op3 : Enters Tryz.prog 181 := enters_of Tryz.func181 (by kernel_rfl) rfl
set_option maxHeartbeats 4000000 in
theorem op3_ok {B pb fb sb b T1 b1 : Nat} {w0 w : World} {kn : Option Addr} {d : Int} {x x' y : IV} {op : ByteArray} {r : Res} (hp : PlaceBox w pb kn d) (hf : Box w fb (.pointer (some ⟨b, 0, none⟩)) 171) (hx : SpotBox w sb (iv x)) (hb : b < B) (c1 : w0.cell? ⟨b, 1, none⟩ = some (.string op)) (c2 : w0.cell? ⟨b, 2, none⟩ = some (.iface T1 (.pointer (some ⟨b1, 0, none⟩)))) (hO : Opens B w0 (.iface T1 (.pointer (some ⟨b1, 0, none⟩))) x [y] .none) (h : OperIs B w0 x' op y r) (hs : SameOn (· < B) w0 w) (hB : B ≤ w.heap.size) :
    Calls Tryz.prog 181 #[.agg #[iv x', .pointer none], .pointer (some ⟨pb, 0, none⟩), .pointer (some ⟨fb, 0, none⟩), .pointer (some ⟨sb, 0, none⟩)] w fun e w' => Below w.heap.size w w' ∧ ∃ f F D, e = .returned f ∧ Outs r F D w' f ∧ (∀ k, F k → (k < B ∨ k = fb) ∨ w.heap.size ≤ k) ∧ (∀ k, D k → w.heap.size ≤ k) := by
  have p0 := hp.c0
  have p1 := hp.c1
  have p2 := hp.lt
  have f0 := hf.cell
  have f2 := hf.lt
  obtain ⟨x0, x1, _, _, x4⟩ := hx.facts
  have n1 := hs.cell hb c2
  have n2 : b < w.heap.size := by omega
  obtain ⟨T, u⟩ := x
  obtain ⟨T', u'⟩ := x'
  simp only [iv, Opens] at hO x0 ⊢
  have s0 := six ((below_alloc w (.cells #[.iface T' u', .pointer none] 75)).drew) p0 p1 f0 n1 x0 x1
  go_enter Tryz.func181, Tryz.ntmps181
  go_wp2_with fail
  go_region_held3 (fun w' => w'.cell? ⟨pb, 0, none⟩ = some (.pointer kn) ∧ w'.cell? ⟨pb, 1, none⟩ = some (.int .i64 d) ∧ w'.cell? ⟨fb, 0, none⟩ = some (.pointer (some ⟨b, 0, none⟩)) ∧ w'.cell? ⟨b, 2, none⟩ = some (.iface T1 (.pointer (some ⟨b1, 0, none⟩))) ∧ w'.cell? ⟨sb, 0, none⟩ = some (.iface T u) ∧ w'.cell? ⟨sb, 1, none⟩ = some (.pointer none)) (first | exact s0 | exact f4 | exact g4 | go_keep)
      (first
        | (go_at_call 22; refine (hO _ kn d (hs.trans (fun k hk => (below_alloc w _).drew.block k (by have : k < B := hk; omega))) (by simp; omega)).mono ?_; rintro e w2 ⟨k2, f, F, D, rfl, hS, hF, hD⟩; obtain ⟨K, cap, rfl⟩ := hS.shape; have kX : Below (w.heap.size + 1) (w.alloc (.cells #[.iface T' u', .pointer none] 75)) w2 := (Below.refl _ _).drew.trans (k2.mono (by simp)); have hX : SpotBox w2 w.heap.size (.iface T' u') := (SpotBox.new w _).same (kX.block _ (by omega)); have kB : Below w.heap.size w w2 := (below_alloc w _).trans (kX.mono (by omega)); have f4 := six kB p0 p1 f0 n1 x0 x1; have hX1 := hX.lt; have hf2 := hf.same (kB.block _ f2); have hf3 := hf2.lt; have s2 : SameOn (· < B) w0 w2 := hs.trans (fun k hk => kB.block k (Nat.lt_of_lt_of_le hk hB)); have b2 : B ≤ w2.heap.size := Nat.le_trans hB kB.size; have hD' : ∀ k, D k → w.heap.size + 1 ≤ k := (fun k hk => by have := hD k hk; simpa using this))
        | (go_at_call 126; refine (valued_one (r := r) (C := fun k => k < B ∨ k = w.heap.size ∨ k = fb) hS (opC b2 hX1 hf3) (toOper h hX hf2 hb c1 s2 b2) (opD hD' (by omega) (by omega) (by omega))).mono ?_; rintro e w3 ⟨k3, v, F', rfl, hS', hF'⟩; obtain ⟨K3, cap3, rfl⟩ := hS'.shape; have kC := kB.trans (k3.mono kB.size); have g4 := six kC p0 p1 f0 n1 x0 x1))
  all_goals
    go_wp2_with fail
    go_ret
    refine ⟨kC, _, F', D, rfl, hS', ?_, fun k hk => by have := hD' k hk; omega⟩
    intro k hk
    rcases hF' k hk with h | (h | h | h) | h
    · rcases hF k h with h | h
      · exact .inl (.inl h)
      · simp at h; exact .inr (by omega)
    · exact .inl (.inl h)
    · exact .inr (by omega)
    · exact .inl (.inr h)
    · exact .inr (by have := kB.size; omega)
end Go.Proofs.Tryz

