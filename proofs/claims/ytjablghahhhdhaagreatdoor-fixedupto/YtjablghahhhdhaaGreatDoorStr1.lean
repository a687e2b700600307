import Derived.Test.YtjablghahhhdhaaGreatDoorStep2
import Derived.Defers
import Derived.Recover
import Derived.OneCell
import Derived.Shelf.Abstract
import Derived.WalkMore
import Derived.Laws.EntriesVeiled
set_option linter.all false
namespace Go.Proofs.Tryz
open Go.RowKit
set_option maxRecDepth 10000

/-- All blocks that were there but those of D are as they were. -/
structure Fr (D : Nat → Prop) (w w' : World) : Prop where
  os : w'.os = w.os
  tape : w'.tape = w.tape
  output : w'.output = w.output
  size : w.heap.size ≤ w'.heap.size
  block : ∀ k, k < w.heap.size → ¬ D k → w'.heap[k]? = w.heap[k]?

theorem Fr.refl (D : Nat → Prop) (w : World) : Fr D w w := ⟨rfl, rfl, rfl, Nat.le_refl _, fun _ _ _ => rfl⟩
theorem Fr.trans {D E : Nat → Prop} {a b c : World} (h : Fr D a b) (k : Fr E b c) (s : ∀ i, i < a.heap.size → E i → D i) : Fr D a c :=
  ⟨k.os.trans h.os, k.tape.trans h.tape, k.output.trans h.output, Nat.le_trans h.size k.size,
    fun i hi hd => (k.block i (Nat.lt_of_lt_of_le hi h.size) (fun e => hd (s i hi e))).trans (h.block i hi hd)⟩
theorem Fr.mono {D E : Nat → Prop} {a b : World} (h : Fr D a b) (s : ∀ i, D i → E i) : Fr E a b :=
  ⟨h.os, h.tape, h.output, h.size, fun i hi hd => h.block i hi (fun e => hd (s i e))⟩
theorem Fr.of_below {D : Nat → Prop} {w w' : World} (h : Below w.heap.size w w') : Fr D w w' :=
  ⟨h.os, h.tape, h.output, h.size, fun k hk _ => h.block k hk⟩
theorem Fr.below {D : Nat → Prop} {w w' : World} (h : Fr D w w') (hD : ∀ k, ¬ D k) : Below w.heap.size w w' :=
  ⟨h.os, h.tape, h.output, h.size, fun k hk => h.block k hk (hD k)⟩
theorem Fr.alloc {D : Nat → Prop} {a w : World} (h : Fr D a w) (o : Obj) : Fr D a (w.alloc o) :=
  h.trans (E := D) (.of_below ((Below.refl _ _).alloc (Nat.le_refl _) _)) (fun _ _ e => e)
theorem Fr.setCell {D : Nat → Prop} {a w : World} (h : Fr D a w) {b o : Nat} (u : Value) (hp : D b ∨ a.heap.size ≤ b) : Fr D a (w.setCell ⟨b, o, none⟩ u) :=
  ⟨h.os, h.tape, h.output, by have := h.size; simpa using this, fun k hk hd => by
    rw [Below.heap_setCell _ _ _ _ (by
      rcases hp with hp | hp
      · intro e; simp at e; subst e; exact hd hp
      · intro e; simp at e; omega)]
    exact h.block k hk hd⟩
theorem Fr.drewN {D : Nat → Prop} {a w : World} (h : Fr D a w) (n : Nat) : Fr D a (w.drewN n) := ⟨h.os, h.tape, h.output, h.size, h.block⟩

/-- A box: a block of one cell that can be written. -/
def Box (w : World) (b : Nat) (v : Value) (T : Nat) : Prop := w.heap[b]? = some (.cells #[v] T (0, 0))
/-- The block of a spot without a path. -/
def SpotBox (w : World) (b : Nat) (v : Value) : Prop := w.heap[b]? = some (.cells #[v, .pointer none] 75 (0, 0))

/-- A value of the language: a type and what is in it. -/
abbrev IV := Nat × Value
def iv (x : IV) : Value := .iface x.1 x.2

/-- How a stream ends: done, or an error with this value is thrown. -/
abbrev Fin1 := Option IV

/-- An error, thrown. -/
def Thrown (b0 : Nat) (v : IV) (e : Ending) (w : World) : Prop :=
  ∃ b, b0 ≤ b ∧ e = .panicked [{ v := .iface 80 (.pointer (some ⟨b, 0, none⟩)), recovered := false }] ∧ w.heap[b]? = some (.cells #[.int .u8 0, iv v, .pointer none] 157 (0, 0))

def Ends1 (E : Fin1) (b0 : Nat) (e : Ending) (w : World) : Prop := match E with
  | .none => e = .returned (.tuple #[.agg #[.nilIface, .pointer none], .bool false])
  | .some v => Thrown b0 v e w

/-- The blocks of F are the same. -/
def SameOn (F : Nat → Prop) (w w' : World) : Prop := ∀ k, F k → w'.heap[k]? = w.heap[k]?

theorem SameOn.refl (F : Nat → Prop) (w : World) : SameOn F w w := fun _ _ => rfl
theorem SameOn.trans {F : Nat → Prop} {a b c : World} (h : SameOn F a b) (k : SameOn F b c) : SameOn F a c := fun i hi => (k i hi).trans (h i hi)
theorem SameOn.mono {F G : Nat → Prop} {a b : World} (h : SameOn G a b) (s : ∀ k, F k → G k) : SameOn F a b := fun i hi => h i (s i hi)
theorem Fr.same {D F : Nat → Prop} {a b : World} (h : Fr D a b) (hl : ∀ k, F k → k < a.heap.size) (hd : ∀ k, F k → ¬ D k) : SameOn F a b := fun k hk => h.block k (hl k hk) (hd k hk)

/-- The function value f is a stream that gives the values L and then ends as E says. It looks at the blocks of F alone and writes into those of D alone. -/
def Str : List IV → Fin1 → (Nat → Prop) → (Nat → Prop) → World → Value → Prop
  | [], E, F, D, w, f => ∃ K cap, f = .func (.func K) #[] cap ∧ Enters Tryz.prog K ∧ (∀ k, F k → k < w.heap.size) ∧ (∀ k, D k → F k) ∧
      ∀ w', SameOn F w w' → w.heap.size ≤ w'.heap.size → Calls Tryz.prog K cap w' fun e w'' => Fr D w' w'' ∧ Ends1 E w'.heap.size e w''
  | v :: L, E, F, D, w, f => ∃ K cap, f = .func (.func K) #[] cap ∧ Enters Tryz.prog K ∧ (∀ k, F k → k < w.heap.size) ∧ (∀ k, D k → F k) ∧
      ∀ w', SameOn F w w' → w.heap.size ≤ w'.heap.size → Calls Tryz.prog K cap w' fun e w'' => Fr D w' w'' ∧
        e = .returned (.tuple #[.agg #[iv v, .pointer none], .bool true]) ∧
        ∃ F' D', (∀ k, F' k → F k ∨ w'.heap.size ≤ k) ∧ (∀ k, D' k → D k ∨ w'.heap.size ≤ k) ∧ Str L E F' D' w'' f

theorem Str.lt {L : List IV} {E : Fin1} {F D : Nat → Prop} {w : World} {f : Value} (h : Str L E F D w f) : ∀ k, F k → k < w.heap.size := by
  cases L <;> (obtain ⟨_, _, _, _, h, _⟩ := h; exact h)
theorem Str.sub {L : List IV} {E : Fin1} {F D : Nat → Prop} {w : World} {f : Value} (h : Str L E F D w f) : ∀ k, D k → F k := by
  cases L <;> (obtain ⟨_, _, _, _, _, h, _⟩ := h; exact h)
theorem Str.shape {L : List IV} {E : Fin1} {F D : Nat → Prop} {w : World} {f : Value} (h : Str L E F D w f) : ∃ K cap, f = .func (.func K) #[] cap := by
  cases L <;> (obtain ⟨K, cap, h, _⟩ := h; exact ⟨K, cap, h⟩)
/-- A stream stays what it is while its blocks do. -/
theorem Str.move {L : List IV} {E : Fin1} {F D : Nat → Prop} {w w1 : World} {f : Value} (h : Str L E F D w f) (hs : SameOn F w w1) (hl : w.heap.size ≤ w1.heap.size) : Str L E F D w1 f := by
  cases L <;>
  · obtain ⟨K, cap, hf, hE, hF, hD, h⟩ := h
    exact ⟨K, cap, hf, hE, fun k hk => Nat.lt_of_lt_of_le (hF k hk) hl, hD, fun w' hs' hl' => h w' (hs.trans hs') (Nat.le_trans hl hl')⟩
theorem Str.after {L : List IV} {E : Fin1} {F D X : Nat → Prop} {w w1 : World} {f : Value} (h : Str L E F D w f) (hs : Fr X w w1) (hd : ∀ k, F k → ¬ X k) : Str L E F D w1 f :=
  h.move (hs.same h.lt hd) hs.size

set_option maxHeartbeats 400000 in
theorem none_calls (w : World) : Calls Tryz.prog 19 #[] w fun e w' => e = .returned (.tuple #[.agg #[.nilIface, .pointer none], .bool false]) ∧ Below w.heap.size w w' := by
  go_enter Tryz.func19, Tryz.ntmps19
  go_wp2
  exact bodyPost_ret (v := .tuple #[.agg #[.nilIface, .pointer none], .bool false]) (by simp [results, Tryz.results19, go_sem]) rfl ⟨rfl, below_alloc _ _⟩

theorem enters_none : Enters Tryz.prog 19 := enters_of Tryz.func19 (by kernel_rfl) rfl
theorem none_str (w : World) : Str [] .none (fun _ => False) (fun _ => False) w (.func (.func 19) #[] #[]) :=
  ⟨_, _, rfl, enters_none, fun _ h => h.elim, fun _ h => h.elim, fun w' _ _ => (none_calls w').mono fun e w'' ⟨h1, h2⟩ => ⟨.of_below h2, h1⟩⟩

theorem heap_new2' (w : World) (o1 o2 : Obj) : ((w.alloc o1).alloc o2).heap[w.heap.size + 1]? = some o2 := by
  have := heap_new (w.alloc o1) o2
  simpa using this

theorem Box.cell {w : World} {b : Nat} {v : Value} {T : Nat} (h : Box w b v T) : w.cell? ⟨b, 0, none⟩ = some v := cell_of_one h
theorem Box.free {w : World} {b : Nat} {v : Value} {T : Nat} (h : Box w b v T) : w.frozen? ⟨b, 0, none⟩ = false := free_of_one h
theorem Box.lt {w : World} {b : Nat} {v : Value} {T : Nat} (h : Box w b v T) : b < w.heap.size := lt_of_block h
theorem Box.new (w : World) (v : Value) (T : Nat) : Box (w.alloc (.cells #[v] T)) w.heap.size v T := heap_new _ _
theorem Box.set {w : World} {b : Nat} {v : Value} {T : Nat} (h : Box w b v T) (u : Value) : Box (w.setCell ⟨b, 0, none⟩ u) b u T := one_setCell h
theorem Box.same {w w' : World} {b : Nat} {v : Value} {T : Nat} (h : Box w b v T) (e : w'.heap[b]? = w.heap[b]?) : Box w' b v T := e.trans h
theorem SpotBox.c0 {w : World} {b : Nat} {v : Value} (h : SpotBox w b v) : w.cell? ⟨b, 0, none⟩ = some v := by simp [World.cell?, SpotBox] at *; simp [h]
theorem SpotBox.c1 {w : World} {b : Nat} {v : Value} (h : SpotBox w b v) : w.cell? ⟨b, 1, none⟩ = some (.pointer none) := by simp [World.cell?, SpotBox] at *; simp [h]

theorem SpotBox.f0 {w : World} {b : Nat} {v : Value} (h : SpotBox w b v) : w.frozen? ⟨b, 0, none⟩ = false := by simp [World.frozen?, SpotBox] at *; simp [h]
theorem SpotBox.f1 {w : World} {b : Nat} {v : Value} (h : SpotBox w b v) : w.frozen? ⟨b, 1, none⟩ = false := by simp [World.frozen?, SpotBox] at *; simp [h]
theorem SpotBox.lt {w : World} {b : Nat} {v : Value} (h : SpotBox w b v) : b < w.heap.size := lt_of_block h
theorem SpotBox.new (w : World) (v : Value) : SpotBox (w.alloc (.cells #[v, .pointer none] 75)) w.heap.size v := heap_new _ _
theorem SpotBox.same {w w' : World} {b : Nat} {v : Value} (h : SpotBox w b v) (e : w'.heap[b]? = w.heap[b]?) : SpotBox w' b v := e.trans h
theorem SpotBox.alloc {w : World} {b : Nat} {v : Value} (h : SpotBox w b v) (o : Obj) : SpotBox (w.alloc o) b v := h.same (Below.heap_alloc _ _ _ h.lt)
theorem SpotBox.facts {w : World} {b : Nat} {v : Value} (h : SpotBox w b v) : w.cell? ⟨b, 0, none⟩ = some v ∧ w.cell? ⟨b, 1, none⟩ = some (.pointer none) ∧ w.frozen? ⟨b, 0, none⟩ = false ∧ w.frozen? ⟨b, 1, none⟩ = false ∧ b < w.heap.size := ⟨h.c0, h.c1, h.f0, h.f1, h.lt⟩

/- The stream of one: given or not. -/
set_option maxHeartbeats 400000 in
theorem one1_given {w : World} {g s : Nat} (hg : Box w g (.bool true) 4) : Calls Tryz.prog 90 #[.pointer (some ⟨g, 0, none⟩), .pointer (some ⟨s, 0, none⟩)] w fun e w' => e = .returned (.tuple #[.agg #[.nilIface, .pointer none], .bool false]) ∧ Below w.heap.size w w' := by
  have h0 := hg.cell
  have h2 := hg.lt
  go_enter Tryz.func90, Tryz.ntmps90
  go_wp2_with (go_at_call 19; refine (none_calls _).mono ?_; rintro e w1 ⟨rfl, k1⟩; have q : SpotBox w1 w.heap.size .nilIface := (SpotBox.new w .nilIface).same (k1.block _ (by simp)); obtain ⟨q0, q1, q2, q3, q4⟩ := q.facts)
  exact bodyPost_ret (v := .tuple #[.agg #[.nilIface, .pointer none], .bool false]) (by simp [results, Tryz.results90, go_sem, q4, q0, q1]) rfl ⟨rfl, ((((below_alloc _ _).trans (k1.mono (by simp))).setCell (by simp) _).setCell (by simp) _)⟩
set_option maxHeartbeats 400000 in
theorem one1_first {w : World} {g s T : Nat} {u : Value} (hg : Box w g (.bool false) 4) (hs : SpotBox w s (.iface T u)) : Calls Tryz.prog 90 #[.pointer (some ⟨g, 0, none⟩), .pointer (some ⟨s, 0, none⟩)] w fun e w' => e = .returned (.tuple #[.agg #[.iface T u, .pointer none], .bool true]) ∧ Fr (· = g) w w' ∧ Box w' g (.bool true) 4 := by
  have h0 := hg.cell
  have h1 := hg.free
  have h2 := hg.lt
  obtain ⟨h3, h4, _, _, h5⟩ := hs.facts
  have hne : g ≠ s := by
    intro e
    subst e
    have := Option.some.inj (hg.symm.trans hs)
    simp at this
  go_enter Tryz.func90, Tryz.ntmps90
  go_wp2_with fail
  exact bodyPost_ret (v := .tuple #[.agg #[.iface T u, .pointer none], .bool true]) (by simp [results, Tryz.results90, go_sem]) rfl ⟨rfl, ((Fr.refl (· = g) w).setCell _ (.inl rfl)).alloc _, (hg.set _).same (Below.heap_alloc _ _ _ (by simpa using h2))⟩

theorem spot_ne {w : World} {g s T : Nat} {u v : Value} (hg : Box w g v T) (hs : SpotBox w s u) : g ≠ s := by
  intro e
  subst e
  have := Option.some.inj (hg.symm.trans hs)
  simp at this
set_option maxHeartbeats 400000 in
theorem one_ok {w : World} {T : Nat} {u : Value} : Calls Tryz.prog 43 #[.agg #[.iface T u, .pointer none]] w fun e w' => ∃ f F D, e = .returned f ∧ Below w.heap.size w w' ∧ Str [(T, u)] .none F D w' f ∧ (∀ k, F k → w.heap.size ≤ k) := by
  go_enter Tryz.func43, Tryz.ntmps43
  go_wp2
  go_ret
  refine ⟨_, fun k => k = w.heap.size ∨ k = w.heap.size + 1, fun k => k = w.heap.size + 1, rfl, ((below_alloc _ _).alloc (by simp) _), ?_, by intro k hk; omega⟩
  refine ⟨_, _, rfl, enters_of Tryz.func90 (by kernel_rfl) rfl, by intro k hk; simp; omega, fun k hk => .inr hk, ?_⟩
  intro w1 hs hl
  have b0 : SpotBox w1 w.heap.size (.iface T u) := (hs _ (.inl rfl)).trans ((SpotBox.new w _).alloc _)
  have b1 : Box w1 (w.heap.size + 1) (.bool false) 4 := (hs _ (.inr rfl)).trans (heap_new2' w _ _)
  refine (one1_first b1 b0).mono ?_
  rintro e w2 ⟨rfl, k2, k3⟩
  refine ⟨k2, rfl, fun k => k = w.heap.size + 1, fun k => k = w.heap.size + 1, fun k hk => .inl (.inr hk), fun k hk => .inl hk, ?_⟩
  refine ⟨_, _, rfl, enters_of Tryz.func90 (by kernel_rfl) rfl, by intro k hk; subst hk; exact k3.lt, fun k hk => hk, ?_⟩
  intro w3 hs3 hl3
  refine (one1_given (k3.same (hs3 _ rfl))).mono ?_
  rintro e w4 ⟨rfl, k4⟩
  exact ⟨.of_below k4, rfl⟩

end Go.Proofs.Tryz

