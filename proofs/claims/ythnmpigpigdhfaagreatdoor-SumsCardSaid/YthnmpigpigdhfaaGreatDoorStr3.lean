import Derived.Test.YthnmpigpigdhfaaGreatDoorStr1
set_option linter.all false
namespace Go.Proofs.Tryz
open Go.RowKit
set_option maxRecDepth 10000

/-- What a function of one value comes to: a value, or an error. -/
abbrev Res := Except IV IV

def Res.Is (r : Res) (b0 : Nat) (e : Ending) (w : World) : Prop := match r with
  | .ok v => e = .returned (.agg #[iv v, .pointer none])
  | .error v => Thrown b0 v e w

/-- The function value g comes to r at the value x. It looks at the blocks of C alone and writes into none. -/
def ToIs (C : Nat → Prop) (w : World) (g : Value) (x : IV) (r : Res) : Prop :=
  ∃ K cap, g = .func (.func K) #[] cap ∧ Enters Tryz.prog K ∧ (∀ k, C k → k < w.heap.size) ∧
    ∀ w', SameOn C w w' → w.heap.size ≤ w'.heap.size → Calls Tryz.prog K (#[.agg #[iv x, .pointer none]] ++ cap) w' fun e w'' => Below w'.heap.size w' w'' ∧ r.Is w'.heap.size e w''

theorem ToIs.move {C : Nat → Prop} {w w1 : World} {g : Value} {x : IV} {r : Res} (h : ToIs C w g x r) (hs : SameOn C w w1) (hl : w.heap.size ≤ w1.heap.size) : ToIs C w1 g x r := by
  obtain ⟨K, cap, e, hE, hC, h⟩ := h
  exact ⟨K, cap, e, hE, fun k hk => Nat.lt_of_lt_of_le (hC k hk) hl, fun w' hs' hl' => h w' (hs.trans hs') (Nat.le_trans hl hl')⟩

theorem new_not {w : World} {F D : Nat → Prop} (hF : ∀ k, F k → k < w.heap.size) (hD : ∀ k, D k → F k) : ¬ D w.heap.size := fun e => by have := hF _ (hD _ e); omega

set_option maxHeartbeats 400000 in
theorem mapped1_done {w : World} {ob tb K : Nat} {cap : Array Value} {F D : Nat → Prop} (ho : Box w ob (.func (.func K) #[] cap) 62) (hE : Enters Tryz.prog K) (hF : ∀ k, F k → k < w.heap.size) (hD : ∀ k, D k → F k)
    (h : ∀ w', SameOn F w w' → w.heap.size ≤ w'.heap.size → Calls Tryz.prog K cap w' fun e w'' => Fr D w' w'' ∧ e = .returned (.tuple #[.agg #[.nilIface, .pointer none], .bool false])) :
    Calls Tryz.prog 99 #[.pointer (some ⟨ob, 0, none⟩), .pointer (some ⟨tb, 0, none⟩)] w fun e w' => Fr D w w' ∧ e = .returned (.tuple #[.agg #[.nilIface, .pointer none], .bool false]) := by
  have h0 := ho.cell
  have h2 := ho.lt
  have hE' : ∀ (args : Array Value) (w : World), (callFunc K args).run Tryz.prog w = .ok (.enter K args) w := hE
  go_enter Tryz.func99, Tryz.ntmps99
  go_wp2_with (first
    | (go_at_call 20; refine (none_calls _).mono ?_; rintro e w2 ⟨rfl, k2⟩; have p : SpotBox w2 w.heap.size .nilIface := (q.alloc _).same (k2.block _ (by simp; omega)); obtain ⟨p0, p1, p2, p3, p4⟩ := p.facts)
    | (go_at_fn K; refine (h _ (fun k hk => Below.heap_alloc _ _ _ (hF k hk)) (by simp)).mono ?_; rintro e w1 ⟨k1, rfl⟩; have q : SpotBox w1 w.heap.size .nilIface := (SpotBox.new w .nilIface).same (k1.block _ (by simp) (new_not hF hD)); obtain ⟨q0, q1, q2, q3, q4⟩ := q.facts))
  refine bodyPost_ret (v := .tuple #[.agg #[.nilIface, .pointer none], .bool false]) (by simp [results, Tryz.results99, go_sem, p4, p0, p1]) rfl ⟨?_, rfl⟩
  exact ((((((Fr.refl D w).alloc _).trans k1 (fun _ _ e => e)).alloc _).trans (Fr.of_below (D := D) k2) (fun _ _ e => e)).setCell _ (.inr (Nat.le_refl _))).setCell _ (.inr (Nat.le_refl _))

set_option maxHeartbeats 400000 in
theorem mapped1_thrown {w : World} {ob tb K : Nat} {cap : Array Value} {F D : Nat → Prop} (ho : Box w ob (.func (.func K) #[] cap) 62) (hE : Enters Tryz.prog K) (hF : ∀ k, F k → k < w.heap.size) (hD : ∀ k, D k → F k) {v : IV}
    (h : ∀ w', SameOn F w w' → w.heap.size ≤ w'.heap.size → Calls Tryz.prog K cap w' fun e w'' => Fr D w' w'' ∧ Thrown w'.heap.size v e w'') :
    Calls Tryz.prog 99 #[.pointer (some ⟨ob, 0, none⟩), .pointer (some ⟨tb, 0, none⟩)] w fun e w' => Fr D w w' ∧ Thrown w.heap.size v e w' := by
  have h0 := ho.cell
  have h2 := ho.lt
  have hE' : ∀ (args : Array Value) (w : World), (callFunc K args).run Tryz.prog w = .ok (.enter K args) w := hE
  go_enter Tryz.func99, Tryz.ntmps99
  go_wp2_with (first
    | (go_at_fn K; refine (h _ (fun k hk => Below.heap_alloc _ _ _ (hF k hk)) (by simp)).mono ?_; rintro e w1 ⟨k1, b, hb, rfl, hc⟩))
  exact ⟨rfl, ((Fr.refl D w).alloc _).trans k1 (fun _ _ e => e), b, by simp at hb; omega, rfl, hc⟩

set_option maxHeartbeats 400000 in
theorem mapped1_some {w : World} {ob tb : Nat} {f g : Value} {L : List IV} {E : Fin1} {F D C : Nat → Prop} {x y : IV} (ho : Box w ob f 62) (ht : Box w tb g 124) (hS : Str (x :: L) E F D w f) (hT : ToIs C w g x (.ok y)) (hCD : ∀ k, C k → ¬ D k) (htD : ¬ D tb) :
    Calls Tryz.prog 99 #[.pointer (some ⟨ob, 0, none⟩), .pointer (some ⟨tb, 0, none⟩)] w fun e w' => Fr D w w' ∧ e = .returned (.tuple #[.agg #[iv y, .pointer none], .bool true]) ∧ ∃ F' D', (∀ k, F' k → F k ∨ w.heap.size < k) ∧ (∀ k, D' k → D k ∨ w.heap.size < k) ∧ Str L E F' D' w' f := by
  have h0 := ho.cell
  have h2 := ho.lt
  obtain ⟨K, cap, rfl, hE, hF, hD, h⟩ := hS
  obtain ⟨K2, cap2, rfl, hE2, hC, h'⟩ := hT
  have hE' : ∀ (args : Array Value) (w : World), (callFunc K args).run Tryz.prog w = .ok (.enter K args) w := hE
  have hE2' : ∀ (args : Array Value) (w : World), (callFunc K2 args).run Tryz.prog w = .ok (.enter K2 args) w := hE2
  obtain ⟨T, u⟩ := x
  obtain ⟨T', u'⟩ := y
  simp only [iv, Res.Is] at h h' ⊢
  go_enter Tryz.func99, Tryz.ntmps99
  go_wp2_with (first
    | (go_at_fn K2; refine (h' _ (fun k hk => (Below.heap_alloc _ _ _ (by have := hC k hk; omega)).trans ((k1.block k (by have := hC k hk; simp; omega) (hCD k hk)).trans (Below.heap_alloc _ _ _ (hC k hk)))) (by simp; omega)).mono ?_; rintro e w2 ⟨k2, rfl⟩; have p : SpotBox w2 w.heap.size .nilIface := (q.alloc _).same (k2.block _ (by simp; omega)); obtain ⟨p0, p1, p2, p3, p4⟩ := p.facts)
    | (go_at_fn K; refine (h _ (fun k hk => Below.heap_alloc _ _ _ (hF k hk)) (by simp)).mono ?_; rintro e w1 ⟨k1, rfl, F', D', hF', hD', hS'⟩; have q : SpotBox w1 w.heap.size .nilIface := (SpotBox.new w .nilIface).same (k1.block _ (by simp) (new_not hF hD)); obtain ⟨q0, q1, q2, q3, q4⟩ := q.facts; have t0 := (ht.same ((k1.block tb (by have := ht.lt; simp; omega) htD).trans (Below.heap_alloc _ _ _ ht.lt))).cell; have t1 : tb < w1.heap.size := by have := ht.lt; omega))
  refine bodyPost_ret (v := .tuple #[.agg #[.iface T' u', .pointer none], .bool true]) (by simp [results, Tryz.results99, go_sem, p4, p0, p1]) rfl ⟨?_, rfl, F', D', ?_, ?_, ?_⟩
  · exact ((((((Fr.refl D w).alloc _).trans k1 (fun _ _ e => e)).alloc _).trans (Fr.of_below (D := D) k2) (fun _ _ e => e)).setCell _ (.inr (Nat.le_refl _))).setCell _ (.inr (Nat.le_refl _))
  · intro k hk
    rcases hF' k hk with h | h
    · exact .inl h
    · simp at h; exact .inr (by omega)
  · intro k hk
    rcases hD' k hk with h | h
    · exact .inl h
    · simp at h; exact .inr (by omega)
  · refine hS'.after (X := (· = w.heap.size)) (((((Fr.refl (· = w.heap.size) w1).alloc _).trans (Fr.of_below (D := fun _ => False) k2) (fun _ _ e => e.elim)).setCell _ (.inl rfl)).setCell _ (.inl rfl)) ?_
    intro k hk e
    subst e
    rcases hF' _ hk with h | h
    · have := hF _ h; omega
    · simp at h; omega

set_option maxHeartbeats 400000 in
theorem mapped1_throws {w : World} {ob tb : Nat} {f g : Value} {L : List IV} {E : Fin1} {F D C : Nat → Prop} {x y : IV} (ho : Box w ob f 62) (ht : Box w tb g 124) (hS : Str (x :: L) E F D w f) (hT : ToIs C w g x (.error y)) (hCD : ∀ k, C k → ¬ D k) (htD : ¬ D tb) :
    Calls Tryz.prog 99 #[.pointer (some ⟨ob, 0, none⟩), .pointer (some ⟨tb, 0, none⟩)] w fun e w' => Fr D w w' ∧ Thrown w.heap.size y e w' := by
  have h0 := ho.cell
  have h2 := ho.lt
  obtain ⟨K, cap, rfl, hE, hF, hD, h⟩ := hS
  obtain ⟨K2, cap2, rfl, hE2, hC, h'⟩ := hT
  have hE' : ∀ (args : Array Value) (w : World), (callFunc K args).run Tryz.prog w = .ok (.enter K args) w := hE
  have hE2' : ∀ (args : Array Value) (w : World), (callFunc K2 args).run Tryz.prog w = .ok (.enter K2 args) w := hE2
  obtain ⟨T, u⟩ := x
  simp only [iv, Res.Is] at h h' ⊢
  go_enter Tryz.func99, Tryz.ntmps99
  go_wp2_with (first
    | (go_at_fn K2; refine (h' _ (fun k hk => (Below.heap_alloc _ _ _ (by have := hC k hk; omega)).trans ((k1.block k (by have := hC k hk; simp; omega) (hCD k hk)).trans (Below.heap_alloc _ _ _ (hC k hk)))) (by simp; omega)).mono ?_; rintro e w2 ⟨k2, b, hb, rfl, hc⟩)
    | (go_at_fn K; refine (h _ (fun k hk => Below.heap_alloc _ _ _ (hF k hk)) (by simp)).mono ?_; rintro e w1 ⟨k1, rfl, F', D', hF', hD', hS'⟩; have q : SpotBox w1 w.heap.size .nilIface := (SpotBox.new w .nilIface).same (k1.block _ (by simp) (new_not hF hD)); obtain ⟨q0, q1, q2, q3, q4⟩ := q.facts; have t0 := (ht.same ((k1.block tb (by have := ht.lt; simp; omega) htD).trans (Below.heap_alloc _ _ _ ht.lt))).cell; have t1 : tb < w1.heap.size := by have := ht.lt; omega))
  exact ⟨rfl, (((((Fr.refl D w).alloc _).trans k1 (fun _ _ e => e)).alloc _).trans (Fr.of_below (D := D) k2) (fun _ _ e => e)), b, by simp at hb; omega, rfl, hc⟩

theorem enters_mapped1 : Enters Tryz.prog 99 := enters_of Tryz.func99 (by kernel_rfl) rfl

theorem mapped_str {E : Fin1} {C : Nat → Prop} {ob tb : Nat} {f g : Value} {φ : IV → IV} : ∀ {L : List IV} {w : World} {F D : Nat → Prop}, Box w ob f 62 → Box w tb g 124 → Str L E F D w f → (∀ k, C k → k < w.heap.size) → (∀ x ∈ L, ToIs C w g x (.ok (φ x))) → (∀ k, C k → ¬ D k) → ¬ D tb → ¬ D ob →
    Str (L.map φ) E (fun k => F k ∨ C k ∨ k = ob ∨ k = tb) D w (.func (.func 99) #[] #[.pointer (some ⟨ob, 0, none⟩), .pointer (some ⟨tb, 0, none⟩)])
  | [], w, F, D, ho, ht, hS, hC, _, hCD, htD, hoD => by
    obtain ⟨K, cap, rfl, hE, hF, hD, h⟩ := hS
    refine ⟨_, _, rfl, enters_mapped1, ?_, fun k hk => .inl (hD k hk), ?_⟩
    · rintro k (hk | hk | rfl | rfl)
      · exact hF k hk
      · exact hC k hk
      · exact ho.lt
      · exact ht.lt
    intro w1 hs hl
    have hs' : SameOn F w w1 := fun k hk => hs k (.inl hk)
    cases E with
    | none =>
      exact mapped1_done (ho.same (hs ob (by simp))) hE (fun k hk => Nat.lt_of_lt_of_le (hF k hk) hl) hD (fun w' a b => h w' (hs'.trans a) (Nat.le_trans hl b))
    | some v =>
      exact mapped1_thrown (ho.same (hs ob (by simp))) hE (fun k hk => Nat.lt_of_lt_of_le (hF k hk) hl) hD (fun w' a b => h w' (hs'.trans a) (Nat.le_trans hl b))
  | x :: L, w, F, D, ho, ht, hS, hC, hT, hCD, htD, hoD => by
    refine ⟨_, _, rfl, enters_mapped1, ?_, fun k hk => .inl (hS.sub k hk), ?_⟩
    · rintro k (hk | hk | rfl | rfl)
      · exact hS.lt k hk
      · exact hC k hk
      · exact ho.lt
      · exact ht.lt
    intro w1 hs hl
    have ho1 : Box w1 ob f 62 := ho.same (hs ob (by simp))
    have ht1 : Box w1 tb g 124 := ht.same (hs tb (by simp))
    have hs1 : SameOn C w w1 := fun k hk => hs k (.inr (.inl hk))
    have hC1 : ∀ k, C k → k < w1.heap.size := fun k hk => Nat.lt_of_lt_of_le (hC k hk) hl
    refine (mapped1_some (y := φ x) ho1 ht1 (hS.move (fun k hk => hs k (.inl hk)) hl) ((hT x (by simp)).move hs1 hl) hCD htD).mono ?_
    rintro e w2 ⟨k2, rfl, F', D', hF', hD', hS'⟩
    refine ⟨k2, rfl, _, D', ?_, ?_, mapped_str (L := L) (ho1.same (k2.block _ ho1.lt hoD)) (ht1.same (k2.block _ ht1.lt htD)) hS' (fun k hk => Nat.lt_of_lt_of_le (hC1 k hk) k2.size) (fun y hy => ((hT y (by simp [hy])).move hs1 hl).move (k2.same hC1 hCD) k2.size) ?_ ?_ ?_⟩
    · rintro k (hk | hk | rfl | rfl)
      · rcases hF' k hk with h | h
        · exact .inl (.inl h)
        · exact .inr (by omega)
      · exact .inl (.inr (.inl hk))
      · exact .inl (by simp)
      · exact .inl (by simp)
    · intro k hk
      rcases hD' k hk with h | h
      · exact .inl h
      · exact .inr (by omega)
    · intro k hk e
      rcases hD' k e with h | h
      · exact hCD k hk h
      · have := hC1 k hk; omega
    · intro e
      rcases hD' _ e with h | h
      · exact htD h
      · have := ht1.lt; omega
    · intro e
      rcases hD' _ e with h | h
      · exact hoD h
      · have := ho1.lt; omega

theorem mapped_throws {E : Fin1} {C : Nat → Prop} {ob tb : Nat} {f g : Value} {x y : IV} {L : List IV} {w : World} {F D : Nat → Prop} (ho : Box w ob f 62) (ht : Box w tb g 124) (hS : Str (x :: L) E F D w f) (hC : ∀ k, C k → k < w.heap.size) (hT : ToIs C w g x (.error y)) (hCD : ∀ k, C k → ¬ D k) (htD : ¬ D tb) :
    Str [] (.some y) (fun k => F k ∨ C k ∨ k = ob ∨ k = tb) D w (.func (.func 99) #[] #[.pointer (some ⟨ob, 0, none⟩), .pointer (some ⟨tb, 0, none⟩)]) := by
  refine ⟨_, _, rfl, enters_mapped1, ?_, fun k hk => .inl (hS.sub k hk), ?_⟩
  · rintro k (hk | hk | rfl | rfl)
    · exact hS.lt k hk
    · exact hC k hk
    · exact ho.lt
    · exact ht.lt
  intro w1 hs hl
  exact mapped1_throws (ho.same (hs ob (by simp))) (ht.same (hs tb (by simp))) (hS.move (fun k hk => hs k (.inl hk)) hl) (hT.move (fun k hk => hs k (.inr (.inl hk))) hl) hCD htD

set_option maxHeartbeats 400000 in
theorem mapped_made {w : World} {K K2 : Nat} {cap cap2 : Array Value} : Calls Tryz.prog 47 #[.func (.func K) #[] cap, .func (.func K2) #[] cap2] w fun e w' => e = .returned (.func (.func 99) #[] #[.pointer (some ⟨w.heap.size, 0, none⟩), .pointer (some ⟨w.heap.size + 1, 0, none⟩)]) ∧ Below w.heap.size w w' ∧ Box w' w.heap.size (.func (.func K) #[] cap) 62 ∧ Box w' (w.heap.size + 1) (.func (.func K2) #[] cap2) 124 := by
  go_enter Tryz.func47, Tryz.ntmps47
  go_wp2
  go_ret
  exact ⟨rfl, ((below_alloc _ _).alloc (by simp) _), (Box.new w _ _).same (Below.heap_alloc _ _ _ (by simp)), heap_new2' w _ _⟩

theorem mapped_ok {E : Fin1} {C : Nat → Prop} {f g : Value} {φ : IV → IV} {L : List IV} {w : World} {F D : Nat → Prop} (hS : Str L E F D w f) (hg : ∃ K cap, g = .func (.func K) #[] cap) (hC : ∀ k, C k → k < w.heap.size) (hT : ∀ x ∈ L, ToIs C w g x (.ok (φ x))) (hCD : ∀ k, C k → ¬ D k) :
    Calls Tryz.prog 47 #[f, g] w fun e w' => Below w.heap.size w w' ∧ ∃ r F', e = .returned r ∧ Str (L.map φ) E F' D w' r ∧ (∀ k, F' k → F k ∨ C k ∨ w.heap.size ≤ k) := by
  obtain ⟨K, cap, rfl⟩ := hS.shape
  obtain ⟨K2, cap2, rfl⟩ := hg
  refine mapped_made.mono ?_
  rintro e w1 ⟨rfl, k1, b0, b1⟩
  have hD : ∀ k, D k → k < w.heap.size := fun k hk => hS.lt k (hS.sub k hk)
  refine ⟨k1, _, _, rfl, mapped_str b0 b1 (hS.move (fun k hk => k1.block k (hS.lt k hk)) k1.size) (fun k hk => Nat.lt_of_lt_of_le (hC k hk) k1.size) (fun x hx => (hT x hx).move (fun k hk => k1.block k (hC k hk)) k1.size) hCD (fun e => by have := hD _ e; omega) (fun e => by have := hD _ e; omega), ?_⟩
  rintro k (hk | hk | rfl | rfl)
  · exact .inl hk
  · exact .inr (.inl hk)
  · exact .inr (.inr (by omega))
  · exact .inr (.inr (by omega))

theorem mapped_ok_throws {E : Fin1} {C : Nat → Prop} {f g : Value} {x y : IV} {L : List IV} {w : World} {F D : Nat → Prop} (hS : Str (x :: L) E F D w f) (hC : ∀ k, C k → k < w.heap.size) (hT : ToIs C w g x (.error y)) (hCD : ∀ k, C k → ¬ D k) :
    Calls Tryz.prog 47 #[f, g] w fun e w' => Below w.heap.size w w' ∧ ∃ r F', e = .returned r ∧ Str [] (.some y) F' D w' r ∧ (∀ k, F' k → F k ∨ C k ∨ w.heap.size ≤ k) := by
  obtain ⟨K, cap, rfl⟩ := hS.shape
  have hT' := hT
  obtain ⟨K2, cap2, rfl, _⟩ := hT'
  refine mapped_made.mono ?_
  rintro e w1 ⟨rfl, k1, b0, b1⟩
  have hD : ∀ k, D k → k < w.heap.size := fun k hk => hS.lt k (hS.sub k hk)
  refine ⟨k1, _, _, rfl, mapped_throws b0 b1 (hS.move (fun k hk => k1.block k (hS.lt k hk)) k1.size) (fun k hk => Nat.lt_of_lt_of_le (hC k hk) k1.size) (hT.move (fun k hk => k1.block k (hC k hk)) k1.size) hCD (fun e => by have := hD _ e; omega), ?_⟩
  rintro k (hk | hk | rfl | rfl)
  · exact .inl hk
  · exact .inr (.inl hk)
  · exact .inr (.inr (by omega))
  · exact .inr (.inr (by omega))

/-- The same for what takes a value and gives one. -/
def Res.Is' (r : Res) (b0 : Nat) (e : Ending) (w : World) : Prop := match r with
  | .ok v => e = .returned (iv v)
  | .error v => Thrown b0 v e w
def VIs (C : Nat → Prop) (w : World) (g : Value) (x : IV) (r : Res) : Prop :=
  ∃ K cap, g = .func (.func K) #[] cap ∧ Enters Tryz.prog K ∧ (∀ k, C k → k < w.heap.size) ∧
    ∀ w', SameOn C w w' → w.heap.size ≤ w'.heap.size → Calls Tryz.prog K (#[iv x] ++ cap) w' fun e w'' => Below w'.heap.size w' w'' ∧ r.Is' w'.heap.size e w''
theorem VIs.move {C : Nat → Prop} {w w1 : World} {g : Value} {x : IV} {r : Res} (h : VIs C w g x r) (hs : SameOn C w w1) (hl : w.heap.size ≤ w1.heap.size) : VIs C w1 g x r := by
  obtain ⟨K, cap, e, hE, hC, h⟩ := h
  exact ⟨K, cap, e, hE, fun k hk => Nat.lt_of_lt_of_le (hC k hk) hl, fun w' hs' hl' => h w' (hs.trans hs') (Nat.le_trans hl hl')⟩

theorem below_alloc2 (w : World) (a b : Obj) : Below w.heap.size w ((w.alloc a).alloc b) := (below_alloc _ _).alloc (by simp) _
theorem enters_valued1 : Enters Tryz.prog 182 := enters_of Tryz.func182 (by kernel_rfl) rfl
set_option maxHeartbeats 400000 in
theorem valued1_ok {C : Nat → Prop} {w : World} {g : Value} {x : IV} {r : Res} {tb : Nat} (ht : Box w tb g 248) (h : VIs C w g x r) :
    Calls Tryz.prog 182 #[.agg #[iv x, .pointer none], .pointer (some ⟨tb, 0, none⟩)] w fun e w' => Below w.heap.size w w' ∧ r.Is w.heap.size e w' := by
  obtain ⟨K, cap, rfl, hE, hC, h⟩ := h
  have h0 := ht.cell
  have h1 := ht.lt
  have hE' : ∀ (args : Array Value) (w : World), (callFunc K args).run Tryz.prog w = .ok (.enter K args) w := hE
  obtain ⟨T, u⟩ := x
  cases r with
  | ok y =>
    obtain ⟨T', u'⟩ := y
    simp only [iv, Res.Is', Res.Is] at h ⊢
    go_enter Tryz.func182, Tryz.ntmps182
    go_wp2_with (go_at_fn K; refine (h _ (fun k hk => (below_alloc2 w _ _).block k (hC k hk)) (below_alloc2 w _ _).size).mono ?_; rintro e w1 ⟨k1, rfl⟩; have q : SpotBox w1 (w.heap.size + 1) .nilIface := SpotBox.same (heap_new2' w _ _) (k1.block _ (by simp)); obtain ⟨q0, q1, q2, q3, q4⟩ := q.facts)
    refine bodyPost_ret (v := .agg #[.iface T' u', .pointer none]) (by simp [results, Tryz.results182, go_sem, q4, q0, q1]) rfl ⟨?_, rfl⟩
    exact ((((below_alloc2 w _ _).trans (k1.mono (by simp; omega))).setCell (by simp) _).setCell (by simp) _)
  | error y =>
    simp only [iv, Res.Is', Res.Is] at h ⊢
    go_enter Tryz.func182, Tryz.ntmps182
    go_wp2_with (go_at_fn K; refine (h _ (fun k hk => (below_alloc2 w _ _).block k (hC k hk)) (below_alloc2 w _ _).size).mono ?_; rintro e w1 ⟨k1, b, hb, rfl, hc⟩)
    exact ⟨rfl, (below_alloc2 w _ _).trans (k1.mono (by simp; omega)), b, by simp at hb; omega, rfl, hc⟩

set_option maxHeartbeats 400000 in
theorem valued_ok {E : Fin1} {C : Nat → Prop} {f g : Value} {φ : IV → IV} {L : List IV} {w : World} {F D : Nat → Prop} (hS : Str L E F D w f) (hg : ∃ K cap, g = .func (.func K) #[] cap) (hC : ∀ k, C k → k < w.heap.size) (hT : ∀ x ∈ L, VIs C w g x (.ok (φ x))) (hCD : ∀ k, C k → ¬ D k) :
    Calls Tryz.prog 132 #[f, g] w fun e w' => Below w.heap.size w w' ∧ ∃ r F', e = .returned r ∧ Str (L.map φ) E F' D w' r ∧ (∀ k, F' k → F k ∨ C k ∨ w.heap.size ≤ k) := by
  obtain ⟨K, cap, rfl⟩ := hS.shape
  obtain ⟨K2, cap2, rfl⟩ := hg
  have hm : Calls Tryz.prog 47 #[.func (.func K) #[] cap, .func (.func 182) #[] #[.pointer (some ⟨w.heap.size, 0, none⟩)]] (w.alloc (.cells #[.func (.func K2) #[] cap2] 248)) fun e w' => Below w.heap.size w w' ∧ ∃ r F', e = .returned r ∧ (∃ K cap, r = .func (.func K) #[] cap) ∧ Str (L.map φ) E F' D w' r ∧ (∀ k, F' k → F k ∨ C k ∨ w.heap.size ≤ k) := by
    have k0 := below_alloc w (.cells #[.func (.func K2) #[] cap2] 248)
    have hb := Box.new w (.func (.func K2) #[] cap2) 248
    have hl : ∀ k, (C k ∨ k = w.heap.size) → k < (w.alloc (.cells #[.func (.func K2) #[] cap2] 248)).heap.size := by
      rintro k (hk | rfl)
      · have := hC k hk; simp; omega
      · simp
    refine (mapped_ok (C := fun k => C k ∨ k = w.heap.size) (φ := φ) (hS.move (fun k hk => k0.block k (hS.lt k hk)) k0.size) ⟨_, _, rfl⟩ hl ?_ ?_).mono ?_
    · intro x hx
      refine ⟨_, _, rfl, enters_valued1, hl, ?_⟩
      intro w' hs hl'
      exact valued1_ok (hb.same (hs _ (.inr rfl))) (((hT x hx).move (fun k hk => k0.block k (hC k hk)) k0.size).move (fun k hk => hs k (.inl hk)) hl')
    · rintro k (hk | rfl) e
      · exact hCD k hk e
      · have := hS.lt _ (hS.sub _ e); omega
    · rintro e w1 ⟨k1, r, F', rfl, hS', hF'⟩
      refine ⟨k0.trans (k1.mono (by simp)), r, F', rfl, hS'.shape, hS', ?_⟩
      intro k hk
      rcases hF' k hk with h | (h | h) | h
      · exact .inl h
      · exact .inr (.inl h)
      · exact .inr (.inr (by omega))
      · simp at h; exact .inr (.inr (by omega))
  go_enter Tryz.func132, Tryz.ntmps132
  go_wp2_with (go_at_call 47; refine hm.mono ?_; rintro e w1 ⟨k1, r, F', rfl, ⟨K3, cap3, rfl⟩, hS', hF'⟩)
  go_ret
  exact ⟨k1, _, F', rfl, hS', hF'⟩

set_option maxHeartbeats 400000 in
theorem valued_ok_throws {E : Fin1} {C : Nat → Prop} {f g : Value} {x y : IV} {L : List IV} {w : World} {F D : Nat → Prop} (hS : Str (x :: L) E F D w f) (hC : ∀ k, C k → k < w.heap.size) (hT : VIs C w g x (.error y)) (hCD : ∀ k, C k → ¬ D k) :
    Calls Tryz.prog 132 #[f, g] w fun e w' => Below w.heap.size w w' ∧ ∃ r F', e = .returned r ∧ Str [] (.some y) F' D w' r ∧ (∀ k, F' k → F k ∨ C k ∨ w.heap.size ≤ k) := by
  obtain ⟨K, cap, rfl⟩ := hS.shape
  have hT' := hT
  obtain ⟨K2, cap2, rfl, _⟩ := hT'
  have hm : Calls Tryz.prog 47 #[.func (.func K) #[] cap, .func (.func 182) #[] #[.pointer (some ⟨w.heap.size, 0, none⟩)]] (w.alloc (.cells #[.func (.func K2) #[] cap2] 248)) fun e w' => Below w.heap.size w w' ∧ ∃ r F', e = .returned r ∧ (∃ K cap, r = .func (.func K) #[] cap) ∧ Str [] (.some y) F' D w' r ∧ (∀ k, F' k → F k ∨ C k ∨ w.heap.size ≤ k) := by
    have k0 := below_alloc w (.cells #[.func (.func K2) #[] cap2] 248)
    have hb := Box.new w (.func (.func K2) #[] cap2) 248
    have hl : ∀ k, (C k ∨ k = w.heap.size) → k < (w.alloc (.cells #[.func (.func K2) #[] cap2] 248)).heap.size := by
      rintro k (hk | rfl)
      · have := hC k hk; simp; omega
      · simp
    refine (mapped_ok_throws (C := fun k => C k ∨ k = w.heap.size) (y := y) (hS.move (fun k hk => k0.block k (hS.lt k hk)) k0.size) hl ?_ ?_).mono ?_
    · refine ⟨_, _, rfl, enters_valued1, hl, ?_⟩
      intro w' hs hl'
      exact valued1_ok (hb.same (hs _ (.inr rfl))) ((hT.move (fun k hk => k0.block k (hC k hk)) k0.size).move (fun k hk => hs k (.inl hk)) hl')
    · rintro k (hk | rfl) e
      · exact hCD k hk e
      · have := hS.lt _ (hS.sub _ e); omega
    · rintro e w1 ⟨k1, r, F', rfl, hS', hF'⟩
      refine ⟨k0.trans (k1.mono (by simp)), r, F', rfl, hS'.shape, hS', ?_⟩
      intro k hk
      rcases hF' k hk with h | (h | h) | h
      · exact .inl h
      · exact .inr (.inl h)
      · exact .inr (.inr (by omega))
      · simp at h; exact .inr (.inr (by omega))
  go_enter Tryz.func132, Tryz.ntmps132
  go_wp2_with (go_at_call 47; refine hm.mono ?_; rintro e w1 ⟨k1, r, F', rfl, ⟨K3, cap3, rfl⟩, hS', hF'⟩)
  go_ret
  exact ⟨k1, _, F', rfl, hS', hF'⟩
end Go.Proofs.Tryz

namespace Go.Proofs.Tryz
open Go.RowKit
set_option maxRecDepth 10000

/-- The function value g makes of the value x a stream that gives l and ends as e says. It looks at the blocks of C alone and writes into none. -/
def ThenIs (C : Nat → Prop) (w : World) (g : Value) (x : IV) (l : List IV) (E : Fin1) : Prop :=
  ∃ K cap, g = .func (.func K) #[] cap ∧ Enters Tryz.prog K ∧ (∀ k, C k → k < w.heap.size) ∧
    ∀ w', SameOn C w w' → w.heap.size ≤ w'.heap.size → Calls Tryz.prog K (#[.agg #[iv x, .pointer none]] ++ cap) w' fun e w'' => Below w'.heap.size w' w'' ∧
      ∃ f F D, e = .returned f ∧ Str l E F D w'' f ∧ (∀ k, F k → C k ∨ w'.heap.size ≤ k) ∧ (∀ k, D k → w'.heap.size ≤ k)

theorem ThenIs.move {C : Nat → Prop} {w w1 : World} {g : Value} {x : IV} {l : List IV} {E : Fin1} (h : ThenIs C w g x l E) (hs : SameOn C w w1) (hl : w.heap.size ≤ w1.heap.size) : ThenIs C w1 g x l E := by
  obtain ⟨K, cap, e, hE, hC, h⟩ := h
  exact ⟨K, cap, e, hE, fun k hk => Nat.lt_of_lt_of_le (hC k hk) hl, fun w' hs' hl' => h w' (hs.trans hs') (Nat.le_trans hl hl')⟩

theorem enters_each1 : Enters Tryz.prog 103 := enters_of Tryz.func103 (by kernel_rfl) rfl

set_option maxHeartbeats 1000000 in
theorem each1_some {w : World} {ib ob tb : Nat} {f : Value} {y : IV} {L : List IV} {E : Fin1} {F D : Nat → Prop} (hi : Box w ib f 62) (hS : Str (y :: L) E F D w f) :
    Calls Tryz.prog 103 #[.pointer (some ⟨ib, 0, none⟩), .pointer (some ⟨ob, 0, none⟩), .pointer (some ⟨tb, 0, none⟩)] w fun e w' => Fr D w w' ∧ e = .returned (.tuple #[.agg #[iv y, .pointer none], .bool true]) ∧ ∃ F' D', (∀ k, F' k → F k ∨ w.heap.size < k) ∧ (∀ k, D' k → D k ∨ w.heap.size < k) ∧ Str L E F' D' w' f := by
  have h0 := hi.cell
  have h2 := hi.lt
  obtain ⟨K, cap, rfl, hE, hF, hD, h⟩ := hS
  have hE' : ∀ (args : Array Value) (w : World), (callFunc K args).run Tryz.prog w = .ok (.enter K args) w := hE
  obtain ⟨T, u⟩ := y
  simp only [iv] at h ⊢
  go_enter Tryz.func103, Tryz.ntmps103
  go_wp2_with fail
  refine wp_loop_rounds 1 ?_
  rw [rounds_succ]
  go_wp2_with (go_at_fn K; refine (h _ (fun k hk => Below.heap_alloc _ _ _ (hF k hk)) (by simp)).mono ?_; rintro e w1 ⟨k1, rfl, F', D', hF', hD', hS'⟩; have q : SpotBox w1 w.heap.size .nilIface := (SpotBox.new w .nilIface).same (k1.block _ (by simp) (new_not hF hD)); obtain ⟨q0, q1, q2, q3, q4⟩ := q.facts)
  refine bodyPost_ret (v := .tuple #[.agg #[.iface T u, .pointer none], .bool true]) (by simp [results, Tryz.results103, go_sem, q4, q0, q1]) rfl ⟨?_, rfl, F', D', ?_, ?_, ?_⟩
  · exact (((((Fr.refl D w).alloc _).trans k1 (fun _ _ e => e)).setCell _ (.inr (Nat.le_refl _))).setCell _ (.inr (Nat.le_refl _))).alloc _
  · intro k hk
    rcases hF' k hk with h | h
    · exact .inl h
    · simp at h; exact .inr (by omega)
  · intro k hk
    rcases hD' k hk with h | h
    · exact .inl h
    · simp at h; exact .inr (by omega)
  · refine hS'.after (X := (· = w.heap.size)) ((((Fr.refl (· = w.heap.size) w1).setCell _ (.inl rfl)).setCell _ (.inl rfl)).alloc _) ?_
    intro k hk e
    subst e
    rcases hF' _ hk with h | h
    · have := hF _ h; omega
    · simp at h; omega

set_option maxHeartbeats 1000000 in
theorem each1_thrown {w : World} {ib ob tb : Nat} {f : Value} {y : IV} {F D : Nat → Prop} (hi : Box w ib f 62) (hS : Str [] (.some y) F D w f) :
    Calls Tryz.prog 103 #[.pointer (some ⟨ib, 0, none⟩), .pointer (some ⟨ob, 0, none⟩), .pointer (some ⟨tb, 0, none⟩)] w fun e w' => Fr D w w' ∧ Thrown w.heap.size y e w' := by
  have h0 := hi.cell
  have h2 := hi.lt
  obtain ⟨K, cap, rfl, hE, hF, hD, h⟩ := hS
  have hE' : ∀ (args : Array Value) (w : World), (callFunc K args).run Tryz.prog w = .ok (.enter K args) w := hE
  simp only [Ends1] at h
  go_enter Tryz.func103, Tryz.ntmps103
  go_wp2_with fail
  refine wp_loop_rounds 1 ?_
  rw [rounds_succ]
  go_wp2_with (go_at_fn K; refine (h _ (fun k hk => Below.heap_alloc _ _ _ (hF k hk)) (by simp)).mono ?_; rintro e w1 ⟨k1, b, hb, rfl, hc⟩)
  exact ⟨rfl, ((Fr.refl D w).alloc _).trans k1 (fun _ _ e => e), b, by simp at hb; omega, rfl, hc⟩

set_option maxHeartbeats 1000000 in
theorem each1_done {w : World} {ib ob tb : Nat} {f fo : Value} {F D Fo Do : Nat → Prop} (hi : Box w ib f 62) (ho : Box w ob fo 62) (hS : Str [] .none F D w f) (hO : Str [] .none Fo Do w fo) (hoD : ¬ D ob) (hFD : ∀ k, Fo k → ¬ D k) :
    Calls Tryz.prog 103 #[.pointer (some ⟨ib, 0, none⟩), .pointer (some ⟨ob, 0, none⟩), .pointer (some ⟨tb, 0, none⟩)] w fun e w' => Fr (fun k => D k ∨ Do k) w w' ∧ e = .returned (.tuple #[.agg #[.nilIface, .pointer none], .bool false]) := by
  have h0 := hi.cell
  have h2 := hi.lt
  have h3 := ho.lt
  obtain ⟨K, cap, rfl, hE, hF, hD, h⟩ := hS
  obtain ⟨K2, cap2, rfl, hE2, hF2, hD2, h'⟩ := hO
  have hE' : ∀ (args : Array Value) (w : World), (callFunc K args).run Tryz.prog w = .ok (.enter K args) w := hE
  have hE2' : ∀ (args : Array Value) (w : World), (callFunc K2 args).run Tryz.prog w = .ok (.enter K2 args) w := hE2
  simp only [Ends1] at h h'
  have hh : ∀ w', SameOn Fo w w' → SameOn F w w' → w.heap.size ≤ w'.heap.size → Calls Tryz.prog K cap w' fun e w'' => Fr D w' w'' ∧ e = .returned (.tuple #[.agg #[.nilIface, .pointer none], .bool false]) ∧ SameOn Fo w w'' := fun w' a b c => (h w' b c).mono fun e w'' ⟨p, q⟩ => ⟨p, q, a.trans (p.same (fun k hk => Nat.lt_of_lt_of_le (hF2 k hk) c) hFD)⟩
  go_enter Tryz.func103, Tryz.ntmps103
  go_wp2_with fail
  refine wp_loop_rounds 1 ?_
  rw [rounds_succ]
  go_wp2_with (first
    | (go_at_call 20; refine (none_calls _).mono ?_; rintro e w3 ⟨rfl, k3⟩; have r : SpotBox w3 w.heap.size .nilIface := ((p).alloc _).same (k3.block _ (by simp; omega)); obtain ⟨r0, r1, r2, r3, r4⟩ := r.facts)
    | (go_at_fn K2; refine (h' _ (hs1.trans (fun k hk => Below.heap_alloc _ _ _ (Nat.lt_of_lt_of_le (hF2 k hk) (by omega)))) (by simp; omega)).mono ?_; rintro e w2 ⟨k2, rfl⟩; have p : SpotBox w2 w.heap.size .nilIface := (q.alloc _).same (k2.block _ (by simp; omega) (new_not hF2 hD2)); obtain ⟨p0, p1, p2, p3, p4⟩ := p.facts)
    | (go_at_fn K; refine (hh _ (fun k hk => Below.heap_alloc _ _ _ (hF2 k hk)) (fun k hk => Below.heap_alloc _ _ _ (hF k hk)) (by simp)).mono ?_; rintro e w1 ⟨k1, rfl, hs1⟩; have q : SpotBox w1 w.heap.size .nilIface := (SpotBox.new w .nilIface).same (k1.block _ (by simp) (new_not hF hD)); obtain ⟨q0, q1, q2, q3, q4⟩ := q.facts; have t0 := (ho.same ((k1.block ob (by simp; omega) hoD).trans (Below.heap_alloc _ _ _ h3))).cell; have t1 : ob < w1.heap.size := by omega))
  refine bodyPost_ret (v := .tuple #[.agg #[.nilIface, .pointer none], .bool false]) (by simp [results, Tryz.results103, go_sem, r4, r0, r1]) rfl ⟨?_, rfl⟩
  exact ((((((((Fr.refl (fun k => D k ∨ Do k) w).alloc _).trans k1 (fun _ _ e => .inl e)).alloc _).trans k2 (fun _ _ e => .inr e)).alloc _).trans (Fr.of_below (D := fun _ => False) k3) (fun _ _ e => e.elim)).setCell _ (.inr (Nat.le_refl _))).setCell _ (.inr (Nat.le_refl _))

set_option maxHeartbeats 1000000 in
theorem each1_first {w : World} {ib ob tb : Nat} {fo g : Value} {x y : IV} {L l : List IV} {E Eo : Fin1} {Fo Do C : Nat → Prop} (hi : Box w ib (.func (.func 20) #[] #[]) 62) (ho : Box w ob fo 62) (ht : Box w tb g 116) (hO : Str (x :: L) Eo Fo Do w fo) (hT : ThenIs C w g x (y :: l) E) (hiD : ¬ Do ib) (htD : ¬ Do tb) (hCD : ∀ k, C k → ¬ Do k) (hiC : ¬ C ib) (hiF : ¬ Fo ib) :
    Calls Tryz.prog 103 #[.pointer (some ⟨ib, 0, none⟩), .pointer (some ⟨ob, 0, none⟩), .pointer (some ⟨tb, 0, none⟩)] w fun e w' => Fr (fun k => Do k ∨ k = ib) w w' ∧ e = .returned (.tuple #[.agg #[iv y, .pointer none], .bool true]) ∧
      ∃ f F D Fo' Do', Box w' ib f 62 ∧ Str l E F D w' f ∧ Str L Eo Fo' Do' w' fo ∧ (∀ k, F k → C k ∨ w.heap.size < k) ∧ (∀ k, D k → w.heap.size < k) ∧ (∀ k, Fo' k → (Fo k ∨ w.heap.size < k) ∧ ¬ D k) ∧ (∀ k, Do' k → (Do k ∨ w.heap.size < k) ∧ ¬ F k) := by
  have h0 := hi.cell
  have h2 := hi.lt
  have h3 := ho.cell
  have h4 := ho.lt
  have h5 := ht.lt
  obtain ⟨K, cap, rfl, hE, hF, hD, h⟩ := hO
  obtain ⟨K2, cap2, rfl, hE2, hC, h'⟩ := hT
  have hE' : ∀ (args : Array Value) (w : World), (callFunc K args).run Tryz.prog w = .ok (.enter K args) w := hE
  have hE2' : ∀ (args : Array Value) (w : World), (callFunc K2 args).run Tryz.prog w = .ok (.enter K2 args) w := hE2
  obtain ⟨T, u⟩ := x
  obtain ⟨T', u'⟩ := y
  simp only [iv] at h h' ⊢
  go_enter Tryz.func103, Tryz.ntmps103
  go_wp2_with fail
  refine wp_loop_rounds 2 ?_
  rw [rounds_succ]
  go_wp2_with (first
    | (go_at_call 20; refine (none_calls _).mono ?_; rintro e w1 ⟨rfl, k1⟩; have q : SpotBox w1 w.heap.size .nilIface := (SpotBox.new w .nilIface).same (k1.block _ (by simp)); obtain ⟨q0, q1, q2, q3, q4⟩ := q.facts; have hB : Below w.heap.size w w1 := (below_alloc _ _).trans (k1.mono (by simp)); have t0 := (ho.same (hB.block _ h4)).cell; have t9 : ob < w1.heap.size := by omega)
    | (go_at_fn K; refine (h _ (fun k hk => (Below.heap_alloc _ _ _ (Nat.lt_of_lt_of_le (hF k hk) hB.size)).trans (hB.block k (hF k hk))) (by simp; omega)).mono ?_; rintro e w2 ⟨k2, rfl, Fo', Do', hFo', hDo', hO'⟩; have hl2 := k2.size; have p : SpotBox w2 w.heap.size .nilIface := (q.alloc _).same (k2.block _ (by simp; omega) (new_not hF hD)); obtain ⟨p0, p1, p2, p3, p4⟩ := p.facts; have hR : Fr Do w w2 := ((Fr.of_below hB).alloc _).trans k2 (fun _ _ e => e); have t1 := (ht.same (hR.block _ h5 htD)).cell; have t2 : tb < w2.heap.size := by omega)
    | (go_at_fn K2; refine (h' _ (fun k hk => (Below.heap_alloc _ _ _ (Nat.lt_of_lt_of_le (hC k hk) hR.size)).trans (hR.block k (hC k hk) (hCD k hk))) (by simp; omega)).mono ?_; rintro e w3 ⟨k3, f, F, D, rfl, hS, hFC, hDn⟩; have hl3 := k3.size; obtain ⟨K3, cap3, rfl⟩ := hS.shape; have hR3 : Fr Do w w3 := (hR.alloc _).trans (Fr.of_below (D := fun _ => False) k3) (fun _ _ e => e.elim); have i3 := hi.same (hR3.block _ h2 hiD); have i0 := i3.cell; have i1 := i3.free; have i2 := i3.lt; have r : SpotBox w3 w.heap.size .nilIface := (p.alloc _).same (k3.block _ (by simp; omega)); obtain ⟨r0, r1, r2, r3, r4⟩ := r.facts))
  have hS4 := hS.after (X := (· = ib)) ((Fr.refl (· = ib) w3).setCell (.func (.func K3) #[] cap3) (o := 0) (.inl rfl)) (by
    intro k hk e
    subst e
    rcases hFC _ hk with h | h
    · exact hiC h
    · simp at h; omega)
  have i4 := i3.set (.func (.func K3) #[] cap3)
  have i40 := i4.cell
  have r' : SpotBox (w3.setCell ⟨ib, 0, none⟩ (.func (.func K3) #[] cap3)) w.heap.size .nilIface := r.same (Below.heap_setCell _ _ _ _ (by simp; omega))
  have hDs : ∀ k, D k → w2.heap.size < k := fun k hk => by have := hDn k hk; simp at this; omega
  have hFs : ∀ k, F k → C k ∨ w2.heap.size < k := fun k hk => by
    rcases hFC k hk with h | h
    · exact .inl h
    · simp at h; exact .inr (by omega)
  have hFo2 : ∀ k, Fo' k → Fo k ∨ w.heap.size < k := fun k hk => by
    rcases hFo' k hk with h | h
    · exact .inl h
    · simp at h; exact .inr (by omega)
  have hDo2 : ∀ k, Do' k → Do k ∨ w.heap.size < k := fun k hk => by
    rcases hDo' k hk with h | h
    · exact .inl h
    · simp at h; exact .inr (by omega)
  have hFl := hO'.lt
  have hl3' : w2.heap.size + 1 ≤ w3.heap.size := by simpa using hl3
  have hDl : ∀ k, Do' k → k < w2.heap.size := fun k hk => hFl k (hO'.sub k hk)
  have hR4 : Fr (fun k => Do k ∨ k = ib) w (w3.setCell ⟨ib, 0, none⟩ (.func (.func K3) #[] cap3)) := (hR3.mono (fun k hk => .inl hk)).setCell _ (.inl (.inr rfl))
  have hR24 : Fr (fun k => k = ib) w2 (w3.setCell ⟨ib, 0, none⟩ (.func (.func K3) #[] cap3)) := (((Fr.refl (fun k => k = ib) w2).alloc _).trans (Fr.of_below (D := fun _ => False) k3) (fun _ _ e => e.elim)).setCell _ (.inl rfl)
  obtain ⟨K3', cap3', ef, hE3, hF3, hD3, h3'⟩ := hS4
  obtain ⟨rfl, rfl⟩ : K3 = K3' ∧ cap3 = cap3' := by simpa using ef
  have hE3' : ∀ (args : Array Value) (w : World), (callFunc K3 args).run Tryz.prog w = .ok (.enter K3 args) w := hE3
  simp only [iv] at h3'
  generalize hw4 : w3.setCell ⟨ib, 0, none⟩ (.func (.func K3) #[] cap3) = w4 at *
  have hl4 : w3.heap.size = w4.heap.size := by rw [← hw4]; simp
  rw [rounds_succ]
  go_wp2_with (go_at_fn K3; refine (h3' _ (SameOn.refl _ _) (Nat.le_refl _)).mono ?_; rintro e w5 ⟨k5, rfl, F', D', hF', hD', hS'⟩; have v : SpotBox w5 w.heap.size .nilIface := r'.same (k5.block _ r'.lt (fun e => by have := hDs _ e; omega)); obtain ⟨v0, v1, v2, v3, v4⟩ := v.facts)
  have hl5 := k5.size
  have hend : Fr (fun k => k = w.heap.size) w5 (((w5.setCell ⟨w.heap.size, 0, none⟩ (.iface T' u')).setCell ⟨w.heap.size, 1, none⟩ (.pointer none)).alloc (.cells #[.iface T' u', .pointer none] 71)) := (((Fr.refl (fun k => k = w.heap.size) w5).setCell _ (.inl rfl)).setCell _ (.inl rfl)).alloc _
  refine bodyPost_ret (v := .tuple #[.agg #[.iface T' u', .pointer none], .bool true]) (by simp [results, Tryz.results103, go_sem, v4, v0, v1]) rfl ⟨?_, rfl, _, F', D', Fo', Do', (i4.same (k5.block _ i4.lt (fun e => by have := hDs _ e; omega))).same (hend.block _ (by have := i4.lt; omega) (by omega)), ?_, ?_, ?_, ?_, ?_, ?_⟩
  · exact (hR4.trans k5 (fun i hi e => by have := hDs _ e; omega)).trans hend (fun i hi e => by omega)
  · refine hS'.after hend ?_
    intro k hk e
    rcases hF' k hk with h | h
    · rcases hFs k h with h | h
      · have := hC k h; omega
      · omega
    · omega
  · refine ((hO'.after hR24 ?_).after k5 ?_).after hend ?_
    · intro k hk e
      subst e
      rcases hFo2 _ hk with h | h
      · exact hiF h
      · omega
    · intro k hk e
      have := hFl k hk
      have := hDs k e
      omega
    · intro k hk e
      rcases hFo2 _ hk with h | h
      · have := hF k h; omega
      · omega
  · intro k hk
    rcases hF' k hk with h | h
    · rcases hFs k h with h | h
      · exact .inl h
      · exact .inr (by omega)
    · exact .inr (by omega)
  · intro k hk
    rcases hD' k hk with h | h
    · have := hDs k h; omega
    · omega
  · intro k hk
    refine ⟨hFo2 k hk, fun e => ?_⟩
    have := hFl k hk
    rcases hD' k e with h | h
    · have := hDs k h; omega
    · omega
  · intro k hk
    refine ⟨hDo2 k hk, fun e => ?_⟩
    have := hDl k hk
    rcases hF' k e with h | h
    · rcases hFs k h with h | h
      · rcases hDo2 k hk with h' | h'
        · exact hCD k h h'
        · have := hC k h; omega
      · omega
    · omega

set_option maxHeartbeats 1000000 in
theorem each1_first_throws {w : World} {ib ob tb : Nat} {fo g : Value} {x y : IV} {L : List IV} {Eo : Fin1} {Fo Do C : Nat → Prop} (hi : Box w ib (.func (.func 20) #[] #[]) 62) (ho : Box w ob fo 62) (ht : Box w tb g 116) (hO : Str (x :: L) Eo Fo Do w fo) (hT : ThenIs C w g x [] (.some y)) (hiD : ¬ Do ib) (htD : ¬ Do tb) (hCD : ∀ k, C k → ¬ Do k) (hiC : ¬ C ib) (hiF : ¬ Fo ib) :
    Calls Tryz.prog 103 #[.pointer (some ⟨ib, 0, none⟩), .pointer (some ⟨ob, 0, none⟩), .pointer (some ⟨tb, 0, none⟩)] w fun e w' => Fr (fun k => Do k ∨ k = ib) w w' ∧ Thrown w.heap.size y e w' := by
  have h0 := hi.cell
  have h2 := hi.lt
  have h3 := ho.cell
  have h4 := ho.lt
  have h5 := ht.lt
  obtain ⟨K, cap, rfl, hE, hF, hD, h⟩ := hO
  obtain ⟨K2, cap2, rfl, hE2, hC, h'⟩ := hT
  have hE' : ∀ (args : Array Value) (w : World), (callFunc K args).run Tryz.prog w = .ok (.enter K args) w := hE
  have hE2' : ∀ (args : Array Value) (w : World), (callFunc K2 args).run Tryz.prog w = .ok (.enter K2 args) w := hE2
  obtain ⟨T, u⟩ := x
  simp only [iv] at h h' ⊢
  go_enter Tryz.func103, Tryz.ntmps103
  go_wp2_with fail
  refine wp_loop_rounds 2 ?_
  rw [rounds_succ]
  go_wp2_with (first
    | (go_at_call 20; refine (none_calls _).mono ?_; rintro e w1 ⟨rfl, k1⟩; have q : SpotBox w1 w.heap.size .nilIface := (SpotBox.new w .nilIface).same (k1.block _ (by simp)); obtain ⟨q0, q1, q2, q3, q4⟩ := q.facts; have hB : Below w.heap.size w w1 := (below_alloc _ _).trans (k1.mono (by simp)); have t0 := (ho.same (hB.block _ h4)).cell; have t9 : ob < w1.heap.size := by omega)
    | (go_at_fn K; refine (h _ (fun k hk => (Below.heap_alloc _ _ _ (Nat.lt_of_lt_of_le (hF k hk) hB.size)).trans (hB.block k (hF k hk))) (by simp; omega)).mono ?_; rintro e w2 ⟨k2, rfl, Fo', Do', hFo', hDo', hO'⟩; have hl2 := k2.size; have p : SpotBox w2 w.heap.size .nilIface := (q.alloc _).same (k2.block _ (by simp; omega) (new_not hF hD)); obtain ⟨p0, p1, p2, p3, p4⟩ := p.facts; have hR : Fr Do w w2 := ((Fr.of_below hB).alloc _).trans k2 (fun _ _ e => e); have t1 := (ht.same (hR.block _ h5 htD)).cell; have t2 : tb < w2.heap.size := by omega)
    | (go_at_fn K2; refine (h' _ (fun k hk => (Below.heap_alloc _ _ _ (Nat.lt_of_lt_of_le (hC k hk) hR.size)).trans (hR.block k (hC k hk) (hCD k hk))) (by simp; omega)).mono ?_; rintro e w3 ⟨k3, f, F, D, rfl, hS, hFC, hDn⟩; have hl3 := k3.size; obtain ⟨K3, cap3, rfl⟩ := hS.shape; have hR3 : Fr Do w w3 := (hR.alloc _).trans (Fr.of_below (D := fun _ => False) k3) (fun _ _ e => e.elim); have i3 := hi.same (hR3.block _ h2 hiD); have i0 := i3.cell; have i1 := i3.free; have i2 := i3.lt; have r : SpotBox w3 w.heap.size .nilIface := (p.alloc _).same (k3.block _ (by simp; omega)); obtain ⟨r0, r1, r2, r3, r4⟩ := r.facts))
  have hS4 := hS.after (X := (· = ib)) ((Fr.refl (· = ib) w3).setCell (.func (.func K3) #[] cap3) (o := 0) (.inl rfl)) (by
    intro k hk e
    subst e
    rcases hFC _ hk with h | h
    · exact hiC h
    · simp at h; omega)
  have i4 := i3.set (.func (.func K3) #[] cap3)
  have i40 := i4.cell
  have r' : SpotBox (w3.setCell ⟨ib, 0, none⟩ (.func (.func K3) #[] cap3)) w.heap.size .nilIface := r.same (Below.heap_setCell _ _ _ _ (by simp; omega))
  have hDs : ∀ k, D k → w2.heap.size < k := fun k hk => by have := hDn k hk; simp at this; omega
  have hFs : ∀ k, F k → C k ∨ w2.heap.size < k := fun k hk => by
    rcases hFC k hk with h | h
    · exact .inl h
    · simp at h; exact .inr (by omega)
  have hFo2 : ∀ k, Fo' k → Fo k ∨ w.heap.size < k := fun k hk => by
    rcases hFo' k hk with h | h
    · exact .inl h
    · simp at h; exact .inr (by omega)
  have hDo2 : ∀ k, Do' k → Do k ∨ w.heap.size < k := fun k hk => by
    rcases hDo' k hk with h | h
    · exact .inl h
    · simp at h; exact .inr (by omega)
  have hFl := hO'.lt
  have hl3' : w2.heap.size + 1 ≤ w3.heap.size := by simpa using hl3
  have hDl : ∀ k, Do' k → k < w2.heap.size := fun k hk => hFl k (hO'.sub k hk)
  have hR4 : Fr (fun k => Do k ∨ k = ib) w (w3.setCell ⟨ib, 0, none⟩ (.func (.func K3) #[] cap3)) := (hR3.mono (fun k hk => .inl hk)).setCell _ (.inl (.inr rfl))
  have hR24 : Fr (fun k => k = ib) w2 (w3.setCell ⟨ib, 0, none⟩ (.func (.func K3) #[] cap3)) := (((Fr.refl (fun k => k = ib) w2).alloc _).trans (Fr.of_below (D := fun _ => False) k3) (fun _ _ e => e.elim)).setCell _ (.inl rfl)
  obtain ⟨K3', cap3', ef, hE3, hF3, hD3, h3'⟩ := hS4
  obtain ⟨rfl, rfl⟩ : K3 = K3' ∧ cap3 = cap3' := by simpa using ef
  have hE3' : ∀ (args : Array Value) (w : World), (callFunc K3 args).run Tryz.prog w = .ok (.enter K3 args) w := hE3
  simp only [Ends1] at h3'
  generalize hw4 : w3.setCell ⟨ib, 0, none⟩ (.func (.func K3) #[] cap3) = w4 at *
  have hl4 : w3.heap.size = w4.heap.size := by rw [← hw4]; simp
  rw [rounds_succ]
  go_wp2_with (go_at_fn K3; refine (h3' _ (SameOn.refl _ _) (Nat.le_refl _)).mono ?_; rintro e w5 ⟨k5, b, hb, rfl, hc⟩)
  exact ⟨rfl, hR4.trans k5 (fun i hi e => by have := hDs _ e; omega), b, by omega, rfl, hc⟩

/-- Behind its first value: what is left of the inner one. -/
theorem each_B {E : Fin1} {ib ob tb : Nat} {fo : Value} : ∀ {l : List IV} {f : Value} {w : World} {F D Fo Do : Nat → Prop}, Box w ib f 62 → Box w ob fo 62 → Str l E F D w f → Str [] .none Fo Do w fo → ¬ D ib → ¬ D ob → (∀ k, Fo k → ¬ D k) →
    Str l E (fun k => F k ∨ Fo k ∨ k = ib ∨ k = ob) (fun k => D k ∨ Do k) w (.func (.func 103) #[] #[.pointer (some ⟨ib, 0, none⟩), .pointer (some ⟨ob, 0, none⟩), .pointer (some ⟨tb, 0, none⟩)])
  | [], f, w, F, D, Fo, Do, hi, ho, hS, hO, hiD, hoD, hFD => by
    refine ⟨_, _, rfl, enters_each1, ?_, ?_, ?_⟩
    · rintro k (hk | hk | rfl | rfl)
      · exact hS.lt k hk
      · exact hO.lt k hk
      · exact hi.lt
      · exact ho.lt
    · rintro k (hk | hk)
      · exact .inl (hS.sub k hk)
      · exact .inr (.inl (hO.sub k hk))
    intro w1 hs hl
    have hi1 : Box w1 ib f 62 := hi.same (hs _ (by simp))
    have ho1 : Box w1 ob fo 62 := ho.same (hs _ (by simp))
    have hS1 := hS.move (fun k hk => hs k (.inl hk)) hl
    have hO1 := hO.move (fun k hk => hs k (.inr (.inl hk))) hl
    cases E with
    | none => exact each1_done hi1 ho1 hS1 hO1 hoD hFD
    | some v =>
      refine (each1_thrown hi1 hS1).mono ?_
      rintro e w2 ⟨k2, h2⟩
      exact ⟨k2.mono (fun k hk => .inl hk), h2⟩
  | y :: l, f, w, F, D, Fo, Do, hi, ho, hS, hO, hiD, hoD, hFD => by
    refine ⟨_, _, rfl, enters_each1, ?_, ?_, ?_⟩
    · rintro k (hk | hk | rfl | rfl)
      · exact hS.lt k hk
      · exact hO.lt k hk
      · exact hi.lt
      · exact ho.lt
    · rintro k (hk | hk)
      · exact .inl (hS.sub k hk)
      · exact .inr (.inl (hO.sub k hk))
    intro w1 hs hl
    have hi1 : Box w1 ib f 62 := hi.same (hs _ (by simp))
    have ho1 : Box w1 ob fo 62 := ho.same (hs _ (by simp))
    have hS1 := hS.move (fun k hk => hs k (.inl hk)) hl
    have hO1 := hO.move (fun k hk => hs k (.inr (.inl hk))) hl
    refine (each1_some hi1 hS1).mono ?_
    rintro e w2 ⟨k2, rfl, F', D', hF', hD', hS'⟩
    refine ⟨k2.mono (fun k hk => .inl hk), rfl, _, _, ?_, ?_, each_B (l := l) (hi1.same (k2.block _ hi1.lt hiD)) (ho1.same (k2.block _ ho1.lt hoD)) hS' (hO1.after k2 hFD) ?_ ?_ ?_⟩
    · rintro k (hk | hk | rfl | rfl)
      · rcases hF' k hk with h | h
        · exact .inl (.inl h)
        · exact .inr (by omega)
      · exact .inl (by simp [hk])
      · exact .inl (by simp)
      · exact .inl (by simp)
    · rintro k (hk | hk)
      · rcases hD' k hk with h | h
        · exact .inl (.inl h)
        · exact .inr (by omega)
      · exact .inl (.inr hk)
    · intro e
      rcases hD' _ e with h | h
      · exact hiD h
      · have := hi1.lt; omega
    · intro e
      rcases hD' _ e with h | h
      · exact hoD h
      · have := ho1.lt; omega
    · intro k hk e
      rcases hD' _ e with h | h
      · exact hFD k hk h
      · have := hO1.lt k hk; omega

end Go.Proofs.Tryz

