import Derived.Test.YtjablghahhhdhaaGreatDoorStr1
set_option linter.all false
namespace Go.Proofs.Tryz
open Go.RowKit
set_option maxRecDepth 10000

/-- What a function of one value comes to: a value, or an error. -/
abbrev Res := Except IV IV

def Res.Is (r : Res) (b0 : Nat) (e : Ending) (w : World) : Prop := match r with
  | .ok v => e = .returned (.agg #[iv v, .pointer none])
  | .error v => Thrown b0 v e w

/-- The function value g comes to r at the value x. It looks at the blocks of C alone and writes into none. -/
def ToIs (C : Nat → Prop) (w : World) (g : Value) (x : IV) (r : Res) : Prop :=
  ∃ K cap, g = .func (.func K) #[] cap ∧ Enters Tryz.prog K ∧ (∀ k, C k → k < w.heap.size) ∧
    ∀ w', SameOn C w w' → w.heap.size ≤ w'.heap.size → Calls Tryz.prog K (#[.agg #[iv x, .pointer none]] ++ cap) w' fun e w'' => Below w'.heap.size w' w'' ∧ r.Is w'.heap.size e w''

theorem ToIs.move {C : Nat → Prop} {w w1 : World} {g : Value} {x : IV} {r : Res} (h : ToIs C w g x r) (hs : SameOn C w w1) (hl : w.heap.size ≤ w1.heap.size) : ToIs C w1 g x r := by
  obtain ⟨K, cap, e, hE, hC, h⟩ := h
  exact ⟨K, cap, e, hE, fun k hk => Nat.lt_of_lt_of_le (hC k hk) hl, fun w' hs' hl' => h w' (hs.trans hs') (Nat.le_trans hl hl')⟩

theorem new_not {w : World} {F D : Nat → Prop} (hF : ∀ k, F k → k < w.heap.size) (hD : ∀ k, D k → F k) : ¬ D w.heap.size := fun e => by have := hF _ (hD _ e); omega

set_option maxHeartbeats 400000 in
theorem mapped1_done {w : World} {ob tb K : Nat} {cap : Array Value} {F D : Nat → Prop} (ho : Box w ob (.func (.func K) #[] cap) 66) (hE : Enters Tryz.prog K) (hF : ∀ k, F k → k < w.heap.size) (hD : ∀ k, D k → F k)
    (h : ∀ w', SameOn F w w' → w.heap.size ≤ w'.heap.size → Calls Tryz.prog K cap w' fun e w'' => Fr D w' w'' ∧ e = .returned (.tuple #[.agg #[.nilIface, .pointer none], .bool false])) :
    Calls Tryz.prog 93 #[.pointer (some ⟨ob, 0, none⟩), .pointer (some ⟨tb, 0, none⟩)] w fun e w' => Fr D w w' ∧ e = .returned (.tuple #[.agg #[.nilIface, .pointer none], .bool false]) := by
  have h0 := ho.cell
  have h2 := ho.lt
  have hE' : ∀ (args : Array Value) (w : World), (callFunc K args).run Tryz.prog w = .ok (.enter K args) w := hE
  go_enter Tryz.func93, Tryz.ntmps93
  go_wp2_with (first
    | (go_at_call 19; refine (none_calls _).mono ?_; rintro e w2 ⟨rfl, k2⟩; have p : SpotBox w2 w.heap.size .nilIface := (q.alloc _).same (k2.block _ (by simp; omega)); obtain ⟨p0, p1, p2, p3, p4⟩ := p.facts)
    | (go_at_fn K; refine (h _ (fun k hk => Below.heap_alloc _ _ _ (hF k hk)) (by simp)).mono ?_; rintro e w1 ⟨k1, rfl⟩; have q : SpotBox w1 w.heap.size .nilIface := (SpotBox.new w .nilIface).same (k1.block _ (by simp) (new_not hF hD)); obtain ⟨q0, q1, q2, q3, q4⟩ := q.facts))
  refine bodyPost_ret (v := .tuple #[.agg #[.nilIface, .pointer none], .bool false]) (by simp [results, Tryz.results93, go_sem, p4, p0, p1]) rfl ⟨?_, rfl⟩
  exact ((((((Fr.refl D w).alloc _).trans k1 (fun _ _ e => e)).alloc _).trans (Fr.of_below (D := D) k2) (fun _ _ e => e)).setCell _ (.inr (Nat.le_refl _))).setCell _ (.inr (Nat.le_refl _))

set_option maxHeartbeats 400000 in
theorem mapped1_thrown {w : World} {ob tb K : Nat} {cap : Array Value} {F D : Nat → Prop} (ho : Box w ob (.func (.func K) #[] cap) 66) (hE : Enters Tryz.prog K) (hF : ∀ k, F k → k < w.heap.size) (hD : ∀ k, D k → F k) {v : IV}
    (h : ∀ w', SameOn F w w' → w.heap.size ≤ w'.heap.size → Calls Tryz.prog K cap w' fun e w'' => Fr D w' w'' ∧ Thrown w'.heap.size v e w'') :
    Calls Tryz.prog 93 #[.pointer (some ⟨ob, 0, none⟩), .pointer (some ⟨tb, 0, none⟩)] w fun e w' => Fr D w w' ∧ Thrown w.heap.size v e w' := by
  have h0 := ho.cell
  have h2 := ho.lt
  have hE' : ∀ (args : Array Value) (w : World), (callFunc K args).run Tryz.prog w = .ok (.enter K args) w := hE
  go_enter Tryz.func93, Tryz.ntmps93
  go_wp2_with (first
    | (go_at_fn K; refine (h _ (fun k hk => Below.heap_alloc _ _ _ (hF k hk)) (by simp)).mono ?_; rintro e w1 ⟨k1, b, hb, rfl, hc⟩))
  exact ⟨rfl, ((Fr.refl D w).alloc _).trans k1 (fun _ _ e => e), b, by simp at hb; omega, rfl, hc⟩

set_option maxHeartbeats 400000 in
theorem mapped1_some {w : World} {ob tb : Nat} {f g : Value} {L : List IV} {E : Fin1} {F D C : Nat → Prop} {x y : IV} (ho : Box w ob f 66) (ht : Box w tb g 133) (hS : Str (x :: L) E F D w f) (hT : ToIs C w g x (.ok y)) (hCD : ∀ k, C k → ¬ D k) (htD : ¬ D tb) :
    Calls Tryz.prog 93 #[.pointer (some ⟨ob, 0, none⟩), .pointer (some ⟨tb, 0, none⟩)] w fun e w' => Fr D w w' ∧ e = .returned (.tuple #[.agg #[iv y, .pointer none], .bool true]) ∧ ∃ F' D', (∀ k, F' k → F k ∨ w.heap.size < k) ∧ (∀ k, D' k → D k ∨ w.heap.size < k) ∧ Str L E F' D' w' f := by
  have h0 := ho.cell
  have h2 := ho.lt
  obtain ⟨K, cap, rfl, hE, hF, hD, h⟩ := hS
  obtain ⟨K2, cap2, rfl, hE2, hC, h'⟩ := hT
  have hE' : ∀ (args : Array Value) (w : World), (callFunc K args).run Tryz.prog w = .ok (.enter K args) w := hE
  have hE2' : ∀ (args : Array Value) (w : World), (callFunc K2 args).run Tryz.prog w = .ok (.enter K2 args) w := hE2
  obtain ⟨T, u⟩ := x
  obtain ⟨T', u'⟩ := y
  simp only [iv, Res.Is] at h h' ⊢
  go_enter Tryz.func93, Tryz.ntmps93
  go_wp2_with (first
    | (go_at_fn K2; refine (h' _ (fun k hk => (Below.heap_alloc _ _ _ (by have := hC k hk; omega)).trans ((k1.block k (by have := hC k hk; simp; omega) (hCD k hk)).trans (Below.heap_alloc _ _ _ (hC k hk)))) (by simp; omega)).mono ?_; rintro e w2 ⟨k2, rfl⟩; have p : SpotBox w2 w.heap.size .nilIface := (q.alloc _).same (k2.block _ (by simp; omega)); obtain ⟨p0, p1, p2, p3, p4⟩ := p.facts)
    | (go_at_fn K; refine (h _ (fun k hk => Below.heap_alloc _ _ _ (hF k hk)) (by simp)).mono ?_; rintro e w1 ⟨k1, rfl, F', D', hF', hD', hS'⟩; have q : SpotBox w1 w.heap.size .nilIface := (SpotBox.new w .nilIface).same (k1.block _ (by simp) (new_not hF hD)); obtain ⟨q0, q1, q2, q3, q4⟩ := q.facts; have t0 := (ht.same ((k1.block tb (by have := ht.lt; simp; omega) htD).trans (Below.heap_alloc _ _ _ ht.lt))).cell; have t1 : tb < w1.heap.size := by have := ht.lt; omega))
  refine bodyPost_ret (v := .tuple #[.agg #[.iface T' u', .pointer none], .bool true]) (by simp [results, Tryz.results93, go_sem, p4, p0, p1]) rfl ⟨?_, rfl, F', D', ?_, ?_, ?_⟩
  · exact ((((((Fr.refl D w).alloc _).trans k1 (fun _ _ e => e)).alloc _).trans (Fr.of_below (D := D) k2) (fun _ _ e => e)).setCell _ (.inr (Nat.le_refl _))).setCell _ (.inr (Nat.le_refl _))
  · intro k hk
    rcases hF' k hk with h | h
    · exact .inl h
    · simp at h; exact .inr (by omega)
  · intro k hk
    rcases hD' k hk with h | h
    · exact .inl h
    · simp at h; exact .inr (by omega)
  · refine hS'.after (X := (· = w.heap.size)) (((((Fr.refl (· = w.heap.size) w1).alloc _).trans (Fr.of_below (D := fun _ => False) k2) (fun _ _ e => e.elim)).setCell _ (.inl rfl)).setCell _ (.inl rfl)) ?_
    intro k hk e
    subst e
    rcases hF' _ hk with h | h
    · have := hF _ h; omega
    · simp at h; omega

set_option maxHeartbeats 400000 in
theorem mapped1_throws {w : World} {ob tb : Nat} {f g : Value} {L : List IV} {E : Fin1} {F D C : Nat → Prop} {x y : IV} (ho : Box w ob f 66) (ht : Box w tb g 133) (hS : Str (x :: L) E F D w f) (hT : ToIs C w g x (.error y)) (hCD : ∀ k, C k → ¬ D k) (htD : ¬ D tb) :
    Calls Tryz.prog 93 #[.pointer (some ⟨ob, 0, none⟩), .pointer (some ⟨tb, 0, none⟩)] w fun e w' => Fr D w w' ∧ Thrown w.heap.size y e w' := by
  have h0 := ho.cell
  have h2 := ho.lt
  obtain ⟨K, cap, rfl, hE, hF, hD, h⟩ := hS
  obtain ⟨K2, cap2, rfl, hE2, hC, h'⟩ := hT
  have hE' : ∀ (args : Array Value) (w : World), (callFunc K args).run Tryz.prog w = .ok (.enter K args) w := hE
  have hE2' : ∀ (args : Array Value) (w : World), (callFunc K2 args).run Tryz.prog w = .ok (.enter K2 args) w := hE2
  obtain ⟨T, u⟩ := x
  simp only [iv, Res.Is] at h h' ⊢
  go_enter Tryz.func93, Tryz.ntmps93
  go_wp2_with (first
    | (go_at_fn K2; refine (h' _ (fun k hk => (Below.heap_alloc _ _ _ (by have := hC k hk; omega)).trans ((k1.block k (by have := hC k hk; simp; omega) (hCD k hk)).trans (Below.heap_alloc _ _ _ (hC k hk)))) (by simp; omega)).mono ?_; rintro e w2 ⟨k2, b, hb, rfl, hc⟩)
    | (go_at_fn K; refine (h _ (fun k hk => Below.heap_alloc _ _ _ (hF k hk)) (by simp)).mono ?_; rintro e w1 ⟨k1, rfl, F', D', hF', hD', hS'⟩; have q : SpotBox w1 w.heap.size .nilIface := (SpotBox.new w .nilIface).same (k1.block _ (by simp) (new_not hF hD)); obtain ⟨q0, q1, q2, q3, q4⟩ := q.facts; have t0 := (ht.same ((k1.block tb (by have := ht.lt; simp; omega) htD).trans (Below.heap_alloc _ _ _ ht.lt))).cell; have t1 : tb < w1.heap.size := by have := ht.lt; omega))
  exact ⟨rfl, (((((Fr.refl D w).alloc _).trans k1 (fun _ _ e => e)).alloc _).trans (Fr.of_below (D := D) k2) (fun _ _ e => e)), b, by simp at hb; omega, rfl, hc⟩

theorem enters_mapped1 : Enters Tryz.prog 93 := enters_of Tryz.func93 (by kernel_rfl) rfl

theorem mapped_str {E : Fin1} {C : Nat → Prop} {ob tb : Nat} {f g : Value} {φ : IV → IV} : ∀ {L : List IV} {w : World} {F D : Nat → Prop}, Box w ob f 66 → Box w tb g 133 → Str L E F D w f → (∀ k, C k → k < w.heap.size) → (∀ x ∈ L, ToIs C w g x (.ok (φ x))) → (∀ k, C k → ¬ D k) → ¬ D tb → ¬ D ob →
    Str (L.map φ) E (fun k => F k ∨ C k ∨ k = ob ∨ k = tb) D w (.func (.func 93) #[] #[.pointer (some ⟨ob, 0, none⟩), .pointer (some ⟨tb, 0, none⟩)])
  | [], w, F, D, ho, ht, hS, hC, _, hCD, htD, hoD => by
    obtain ⟨K, cap, rfl, hE, hF, hD, h⟩ := hS
    refine ⟨_, _, rfl, enters_mapped1, ?_, fun k hk => .inl (hD k hk), ?_⟩
    · rintro k (hk | hk | rfl | rfl)
      · exact hF k hk
      · exact hC k hk
      · exact ho.lt
      · exact ht.lt
    intro w1 hs hl
    have hs' : SameOn F w w1 := fun k hk => hs k (.inl hk)
    cases E with
    | none =>
      exact mapped1_done (ho.same (hs ob (by simp))) hE (fun k hk => Nat.lt_of_lt_of_le (hF k hk) hl) hD (fun w' a b => h w' (hs'.trans a) (Nat.le_trans hl b))
    | some v =>
      exact mapped1_thrown (ho.same (hs ob (by simp))) hE (fun k hk => Nat.lt_of_lt_of_le (hF k hk) hl) hD (fun w' a b => h w' (hs'.trans a) (Nat.le_trans hl b))
  | x :: L, w, F, D, ho, ht, hS, hC, hT, hCD, htD, hoD => by
    refine ⟨_, _, rfl, enters_mapped1, ?_, fun k hk => .inl (hS.sub k hk), ?_⟩
    · rintro k (hk | hk | rfl | rfl)
      · exact hS.lt k hk
      · exact hC k hk
      · exact ho.lt
      · exact ht.lt
    intro w1 hs hl
    have ho1 : Box w1 ob f 66 := ho.same (hs ob (by simp))
    have ht1 : Box w1 tb g 133 := ht.same (hs tb (by simp))
    have hs1 : SameOn C w w1 := fun k hk => hs k (.inr (.inl hk))
    have hC1 : ∀ k, C k → k < w1.heap.size := fun k hk => Nat.lt_of_lt_of_le (hC k hk) hl
    refine (mapped1_some (y := φ x) ho1 ht1 (hS.move (fun k hk => hs k (.inl hk)) hl) ((hT x (by simp)).move hs1 hl) hCD htD).mono ?_
    rintro e w2 ⟨k2, rfl, F', D', hF', hD', hS'⟩
    refine ⟨k2, rfl, _, D', ?_, ?_, mapped_str (L := L) (ho1.same (k2.block _ ho1.lt hoD)) (ht1.same (k2.block _ ht1.lt htD)) hS' (fun k hk => Nat.lt_of_lt_of_le (hC1 k hk) k2.size) (fun y hy => ((hT y (by simp [hy])).move hs1 hl).move (k2.same hC1 hCD) k2.size) ?_ ?_ ?_⟩
    · rintro k (hk | hk | rfl | rfl)
      · rcases hF' k hk with h | h
        · exact .inl (.inl h)
        · exact .inr (by omega)
      · exact .inl (.inr (.inl hk))
      · exact .inl (by simp)
      · exact .inl (by simp)
    · intro k hk
      rcases hD' k hk with h | h
      · exact .inl h
      · exact .inr (by omega)
    · intro k hk e
      rcases hD' k e with h | h
      · exact hCD k hk h
      · have := hC1 k hk; omega
    · intro e
      rcases hD' _ e with h | h
      · exact htD h
      · have := ht1.lt; omega
    · intro e
      rcases hD' _ e with h | h
      · exact hoD h
      · have := ho1.lt; omega

theorem mapped_throws {E : Fin1} {C : Nat → Prop} {ob tb : Nat} {f g : Value} {x y : IV} {L : List IV} {w : World} {F D : Nat → Prop} (ho : Box w ob f 66) (ht : Box w tb g 133) (hS : Str (x :: L) E F D w f) (hC : ∀ k, C k → k < w.heap.size) (hT : ToIs C w g x (.error y)) (hCD : ∀ k, C k → ¬ D k) (htD : ¬ D tb) :
    Str [] (.some y) (fun k => F k ∨ C k ∨ k = ob ∨ k = tb) D w (.func (.func 93) #[] #[.pointer (some ⟨ob, 0, none⟩), .pointer (some ⟨tb, 0, none⟩)]) := by
  refine ⟨_, _, rfl, enters_mapped1, ?_, fun k hk => .inl (hS.sub k hk), ?_⟩
  · rintro k (hk | hk | rfl | rfl)
    · exact hS.lt k hk
    · exact hC k hk
    · exact ho.lt
    · exact ht.lt
  intro w1 hs hl
  exact mapped1_throws (ho.same (hs ob (by simp))) (ht.same (hs tb (by simp))) (hS.move (fun k hk => hs k (.inl hk)) hl) (hT.move (fun k hk => hs k (.inr (.inl hk))) hl) hCD htD

set_option maxHeartbeats 400000 in
theorem mapped_made {w : World} {K K2 : Nat} {cap cap2 : Array Value} : Calls Tryz.prog 45 #[.func (.func K) #[] cap, .func (.func K2) #[] cap2] w fun e w' => e = .returned (.func (.func 93) #[] #[.pointer (some ⟨w.heap.size, 0, none⟩), .pointer (some ⟨w.heap.size + 1, 0, none⟩)]) ∧ Below w.heap.size w w' ∧ Box w' w.heap.size (.func (.func K) #[] cap) 66 ∧ Box w' (w.heap.size + 1) (.func (.func K2) #[] cap2) 133 := by
  go_enter Tryz.func45, Tryz.ntmps45
  go_wp2
  go_ret
  exact ⟨rfl, ((below_alloc _ _).alloc (by simp) _), (Box.new w _ _).same (Below.heap_alloc _ _ _ (by simp)), heap_new2' w _ _⟩

theorem mapped_ok {E : Fin1} {C : Nat → Prop} {f g : Value} {φ : IV → IV} {L : List IV} {w : World} {F D : Nat → Prop} (hS : Str L E F D w f) (hg : ∃ K cap, g = .func (.func K) #[] cap) (hC : ∀ k, C k → k < w.heap.size) (hT : ∀ x ∈ L, ToIs C w g x (.ok (φ x))) (hCD : ∀ k, C k → ¬ D k) :
    Calls Tryz.prog 45 #[f, g] w fun e w' => Below w.heap.size w w' ∧ ∃ r F', e = .returned r ∧ Str (L.map φ) E F' D w' r ∧ (∀ k, F' k → F k ∨ C k ∨ w.heap.size ≤ k) := by
  obtain ⟨K, cap, rfl⟩ := hS.shape
  obtain ⟨K2, cap2, rfl⟩ := hg
  refine mapped_made.mono ?_
  rintro e w1 ⟨rfl, k1, b0, b1⟩
  have hD : ∀ k, D k → k < w.heap.size := fun k hk => hS.lt k (hS.sub k hk)
  refine ⟨k1, _, _, rfl, mapped_str b0 b1 (hS.move (fun k hk => k1.block k (hS.lt k hk)) k1.size) (fun k hk => Nat.lt_of_lt_of_le (hC k hk) k1.size) (fun x hx => (hT x hx).move (fun k hk => k1.block k (hC k hk)) k1.size) hCD (fun e => by have := hD _ e; omega) (fun e => by have := hD _ e; omega), ?_⟩
  rintro k (hk | hk | rfl | rfl)
  · exact .inl hk
  · exact .inr (.inl hk)
  · exact .inr (.inr (by omega))
  · exact .inr (.inr (by omega))

theorem mapped_ok_throws {E : Fin1} {C : Nat → Prop} {f g : Value} {x y : IV} {L : List IV} {w : World} {F D : Nat → Prop} (hS : Str (x :: L) E F D w f) (hC : ∀ k, C k → k < w.heap.size) (hT : ToIs C w g x (.error y)) (hCD : ∀ k, C k → ¬ D k) :
    Calls Tryz.prog 45 #[f, g] w fun e w' => Below w.heap.size w w' ∧ ∃ r F', e = .returned r ∧ Str [] (.some y) F' D w' r ∧ (∀ k, F' k → F k ∨ C k ∨ w.heap.size ≤ k) := by
  obtain ⟨K, cap, rfl⟩ := hS.shape
  have hT' := hT
  obtain ⟨K2, cap2, rfl, _⟩ := hT'
  refine mapped_made.mono ?_
  rintro e w1 ⟨rfl, k1, b0, b1⟩
  have hD : ∀ k, D k → k < w.heap.size := fun k hk => hS.lt k (hS.sub k hk)
  refine ⟨k1, _, _, rfl, mapped_throws b0 b1 (hS.move (fun k hk => k1.block k (hS.lt k hk)) k1.size) (fun k hk => Nat.lt_of_lt_of_le (hC k hk) k1.size) (hT.move (fun k hk => k1.block k (hC k hk)) k1.size) hCD (fun e => by have := hD _ e; omega), ?_⟩
  rintro k (hk | hk | rfl | rfl)
  · exact .inl hk
  · exact .inr (.inl hk)
  · exact .inr (.inr (by omega))
  · exact .inr (.inr (by omega))

/-- The same for what takes a value and gives one. -/
def Res.Is' (r : Res) (b0 : Nat) (e : Ending) (w : World) : Prop := match r with
  | .ok v => e = .returned (iv v)
  | .error v => Thrown b0 v e w
def VIs (C : Nat → Prop) (w : World) (g : Value) (x : IV) (r : Res) : Prop :=
  ∃ K cap, g = .func (.func K) #[] cap ∧ Enters Tryz.prog K ∧ (∀ k, C k → k < w.heap.size) ∧
    ∀ w', SameOn C w w' → w.heap.size ≤ w'.heap.size → Calls Tryz.prog K (#[iv x] ++ cap) w' fun e w'' => Below w'.heap.size w' w'' ∧ r.Is' w'.heap.size e w''
theorem VIs.move {C : Nat → Prop} {w w1 : World} {g : Value} {x : IV} {r : Res} (h : VIs C w g x r) (hs : SameOn C w w1) (hl : w.heap.size ≤ w1.heap.size) : VIs C w1 g x r := by
  obtain ⟨K, cap, e, hE, hC, h⟩ := h
  exact ⟨K, cap, e, hE, fun k hk => Nat.lt_of_lt_of_le (hC k hk) hl, fun w' hs' hl' => h w' (hs.trans hs') (Nat.le_trans hl hl')⟩

theorem below_alloc2 (w : World) (a b : Obj) : Below w.heap.size w ((w.alloc a).alloc b) := (below_alloc _ _).alloc (by simp) _
theorem enters_valued1 : Enters Tryz.prog 173 := enters_of Tryz.func173 (by kernel_rfl) rfl
set_option maxHeartbeats 400000 in
theorem valued1_ok {C : Nat → Prop} {w : World} {g : Value} {x : IV} {r : Res} {tb : Nat} (ht : Box w tb g 242) (h : VIs C w g x r) :
    Calls Tryz.prog 173 #[.agg #[iv x, .pointer none], .pointer (some ⟨tb, 0, none⟩)] w fun e w' => Below w.heap.size w w' ∧ r.Is w.heap.size e w' := by
  obtain ⟨K, cap, rfl, hE, hC, h⟩ := h
  have h0 := ht.cell
  have h1 := ht.lt
  have hE' : ∀ (args : Array Value) (w : World), (callFunc K args).run Tryz.prog w = .ok (.enter K args) w := hE
  obtain ⟨T, u⟩ := x
  cases r with
  | ok y =>
    obtain ⟨T', u'⟩ := y
    simp only [iv, Res.Is', Res.Is] at h ⊢
    go_enter Tryz.func173, Tryz.ntmps173
    go_wp2_with (go_at_fn K; refine (h _ (fun k hk => (below_alloc2 w _ _).block k (hC k hk)) (below_alloc2 w _ _).size).mono ?_; rintro e w1 ⟨k1, rfl⟩; have q : SpotBox w1 (w.heap.size + 1) .nilIface := SpotBox.same (heap_new2' w _ _) (k1.block _ (by simp)); obtain ⟨q0, q1, q2, q3, q4⟩ := q.facts)
    refine bodyPost_ret (v := .agg #[.iface T' u', .pointer none]) (by simp [results, Tryz.results173, go_sem, q4, q0, q1]) rfl ⟨?_, rfl⟩
    exact ((((below_alloc2 w _ _).trans (k1.mono (by simp; omega))).setCell (by simp) _).setCell (by simp) _)
  | error y =>
    simp only [iv, Res.Is', Res.Is] at h ⊢
    go_enter Tryz.func173, Tryz.ntmps173
    go_wp2_with (go_at_fn K; refine (h _ (fun k hk => (below_alloc2 w _ _).block k (hC k hk)) (below_alloc2 w _ _).size).mono ?_; rintro e w1 ⟨k1, b, hb, rfl, hc⟩)
    exact ⟨rfl, (below_alloc2 w _ _).trans (k1.mono (by simp; omega)), b, by simp at hb; omega, rfl, hc⟩

set_option maxHeartbeats 400000 in
theorem valued_ok {E : Fin1} {C : Nat → Prop} {f g : Value} {φ : IV → IV} {L : List IV} {w : World} {F D : Nat → Prop} (hS : Str L E F D w f) (hg : ∃ K cap, g = .func (.func K) #[] cap) (hC : ∀ k, C k → k < w.heap.size) (hT : ∀ x ∈ L, VIs C w g x (.ok (φ x))) (hCD : ∀ k, C k → ¬ D k) :
    Calls Tryz.prog 126 #[f, g] w fun e w' => Below w.heap.size w w' ∧ ∃ r F', e = .returned r ∧ Str (L.map φ) E F' D w' r ∧ (∀ k, F' k → F k ∨ C k ∨ w.heap.size ≤ k) := by
  obtain ⟨K, cap, rfl⟩ := hS.shape
  obtain ⟨K2, cap2, rfl⟩ := hg
  have hm : Calls Tryz.prog 45 #[.func (.func K) #[] cap, .func (.func 173) #[] #[.pointer (some ⟨w.heap.size, 0, none⟩)]] (w.alloc (.cells #[.func (.func K2) #[] cap2] 242)) fun e w' => Below w.heap.size w w' ∧ ∃ r F', e = .returned r ∧ (∃ K cap, r = .func (.func K) #[] cap) ∧ Str (L.map φ) E F' D w' r ∧ (∀ k, F' k → F k ∨ C k ∨ w.heap.size ≤ k) := by
    have k0 := below_alloc w (.cells #[.func (.func K2) #[] cap2] 242)
    have hb := Box.new w (.func (.func K2) #[] cap2) 242
    have hl : ∀ k, (C k ∨ k = w.heap.size) → k < (w.alloc (.cells #[.func (.func K2) #[] cap2] 242)).heap.size := by
      rintro k (hk | rfl)
      · have := hC k hk; simp; omega
      · simp
    refine (mapped_ok (C := fun k => C k ∨ k = w.heap.size) (φ := φ) (hS.move (fun k hk => k0.block k (hS.lt k hk)) k0.size) ⟨_, _, rfl⟩ hl ?_ ?_).mono ?_
    · intro x hx
      refine ⟨_, _, rfl, enters_valued1, hl, ?_⟩
      intro w' hs hl'
      exact valued1_ok (hb.same (hs _ (.inr rfl))) (((hT x hx).move (fun k hk => k0.block k (hC k hk)) k0.size).move (fun k hk => hs k (.inl hk)) hl')
    · rintro k (hk | rfl) e
      · exact hCD k hk e
      · have := hS.lt _ (hS.sub _ e); omega
    · rintro e w1 ⟨k1, r, F', rfl, hS', hF'⟩
      refine ⟨k0.trans (k1.mono (by simp)), r, F', rfl, hS'.shape, hS', ?_⟩
      intro k hk
      rcases hF' k hk with h | (h | h) | h
      · exact .inl h
      · exact .inr (.inl h)
      · exact .inr (.inr (by omega))
      · simp at h; exact .inr (.inr (by omega))
  go_enter Tryz.func126, Tryz.ntmps126
  go_wp2_with (go_at_call 45; refine hm.mono ?_; rintro e w1 ⟨k1, r, F', rfl, ⟨K3, cap3, rfl⟩, hS', hF'⟩)
  go_ret
  exact ⟨k1, _, F', rfl, hS', hF'⟩

set_option maxHeartbeats 400000 in
theorem valued_ok_throws {E : Fin1} {C : Nat → Prop} {f g : Value} {x y : IV} {L : List IV} {w : World} {F D : Nat → Prop} (hS : Str (x :: L) E F D w f) (hC : ∀ k, C k → k < w.heap.size) (hT : VIs C w g x (.error y)) (hCD : ∀ k, C k → ¬ D k) :
    Calls Tryz.prog 126 #[f, g] w fun e w' => Below w.heap.size w w' ∧ ∃ r F', e = .returned r ∧ Str [] (.some y) F' D w' r ∧ (∀ k, F' k → F k ∨ C k ∨ w.heap.size ≤ k) := by
  obtain ⟨K, cap, rfl⟩ := hS.shape
  have hT' := hT
  obtain ⟨K2, cap2, rfl, _⟩ := hT'
  have hm : Calls Tryz.prog 45 #[.func (.func K) #[] cap, .func (.func 173) #[] #[.pointer (some ⟨w.heap.size, 0, none⟩)]] (w.alloc (.cells #[.func (.func K2) #[] cap2] 242)) fun e w' => Below w.heap.size w w' ∧ ∃ r F', e = .returned r ∧ (∃ K cap, r = .func (.func K) #[] cap) ∧ Str [] (.some y) F' D w' r ∧ (∀ k, F' k → F k ∨ C k ∨ w.heap.size ≤ k) := by
    have k0 := below_alloc w (.cells #[.func (.func K2) #[] cap2] 242)
    have hb := Box.new w (.func (.func K2) #[] cap2) 242
    have hl : ∀ k, (C k ∨ k = w.heap.size) → k < (w.alloc (.cells #[.func (.func K2) #[] cap2] 242)).heap.size := by
      rintro k (hk | rfl)
      · have := hC k hk; simp; omega
      · simp
    refine (mapped_ok_throws (C := fun k => C k ∨ k = w.heap.size) (y := y) (hS.move (fun k hk => k0.block k (hS.lt k hk)) k0.size) hl ?_ ?_).mono ?_
    · refine ⟨_, _, rfl, enters_valued1, hl, ?_⟩
      intro w' hs hl'
      exact valued1_ok (hb.same (hs _ (.inr rfl))) ((hT.move (fun k hk => k0.block k (hC k hk)) k0.size).move (fun k hk => hs k (.inl hk)) hl')
    · rintro k (hk | rfl) e
      · exact hCD k hk e
      · have := hS.lt _ (hS.sub _ e); omega
    · rintro e w1 ⟨k1, r, F', rfl, hS', hF'⟩
      refine ⟨k0.trans (k1.mono (by simp)), r, F', rfl, hS'.shape, hS', ?_⟩
      intro k hk
      rcases hF' k hk with h | (h | h) | h
      · exact .inl h
      · exact .inr (.inl h)
      · exact .inr (.inr (by omega))
      · simp at h; exact .inr (.inr (by omega))
  go_enter Tryz.func126, Tryz.ntmps126
  go_wp2_with (go_at_call 45; refine hm.mono ?_; rintro e w1 ⟨k1, r, F', rfl, ⟨K3, cap3, rfl⟩, hS', hF'⟩)
  go_ret
  exact ⟨k1, _, F', rfl, hS', hF'⟩
end Go.Proofs.Tryz

