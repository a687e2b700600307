import Derived.Test.YtjablghahhhdhaaGreatDoorStr2
set_option linter.all false
namespace Go.Proofs.Tryz
open Go.RowKit
set_option maxRecDepth 10000

/-- The function value g makes of the value x a stream that gives l and ends as e says. It looks at the blocks of C alone and writes into none. -/
def ThenIs (C : Nat → Prop) (w : World) (g : Value) (x : IV) (l : List IV) (E : Fin1) : Prop :=
  ∃ K cap, g = .func (.func K) #[] cap ∧ Enters Tryz.prog K ∧ (∀ k, C k → k < w.heap.size) ∧
    ∀ w', SameOn C w w' → w.heap.size ≤ w'.heap.size → Calls Tryz.prog K (#[.agg #[iv x, .pointer none]] ++ cap) w' fun e w'' => Below w'.heap.size w' w'' ∧
      ∃ f F D, e = .returned f ∧ Str l E F D w'' f ∧ (∀ k, F k → C k ∨ w'.heap.size ≤ k) ∧ (∀ k, D k → w'.heap.size ≤ k)

theorem ThenIs.move {C : Nat → Prop} {w w1 : World} {g : Value} {x : IV} {l : List IV} {E : Fin1} (h : ThenIs C w g x l E) (hs : SameOn C w w1) (hl : w.heap.size ≤ w1.heap.size) : ThenIs C w1 g x l E := by
  obtain ⟨K, cap, e, hE, hC, h⟩ := h
  exact ⟨K, cap, e, hE, fun k hk => Nat.lt_of_lt_of_le (hC k hk) hl, fun w' hs' hl' => h w' (hs.trans hs') (Nat.le_trans hl hl')⟩

theorem enters_each1 : Enters Tryz.prog 97 := enters_of Tryz.func97 (by kernel_rfl) rfl

set_option maxHeartbeats 1000000 in
theorem each1_some {w : World} {ib ob tb : Nat} {f : Value} {y : IV} {L : List IV} {E : Fin1} {F D : Nat → Prop} (hi : Box w ib f 66) (hS : Str (y :: L) E F D w f) :
    Calls Tryz.prog 97 #[.pointer (some ⟨ib, 0, none⟩), .pointer (some ⟨ob, 0, none⟩), .pointer (some ⟨tb, 0, none⟩)] w fun e w' => Fr D w w' ∧ e = .returned (.tuple #[.agg #[iv y, .pointer none], .bool true]) ∧ ∃ F' D', (∀ k, F' k → F k ∨ w.heap.size < k) ∧ (∀ k, D' k → D k ∨ w.heap.size < k) ∧ Str L E F' D' w' f := by
  have h0 := hi.cell
  have h2 := hi.lt
  obtain ⟨K, cap, rfl, hE, hF, hD, h⟩ := hS
  have hE' : ∀ (args : Array Value) (w : World), (callFunc K args).run Tryz.prog w = .ok (.enter K args) w := hE
  obtain ⟨T, u⟩ := y
  simp only [iv] at h ⊢
  go_enter Tryz.func97, Tryz.ntmps97
  go_wp2_with fail
  refine wp_loop_rounds 1 ?_
  rw [rounds_succ]
  go_wp2_with (go_at_fn K; refine (h _ (fun k hk => Below.heap_alloc _ _ _ (hF k hk)) (by simp)).mono ?_; rintro e w1 ⟨k1, rfl, F', D', hF', hD', hS'⟩; have q : SpotBox w1 w.heap.size .nilIface := (SpotBox.new w .nilIface).same (k1.block _ (by simp) (new_not hF hD)); obtain ⟨q0, q1, q2, q3, q4⟩ := q.facts)
  refine bodyPost_ret (v := .tuple #[.agg #[.iface T u, .pointer none], .bool true]) (by simp [results, Tryz.results97, go_sem, q4, q0, q1]) rfl ⟨?_, rfl, F', D', ?_, ?_, ?_⟩
  · exact (((((Fr.refl D w).alloc _).trans k1 (fun _ _ e => e)).setCell _ (.inr (Nat.le_refl _))).setCell _ (.inr (Nat.le_refl _))).alloc _
  · intro k hk
    rcases hF' k hk with h | h
    · exact .inl h
    · simp at h; exact .inr (by omega)
  · intro k hk
    rcases hD' k hk with h | h
    · exact .inl h
    · simp at h; exact .inr (by omega)
  · refine hS'.after (X := (· = w.heap.size)) ((((Fr.refl (· = w.heap.size) w1).setCell _ (.inl rfl)).setCell _ (.inl rfl)).alloc _) ?_
    intro k hk e
    subst e
    rcases hF' _ hk with h | h
    · have := hF _ h; omega
    · simp at h; omega

set_option maxHeartbeats 1000000 in
theorem each1_thrown {w : World} {ib ob tb : Nat} {f : Value} {y : IV} {F D : Nat → Prop} (hi : Box w ib f 66) (hS : Str [] (.some y) F D w f) :
    Calls Tryz.prog 97 #[.pointer (some ⟨ib, 0, none⟩), .pointer (some ⟨ob, 0, none⟩), .pointer (some ⟨tb, 0, none⟩)] w fun e w' => Fr D w w' ∧ Thrown w.heap.size y e w' := by
  have h0 := hi.cell
  have h2 := hi.lt
  obtain ⟨K, cap, rfl, hE, hF, hD, h⟩ := hS
  have hE' : ∀ (args : Array Value) (w : World), (callFunc K args).run Tryz.prog w = .ok (.enter K args) w := hE
  simp only [Ends1] at h
  go_enter Tryz.func97, Tryz.ntmps97
  go_wp2_with fail
  refine wp_loop_rounds 1 ?_
  rw [rounds_succ]
  go_wp2_with (go_at_fn K; refine (h _ (fun k hk => Below.heap_alloc _ _ _ (hF k hk)) (by simp)).mono ?_; rintro e w1 ⟨k1, b, hb, rfl, hc⟩)
  exact ⟨rfl, ((Fr.refl D w).alloc _).trans k1 (fun _ _ e => e), b, by simp at hb; omega, rfl, hc⟩

set_option maxHeartbeats 1000000 in
theorem each1_done {w : World} {ib ob tb : Nat} {f fo : Value} {F D Fo Do : Nat → Prop} (hi : Box w ib f 66) (ho : Box w ob fo 66) (hS : Str [] .none F D w f) (hO : Str [] .none Fo Do w fo) (hoD : ¬ D ob) (hFD : ∀ k, Fo k → ¬ D k) :
    Calls Tryz.prog 97 #[.pointer (some ⟨ib, 0, none⟩), .pointer (some ⟨ob, 0, none⟩), .pointer (some ⟨tb, 0, none⟩)] w fun e w' => Fr (fun k => D k ∨ Do k) w w' ∧ e = .returned (.tuple #[.agg #[.nilIface, .pointer none], .bool false]) := by
  have h0 := hi.cell
  have h2 := hi.lt
  have h3 := ho.lt
  obtain ⟨K, cap, rfl, hE, hF, hD, h⟩ := hS
  obtain ⟨K2, cap2, rfl, hE2, hF2, hD2, h'⟩ := hO
  have hE' : ∀ (args : Array Value) (w : World), (callFunc K args).run Tryz.prog w = .ok (.enter K args) w := hE
  have hE2' : ∀ (args : Array Value) (w : World), (callFunc K2 args).run Tryz.prog w = .ok (.enter K2 args) w := hE2
  simp only [Ends1] at h h'
  have hh : ∀ w', SameOn Fo w w' → SameOn F w w' → w.heap.size ≤ w'.heap.size → Calls Tryz.prog K cap w' fun e w'' => Fr D w' w'' ∧ e = .returned (.tuple #[.agg #[.nilIface, .pointer none], .bool false]) ∧ SameOn Fo w w'' := fun w' a b c => (h w' b c).mono fun e w'' ⟨p, q⟩ => ⟨p, q, a.trans (p.same (fun k hk => Nat.lt_of_lt_of_le (hF2 k hk) c) hFD)⟩
  go_enter Tryz.func97, Tryz.ntmps97
  go_wp2_with fail
  refine wp_loop_rounds 1 ?_
  rw [rounds_succ]
  go_wp2_with (first
    | (go_at_call 19; refine (none_calls _).mono ?_; rintro e w3 ⟨rfl, k3⟩; have r : SpotBox w3 w.heap.size .nilIface := ((p).alloc _).same (k3.block _ (by simp; omega)); obtain ⟨r0, r1, r2, r3, r4⟩ := r.facts)
    | (go_at_fn K2; refine (h' _ (hs1.trans (fun k hk => Below.heap_alloc _ _ _ (Nat.lt_of_lt_of_le (hF2 k hk) (by omega)))) (by simp; omega)).mono ?_; rintro e w2 ⟨k2, rfl⟩; have p : SpotBox w2 w.heap.size .nilIface := (q.alloc _).same (k2.block _ (by simp; omega) (new_not hF2 hD2)); obtain ⟨p0, p1, p2, p3, p4⟩ := p.facts)
    | (go_at_fn K; refine (hh _ (fun k hk => Below.heap_alloc _ _ _ (hF2 k hk)) (fun k hk => Below.heap_alloc _ _ _ (hF k hk)) (by simp)).mono ?_; rintro e w1 ⟨k1, rfl, hs1⟩; have q : SpotBox w1 w.heap.size .nilIface := (SpotBox.new w .nilIface).same (k1.block _ (by simp) (new_not hF hD)); obtain ⟨q0, q1, q2, q3, q4⟩ := q.facts; have t0 := (ho.same ((k1.block ob (by simp; omega) hoD).trans (Below.heap_alloc _ _ _ h3))).cell; have t1 : ob < w1.heap.size := by omega))
  refine bodyPost_ret (v := .tuple #[.agg #[.nilIface, .pointer none], .bool false]) (by simp [results, Tryz.results97, go_sem, r4, r0, r1]) rfl ⟨?_, rfl⟩
  exact ((((((((Fr.refl (fun k => D k ∨ Do k) w).alloc _).trans k1 (fun _ _ e => .inl e)).alloc _).trans k2 (fun _ _ e => .inr e)).alloc _).trans (Fr.of_below (D := fun _ => False) k3) (fun _ _ e => e.elim)).setCell _ (.inr (Nat.le_refl _))).setCell _ (.inr (Nat.le_refl _))

set_option maxHeartbeats 1000000 in
theorem each1_first {w : World} {ib ob tb : Nat} {fo g : Value} {x y : IV} {L l : List IV} {E Eo : Fin1} {Fo Do C : Nat → Prop} (hi : Box w ib (.func (.func 19) #[] #[]) 66) (ho : Box w ob fo 66) (ht : Box w tb g 126) (hO : Str (x :: L) Eo Fo Do w fo) (hT : ThenIs C w g x (y :: l) E) (hiD : ¬ Do ib) (htD : ¬ Do tb) (hCD : ∀ k, C k → ¬ Do k) (hiC : ¬ C ib) (hiF : ¬ Fo ib) :
    Calls Tryz.prog 97 #[.pointer (some ⟨ib, 0, none⟩), .pointer (some ⟨ob, 0, none⟩), .pointer (some ⟨tb, 0, none⟩)] w fun e w' => Fr (fun k => Do k ∨ k = ib) w w' ∧ e = .returned (.tuple #[.agg #[iv y, .pointer none], .bool true]) ∧
      ∃ f F D Fo' Do', Box w' ib f 66 ∧ Str l E F D w' f ∧ Str L Eo Fo' Do' w' fo ∧ (∀ k, F k → C k ∨ w.heap.size < k) ∧ (∀ k, D k → w.heap.size < k) ∧ (∀ k, Fo' k → (Fo k ∨ w.heap.size < k) ∧ ¬ D k) ∧ (∀ k, Do' k → (Do k ∨ w.heap.size < k) ∧ ¬ F k) := by
  have h0 := hi.cell
  have h2 := hi.lt
  have h3 := ho.cell
  have h4 := ho.lt
  have h5 := ht.lt
  obtain ⟨K, cap, rfl, hE, hF, hD, h⟩ := hO
  obtain ⟨K2, cap2, rfl, hE2, hC, h'⟩ := hT
  have hE' : ∀ (args : Array Value) (w : World), (callFunc K args).run Tryz.prog w = .ok (.enter K args) w := hE
  have hE2' : ∀ (args : Array Value) (w : World), (callFunc K2 args).run Tryz.prog w = .ok (.enter K2 args) w := hE2
  obtain ⟨T, u⟩ := x
  obtain ⟨T', u'⟩ := y
  simp only [iv] at h h' ⊢
  go_enter Tryz.func97, Tryz.ntmps97
  go_wp2_with fail
  refine wp_loop_rounds 2 ?_
  rw [rounds_succ]
  go_wp2_with (first
    | (go_at_call 19; refine (none_calls _).mono ?_; rintro e w1 ⟨rfl, k1⟩; have q : SpotBox w1 w.heap.size .nilIface := (SpotBox.new w .nilIface).same (k1.block _ (by simp)); obtain ⟨q0, q1, q2, q3, q4⟩ := q.facts; have hB : Below w.heap.size w w1 := (below_alloc _ _).trans (k1.mono (by simp)); have t0 := (ho.same (hB.block _ h4)).cell; have t9 : ob < w1.heap.size := by omega)
    | (go_at_fn K; refine (h _ (fun k hk => (Below.heap_alloc _ _ _ (Nat.lt_of_lt_of_le (hF k hk) hB.size)).trans (hB.block k (hF k hk))) (by simp; omega)).mono ?_; rintro e w2 ⟨k2, rfl, Fo', Do', hFo', hDo', hO'⟩; have hl2 := k2.size; have p : SpotBox w2 w.heap.size .nilIface := (q.alloc _).same (k2.block _ (by simp; omega) (new_not hF hD)); obtain ⟨p0, p1, p2, p3, p4⟩ := p.facts; have hR : Fr Do w w2 := ((Fr.of_below hB).alloc _).trans k2 (fun _ _ e => e); have t1 := (ht.same (hR.block _ h5 htD)).cell; have t2 : tb < w2.heap.size := by omega)
    | (go_at_fn K2; refine (h' _ (fun k hk => (Below.heap_alloc _ _ _ (Nat.lt_of_lt_of_le (hC k hk) hR.size)).trans (hR.block k (hC k hk) (hCD k hk))) (by simp; omega)).mono ?_; rintro e w3 ⟨k3, f, F, D, rfl, hS, hFC, hDn⟩; have hl3 := k3.size; obtain ⟨K3, cap3, rfl⟩ := hS.shape; have hR3 : Fr Do w w3 := (hR.alloc _).trans (Fr.of_below (D := fun _ => False) k3) (fun _ _ e => e.elim); have i3 := hi.same (hR3.block _ h2 hiD); have i0 := i3.cell; have i1 := i3.free; have i2 := i3.lt; have r : SpotBox w3 w.heap.size .nilIface := (p.alloc _).same (k3.block _ (by simp; omega)); obtain ⟨r0, r1, r2, r3, r4⟩ := r.facts))
  have hS4 := hS.after (X := (· = ib)) ((Fr.refl (· = ib) w3).setCell (.func (.func K3) #[] cap3) (o := 0) (.inl rfl)) (by
    intro k hk e
    subst e
    rcases hFC _ hk with h | h
    · exact hiC h
    · simp at h; omega)
  have i4 := i3.set (.func (.func K3) #[] cap3)
  have i40 := i4.cell
  have r' : SpotBox (w3.setCell ⟨ib, 0, none⟩ (.func (.func K3) #[] cap3)) w.heap.size .nilIface := r.same (Below.heap_setCell _ _ _ _ (by simp; omega))
  have hDs : ∀ k, D k → w2.heap.size < k := fun k hk => by have := hDn k hk; simp at this; omega
  have hFs : ∀ k, F k → C k ∨ w2.heap.size < k := fun k hk => by
    rcases hFC k hk with h | h
    · exact .inl h
    · simp at h; exact .inr (by omega)
  have hFo2 : ∀ k, Fo' k → Fo k ∨ w.heap.size < k := fun k hk => by
    rcases hFo' k hk with h | h
    · exact .inl h
    · simp at h; exact .inr (by omega)
  have hDo2 : ∀ k, Do' k → Do k ∨ w.heap.size < k := fun k hk => by
    rcases hDo' k hk with h | h
    · exact .inl h
    · simp at h; exact .inr (by omega)
  have hFl := hO'.lt
  have hl3' : w2.heap.size + 1 ≤ w3.heap.size := by simpa using hl3
  have hDl : ∀ k, Do' k → k < w2.heap.size := fun k hk => hFl k (hO'.sub k hk)
  have hR4 : Fr (fun k => Do k ∨ k = ib) w (w3.setCell ⟨ib, 0, none⟩ (.func (.func K3) #[] cap3)) := (hR3.mono (fun k hk => .inl hk)).setCell _ (.inl (.inr rfl))
  have hR24 : Fr (fun k => k = ib) w2 (w3.setCell ⟨ib, 0, none⟩ (.func (.func K3) #[] cap3)) := (((Fr.refl (fun k => k = ib) w2).alloc _).trans (Fr.of_below (D := fun _ => False) k3) (fun _ _ e => e.elim)).setCell _ (.inl rfl)
  obtain ⟨K3', cap3', ef, hE3, hF3, hD3, h3'⟩ := hS4
  obtain ⟨rfl, rfl⟩ : K3 = K3' ∧ cap3 = cap3' := by simpa using ef
  have hE3' : ∀ (args : Array Value) (w : World), (callFunc K3 args).run Tryz.prog w = .ok (.enter K3 args) w := hE3
  simp only [iv] at h3'
  generalize hw4 : w3.setCell ⟨ib, 0, none⟩ (.func (.func K3) #[] cap3) = w4 at *
  have hl4 : w3.heap.size = w4.heap.size := by rw [← hw4]; simp
  rw [rounds_succ]
  go_wp2_with (go_at_fn K3; refine (h3' _ (SameOn.refl _ _) (Nat.le_refl _)).mono ?_; rintro e w5 ⟨k5, rfl, F', D', hF', hD', hS'⟩; have v : SpotBox w5 w.heap.size .nilIface := r'.same (k5.block _ r'.lt (fun e => by have := hDs _ e; omega)); obtain ⟨v0, v1, v2, v3, v4⟩ := v.facts)
  have hl5 := k5.size
  have hend : Fr (fun k => k = w.heap.size) w5 (((w5.setCell ⟨w.heap.size, 0, none⟩ (.iface T' u')).setCell ⟨w.heap.size, 1, none⟩ (.pointer none)).alloc (.cells #[.iface T' u', .pointer none] 75)) := (((Fr.refl (fun k => k = w.heap.size) w5).setCell _ (.inl rfl)).setCell _ (.inl rfl)).alloc _
  refine bodyPost_ret (v := .tuple #[.agg #[.iface T' u', .pointer none], .bool true]) (by simp [results, Tryz.results97, go_sem, v4, v0, v1]) rfl ⟨?_, rfl, _, F', D', Fo', Do', (i4.same (k5.block _ i4.lt (fun e => by have := hDs _ e; omega))).same (hend.block _ (by have := i4.lt; omega) (by omega)), ?_, ?_, ?_, ?_, ?_, ?_⟩
  · exact (hR4.trans k5 (fun i hi e => by have := hDs _ e; omega)).trans hend (fun i hi e => by omega)
  · refine hS'.after hend ?_
    intro k hk e
    rcases hF' k hk with h | h
    · rcases hFs k h with h | h
      · have := hC k h; omega
      · omega
    · omega
  · refine ((hO'.after hR24 ?_).after k5 ?_).after hend ?_
    · intro k hk e
      subst e
      rcases hFo2 _ hk with h | h
      · exact hiF h
      · omega
    · intro k hk e
      have := hFl k hk
      have := hDs k e
      omega
    · intro k hk e
      rcases hFo2 _ hk with h | h
      · have := hF k h; omega
      · omega
  · intro k hk
    rcases hF' k hk with h | h
    · rcases hFs k h with h | h
      · exact .inl h
      · exact .inr (by omega)
    · exact .inr (by omega)
  · intro k hk
    rcases hD' k hk with h | h
    · have := hDs k h; omega
    · omega
  · intro k hk
    refine ⟨hFo2 k hk, fun e => ?_⟩
    have := hFl k hk
    rcases hD' k e with h | h
    · have := hDs k h; omega
    · omega
  · intro k hk
    refine ⟨hDo2 k hk, fun e => ?_⟩
    have := hDl k hk
    rcases hF' k e with h | h
    · rcases hFs k h with h | h
      · rcases hDo2 k hk with h' | h'
        · exact hCD k h h'
        · have := hC k h; omega
      · omega
    · omega

set_option maxHeartbeats 1000000 in
theorem each1_first_throws {w : World} {ib ob tb : Nat} {fo g : Value} {x y : IV} {L : List IV} {Eo : Fin1} {Fo Do C : Nat → Prop} (hi : Box w ib (.func (.func 19) #[] #[]) 66) (ho : Box w ob fo 66) (ht : Box w tb g 126) (hO : Str (x :: L) Eo Fo Do w fo) (hT : ThenIs C w g x [] (.some y)) (hiD : ¬ Do ib) (htD : ¬ Do tb) (hCD : ∀ k, C k → ¬ Do k) (hiC : ¬ C ib) (hiF : ¬ Fo ib) :
    Calls Tryz.prog 97 #[.pointer (some ⟨ib, 0, none⟩), .pointer (some ⟨ob, 0, none⟩), .pointer (some ⟨tb, 0, none⟩)] w fun e w' => Fr (fun k => Do k ∨ k = ib) w w' ∧ Thrown w.heap.size y e w' := by
  have h0 := hi.cell
  have h2 := hi.lt
  have h3 := ho.cell
  have h4 := ho.lt
  have h5 := ht.lt
  obtain ⟨K, cap, rfl, hE, hF, hD, h⟩ := hO
  obtain ⟨K2, cap2, rfl, hE2, hC, h'⟩ := hT
  have hE' : ∀ (args : Array Value) (w : World), (callFunc K args).run Tryz.prog w = .ok (.enter K args) w := hE
  have hE2' : ∀ (args : Array Value) (w : World), (callFunc K2 args).run Tryz.prog w = .ok (.enter K2 args) w := hE2
  obtain ⟨T, u⟩ := x
  simp only [iv] at h h' ⊢
  go_enter Tryz.func97, Tryz.ntmps97
  go_wp2_with fail
  refine wp_loop_rounds 2 ?_
  rw [rounds_succ]
  go_wp2_with (first
    | (go_at_call 19; refine (none_calls _).mono ?_; rintro e w1 ⟨rfl, k1⟩; have q : SpotBox w1 w.heap.size .nilIface := (SpotBox.new w .nilIface).same (k1.block _ (by simp)); obtain ⟨q0, q1, q2, q3, q4⟩ := q.facts; have hB : Below w.heap.size w w1 := (below_alloc _ _).trans (k1.mono (by simp)); have t0 := (ho.same (hB.block _ h4)).cell; have t9 : ob < w1.heap.size := by omega)
    | (go_at_fn K; refine (h _ (fun k hk => (Below.heap_alloc _ _ _ (Nat.lt_of_lt_of_le (hF k hk) hB.size)).trans (hB.block k (hF k hk))) (by simp; omega)).mono ?_; rintro e w2 ⟨k2, rfl, Fo', Do', hFo', hDo', hO'⟩; have hl2 := k2.size; have p : SpotBox w2 w.heap.size .nilIface := (q.alloc _).same (k2.block _ (by simp; omega) (new_not hF hD)); obtain ⟨p0, p1, p2, p3, p4⟩ := p.facts; have hR : Fr Do w w2 := ((Fr.of_below hB).alloc _).trans k2 (fun _ _ e => e); have t1 := (ht.same (hR.block _ h5 htD)).cell; have t2 : tb < w2.heap.size := by omega)
    | (go_at_fn K2; refine (h' _ (fun k hk => (Below.heap_alloc _ _ _ (Nat.lt_of_lt_of_le (hC k hk) hR.size)).trans (hR.block k (hC k hk) (hCD k hk))) (by simp; omega)).mono ?_; rintro e w3 ⟨k3, f, F, D, rfl, hS, hFC, hDn⟩; have hl3 := k3.size; obtain ⟨K3, cap3, rfl⟩ := hS.shape; have hR3 : Fr Do w w3 := (hR.alloc _).trans (Fr.of_below (D := fun _ => False) k3) (fun _ _ e => e.elim); have i3 := hi.same (hR3.block _ h2 hiD); have i0 := i3.cell; have i1 := i3.free; have i2 := i3.lt; have r : SpotBox w3 w.heap.size .nilIface := (p.alloc _).same (k3.block _ (by simp; omega)); obtain ⟨r0, r1, r2, r3, r4⟩ := r.facts))
  have hS4 := hS.after (X := (· = ib)) ((Fr.refl (· = ib) w3).setCell (.func (.func K3) #[] cap3) (o := 0) (.inl rfl)) (by
    intro k hk e
    subst e
    rcases hFC _ hk with h | h
    · exact hiC h
    · simp at h; omega)
  have i4 := i3.set (.func (.func K3) #[] cap3)
  have i40 := i4.cell
  have r' : SpotBox (w3.setCell ⟨ib, 0, none⟩ (.func (.func K3) #[] cap3)) w.heap.size .nilIface := r.same (Below.heap_setCell _ _ _ _ (by simp; omega))
  have hDs : ∀ k, D k → w2.heap.size < k := fun k hk => by have := hDn k hk; simp at this; omega
  have hFs : ∀ k, F k → C k ∨ w2.heap.size < k := fun k hk => by
    rcases hFC k hk with h | h
    · exact .inl h
    · simp at h; exact .inr (by omega)
  have hFo2 : ∀ k, Fo' k → Fo k ∨ w.heap.size < k := fun k hk => by
    rcases hFo' k hk with h | h
    · exact .inl h
    · simp at h; exact .inr (by omega)
  have hDo2 : ∀ k, Do' k → Do k ∨ w.heap.size < k := fun k hk => by
    rcases hDo' k hk with h | h
    · exact .inl h
    · simp at h; exact .inr (by omega)
  have hFl := hO'.lt
  have hl3' : w2.heap.size + 1 ≤ w3.heap.size := by simpa using hl3
  have hDl : ∀ k, Do' k → k < w2.heap.size := fun k hk => hFl k (hO'.sub k hk)
  have hR4 : Fr (fun k => Do k ∨ k = ib) w (w3.setCell ⟨ib, 0, none⟩ (.func (.func K3) #[] cap3)) := (hR3.mono (fun k hk => .inl hk)).setCell _ (.inl (.inr rfl))
  have hR24 : Fr (fun k => k = ib) w2 (w3.setCell ⟨ib, 0, none⟩ (.func (.func K3) #[] cap3)) := (((Fr.refl (fun k => k = ib) w2).alloc _).trans (Fr.of_below (D := fun _ => False) k3) (fun _ _ e => e.elim)).setCell _ (.inl rfl)
  obtain ⟨K3', cap3', ef, hE3, hF3, hD3, h3'⟩ := hS4
  obtain ⟨rfl, rfl⟩ : K3 = K3' ∧ cap3 = cap3' := by simpa using ef
  have hE3' : ∀ (args : Array Value) (w : World), (callFunc K3 args).run Tryz.prog w = .ok (.enter K3 args) w := hE3
  simp only [Ends1] at h3'
  generalize hw4 : w3.setCell ⟨ib, 0, none⟩ (.func (.func K3) #[] cap3) = w4 at *
  have hl4 : w3.heap.size = w4.heap.size := by rw [← hw4]; simp
  rw [rounds_succ]
  go_wp2_with (go_at_fn K3; refine (h3' _ (SameOn.refl _ _) (Nat.le_refl _)).mono ?_; rintro e w5 ⟨k5, b, hb, rfl, hc⟩)
  exact ⟨rfl, hR4.trans k5 (fun i hi e => by have := hDs _ e; omega), b, by omega, rfl, hc⟩

/-- Behind its first value: what is left of the inner one. -/
theorem each_B {E : Fin1} {ib ob tb : Nat} {fo : Value} : ∀ {l : List IV} {f : Value} {w : World} {F D Fo Do : Nat → Prop}, Box w ib f 66 → Box w ob fo 66 → Str l E F D w f → Str [] .none Fo Do w fo → ¬ D ib → ¬ D ob → (∀ k, Fo k → ¬ D k) →
    Str l E (fun k => F k ∨ Fo k ∨ k = ib ∨ k = ob) (fun k => D k ∨ Do k) w (.func (.func 97) #[] #[.pointer (some ⟨ib, 0, none⟩), .pointer (some ⟨ob, 0, none⟩), .pointer (some ⟨tb, 0, none⟩)])
  | [], f, w, F, D, Fo, Do, hi, ho, hS, hO, hiD, hoD, hFD => by
    refine ⟨_, _, rfl, enters_each1, ?_, ?_, ?_⟩
    · rintro k (hk | hk | rfl | rfl)
      · exact hS.lt k hk
      · exact hO.lt k hk
      · exact hi.lt
      · exact ho.lt
    · rintro k (hk | hk)
      · exact .inl (hS.sub k hk)
      · exact .inr (.inl (hO.sub k hk))
    intro w1 hs hl
    have hi1 : Box w1 ib f 66 := hi.same (hs _ (by simp))
    have ho1 : Box w1 ob fo 66 := ho.same (hs _ (by simp))
    have hS1 := hS.move (fun k hk => hs k (.inl hk)) hl
    have hO1 := hO.move (fun k hk => hs k (.inr (.inl hk))) hl
    cases E with
    | none => exact each1_done hi1 ho1 hS1 hO1 hoD hFD
    | some v =>
      refine (each1_thrown hi1 hS1).mono ?_
      rintro e w2 ⟨k2, h2⟩
      exact ⟨k2.mono (fun k hk => .inl hk), h2⟩
  | y :: l, f, w, F, D, Fo, Do, hi, ho, hS, hO, hiD, hoD, hFD => by
    refine ⟨_, _, rfl, enters_each1, ?_, ?_, ?_⟩
    · rintro k (hk | hk | rfl | rfl)
      · exact hS.lt k hk
      · exact hO.lt k hk
      · exact hi.lt
      · exact ho.lt
    · rintro k (hk | hk)
      · exact .inl (hS.sub k hk)
      · exact .inr (.inl (hO.sub k hk))
    intro w1 hs hl
    have hi1 : Box w1 ib f 66 := hi.same (hs _ (by simp))
    have ho1 : Box w1 ob fo 66 := ho.same (hs _ (by simp))
    have hS1 := hS.move (fun k hk => hs k (.inl hk)) hl
    have hO1 := hO.move (fun k hk => hs k (.inr (.inl hk))) hl
    refine (each1_some hi1 hS1).mono ?_
    rintro e w2 ⟨k2, rfl, F', D', hF', hD', hS'⟩
    refine ⟨k2.mono (fun k hk => .inl hk), rfl, _, _, ?_, ?_, each_B (l := l) (hi1.same (k2.block _ hi1.lt hiD)) (ho1.same (k2.block _ ho1.lt hoD)) hS' (hO1.after k2 hFD) ?_ ?_ ?_⟩
    · rintro k (hk | hk | rfl | rfl)
      · rcases hF' k hk with h | h
        · exact .inl (.inl h)
        · exact .inr (by omega)
      · exact .inl (by simp [hk])
      · exact .inl (by simp)
      · exact .inl (by simp)
    · rintro k (hk | hk)
      · rcases hD' k hk with h | h
        · exact .inl (.inl h)
        · exact .inr (by omega)
      · exact .inl (.inr hk)
    · intro e
      rcases hD' _ e with h | h
      · exact hiD h
      · have := hi1.lt; omega
    · intro e
      rcases hD' _ e with h | h
      · exact hoD h
      · have := ho1.lt; omega
    · intro k hk e
      rcases hD' _ e with h | h
      · exact hFD k hk h
      · have := hO1.lt k hk; omega

end Go.Proofs.Tryz

namespace Go.Proofs.Tryz
open Go.RowKit
set_option maxRecDepth 10000

theorem heap_new3 (w : World) (o1 o2 o3 : Obj) : (((w.alloc o1).alloc o2).alloc o3).heap[w.heap.size + 2]? = some o3 := by
  have := heap_new ((w.alloc o1).alloc o2) o3
  simpa using this
theorem heap_at2 (w : World) (o1 o2 o3 : Obj) : (((w.alloc o1).alloc o2).alloc o3).heap[w.heap.size + 1]? = some o2 := by
  rw [Below.heap_alloc _ _ _ (by simp)]
  exact heap_new2' w o1 o2
theorem heap_at1 (w : World) (o1 o2 o3 : Obj) : (((w.alloc o1).alloc o2).alloc o3).heap[w.heap.size]? = some o1 := by
  rw [Below.heap_alloc _ _ _ (by simp; omega), Below.heap_alloc _ _ _ (by simp)]
  exact heap_new w o1
theorem below_alloc3 (w : World) (a b c : Obj) : Below w.heap.size w (((w.alloc a).alloc b).alloc c) := (below_alloc2 w a b).alloc (by simp; omega) _

set_option maxHeartbeats 400000 in
theorem each_made {w : World} {K K2 : Nat} {cap cap2 : Array Value} : Calls Tryz.prog 48 #[.func (.func K) #[] cap, .func (.func K2) #[] cap2] w fun e w' => e = .returned (.func (.func 97) #[] #[.pointer (some ⟨w.heap.size + 2, 0, none⟩), .pointer (some ⟨w.heap.size, 0, none⟩), .pointer (some ⟨w.heap.size + 1, 0, none⟩)]) ∧ Below w.heap.size w w' ∧ Box w' w.heap.size (.func (.func K) #[] cap) 66 ∧ Box w' (w.heap.size + 1) (.func (.func K2) #[] cap2) 126 ∧ Box w' (w.heap.size + 2) (.func (.func 19) #[] #[]) 66 := by
  go_enter Tryz.func48, Tryz.ntmps48
  go_wp2
  go_ret
  exact ⟨rfl, below_alloc3 w _ _ _, heap_at1 w _ _ _, heap_at2 w _ _ _, heap_new3 w _ _ _⟩

theorem each_A {E : Fin1} {ib ob tb : Nat} {fo g : Value} {x y : IV} {l : List IV} {w : World} {C Fo Do : Nat → Prop} (hi : Box w ib (.func (.func 19) #[] #[]) 66) (ho : Box w ob fo 66) (ht : Box w tb g 126) (hO : Str [x] .none Fo Do w fo) (hC : ∀ k, C k → k < w.heap.size) (hT : ThenIs C w g x (y :: l) E) (hiD : ¬ Do ib) (hoD : ¬ Do ob) (htD : ¬ Do tb) (hCD : ∀ k, C k → ¬ Do k) (hiC : ¬ C ib) (hiF : ¬ Fo ib) (hio : ib ≠ ob) :
    Str (y :: l) E (fun k => Fo k ∨ C k ∨ k = ib ∨ k = ob ∨ k = tb) (fun k => Do k ∨ k = ib) w (.func (.func 97) #[] #[.pointer (some ⟨ib, 0, none⟩), .pointer (some ⟨ob, 0, none⟩), .pointer (some ⟨tb, 0, none⟩)]) := by
  refine ⟨_, _, rfl, enters_each1, ?_, ?_, ?_⟩
  · rintro k (hk | hk | rfl | rfl | rfl)
    · exact hO.lt k hk
    · exact hC k hk
    · exact hi.lt
    · exact ho.lt
    · exact ht.lt
  · rintro k (hk | rfl)
    · exact .inl (hO.sub k hk)
    · simp
  intro w1 hs hl
  have ho1 : Box w1 ob fo 66 := ho.same (hs _ (by simp))
  have hi1 : Box w1 ib _ 66 := hi.same (hs _ (by simp))
  refine (each1_first hi1 ho1 (ht.same (hs _ (by simp))) (hO.move (fun k hk => hs k (.inl hk)) hl) (hT.move (fun k hk => hs k (.inr (.inl hk))) hl) hiD htD hCD hiC hiF).mono ?_
  rintro e w2 ⟨k2, rfl, f, F, D, Fo', Do', hi2, hS2, hO2, hF, hD, hFo, hDo⟩
  refine ⟨k2, rfl, _, _, ?_, ?_, each_B (l := l) hi2 (ho1.same (k2.block _ ho1.lt (fun h => h.elim hoD (fun e => hio e.symm)))) hS2 hO2 (fun e => by have := hD _ e; have := hi1.lt; omega) (fun e => by have := hD _ e; have := ho1.lt; omega) (fun k hk => (hFo k hk).2)⟩
  · rintro k (hk | hk | rfl | rfl)
    · rcases hF k hk with h | h
      · exact .inl (.inr (.inl h))
      · exact .inr (by omega)
    · rcases (hFo k hk).1 with h | h
      · exact .inl (.inl h)
      · exact .inr (by omega)
    · exact .inl (by simp)
    · exact .inl (by simp)
  · rintro k (hk | hk)
    · exact .inr (by have := hD k hk; omega)
    · rcases (hDo k hk).1 with h | h
      · exact .inl (.inl h)
      · exact .inr (by omega)

theorem each_A_throws {ib ob tb : Nat} {fo g : Value} {x y : IV} {w : World} {C Fo Do : Nat → Prop} (hi : Box w ib (.func (.func 19) #[] #[]) 66) (ho : Box w ob fo 66) (ht : Box w tb g 126) (hO : Str [x] .none Fo Do w fo) (hC : ∀ k, C k → k < w.heap.size) (hT : ThenIs C w g x [] (.some y)) (hiD : ¬ Do ib) (htD : ¬ Do tb) (hCD : ∀ k, C k → ¬ Do k) (hiC : ¬ C ib) (hiF : ¬ Fo ib) :
    Str [] (.some y) (fun k => Fo k ∨ C k ∨ k = ib ∨ k = ob ∨ k = tb) (fun k => Do k ∨ k = ib) w (.func (.func 97) #[] #[.pointer (some ⟨ib, 0, none⟩), .pointer (some ⟨ob, 0, none⟩), .pointer (some ⟨tb, 0, none⟩)]) := by
  refine ⟨_, _, rfl, enters_each1, ?_, ?_, ?_⟩
  · rintro k (hk | hk | rfl | rfl | rfl)
    · exact hO.lt k hk
    · exact hC k hk
    · exact hi.lt
    · exact ho.lt
    · exact ht.lt
  · rintro k (hk | rfl)
    · exact .inl (hO.sub k hk)
    · simp
  intro w1 hs hl
  exact each1_first_throws (hi.same (hs _ (by simp))) (ho.same (hs _ (by simp))) (ht.same (hs _ (by simp))) (hO.move (fun k hk => hs k (.inl hk)) hl) (hT.move (fun k hk => hs k (.inr (.inl hk))) hl) hiD htD hCD hiC hiF

/-- What a stream of one value is made into. -/
def Outs (r : Res) (F D : Nat → Prop) (w : World) (f : Value) : Prop := match r with
  | .ok y => Str [y] .none F D w f
  | .error y => Str [] (.some y) F D w f
def ThenOuts (C : Nat → Prop) (w : World) (g : Value) (x : IV) (r : Res) : Prop := match r with
  | .ok y => ThenIs C w g x [y] .none
  | .error y => ThenIs C w g x [] (.some y)

theorem each_ok {fo g : Value} {x : IV} {r : Res} {w : World} {C Fo Do : Nat → Prop} (hO : Str [x] .none Fo Do w fo) (hC : ∀ k, C k → k < w.heap.size) (hT : ThenOuts C w g x r) (hCD : ∀ k, C k → ¬ Do k) :
    Calls Tryz.prog 48 #[fo, g] w fun e w' => Below w.heap.size w w' ∧ ∃ f F D, e = .returned f ∧ Outs r F D w' f ∧ (∀ k, F k → Fo k ∨ C k ∨ w.heap.size ≤ k) ∧ (∀ k, D k → Do k ∨ w.heap.size ≤ k) := by
  have hO' := hO
  obtain ⟨K, cap, rfl, _⟩ := hO'
  have hg : ∃ K cap, g = .func (.func K) #[] cap := by
    cases r <;> (obtain ⟨K, cap, h, _⟩ := hT; exact ⟨K, cap, h⟩)
  obtain ⟨K2, cap2, rfl⟩ := hg
  refine each_made.mono ?_
  rintro e w1 ⟨rfl, k1, b0, b1, b2⟩
  have hFl := hO.lt
  have hDl : ∀ k, Do k → k < w.heap.size := fun k hk => hFl k (hO.sub k hk)
  have hO1 := hO.move (fun k hk => k1.block k (hFl k hk)) k1.size
  have hC1 : ∀ k, C k → k < w1.heap.size := fun k hk => Nat.lt_of_lt_of_le (hC k hk) k1.size
  refine ⟨k1, _, (fun k => Fo k ∨ C k ∨ k = w.heap.size + 2 ∨ k = w.heap.size ∨ k = w.heap.size + 1), (fun k => Do k ∨ k = w.heap.size + 2), rfl, ?_, ?_, ?_⟩
  · cases r with
    | ok y => exact each_A b2 b0 b1 hO1 hC1 (ThenIs.move hT (fun k hk => k1.block k (hC k hk)) k1.size) (fun e => by have := hDl _ e; omega) (fun e => by have := hDl _ e; omega) (fun e => by have := hDl _ e; omega) hCD (fun e => by have := hC _ e; omega) (fun e => by have := hFl _ e; omega) (by omega)
    | error y => exact each_A_throws b2 b0 b1 hO1 hC1 (ThenIs.move hT (fun k hk => k1.block k (hC k hk)) k1.size) (fun e => by have := hDl _ e; omega) (fun e => by have := hDl _ e; omega) hCD (fun e => by have := hC _ e; omega) (fun e => by have := hFl _ e; omega)
  · rintro k (hk | hk | rfl | rfl | rfl)
    · exact .inl hk
    · exact .inr (.inl hk)
    · exact .inr (.inr (by omega))
    · exact .inr (.inr (by omega))
    · exact .inr (.inr (by omega))
  · rintro k (hk | rfl)
    · exact .inl hk
    · exact .inr (by omega)
end Go.Proofs.Tryz

namespace Go.Proofs.Tryz
open Go.RowKit
set_option maxRecDepth 10000

theorem enters_behind1 : Enters Tryz.prog 41 := enters_of Tryz.func41 (by kernel_rfl) rfl

set_option maxHeartbeats 1000000 in
theorem behind1_some {w : World} {rb vb sb : Nat} {f : Value} {y : IV} {L : List IV} {E : Fin1} {F D : Nat → Prop} (hr : Box w rb f 66) (hS : Str (y :: L) E F D w f) :
    Calls Tryz.prog 41 #[.pointer (some ⟨rb, 0, none⟩), .pointer (some ⟨vb, 0, none⟩), .pointer (some ⟨sb, 0, none⟩)] w fun e w' => Fr D w w' ∧ e = .returned (.tuple #[.agg #[iv y, .pointer none], .bool true]) ∧ ∃ F' D', (∀ k, F' k → F k ∨ w.heap.size < k) ∧ (∀ k, D' k → D k ∨ w.heap.size < k) ∧ Str L E F' D' w' f := by
  have h0 := hr.cell
  have h2 := hr.lt
  obtain ⟨K, cap, rfl, hE, hF, hD, h⟩ := hS
  have hE' : ∀ (args : Array Value) (w : World), (callFunc K args).run Tryz.prog w = .ok (.enter K args) w := hE
  obtain ⟨T, u⟩ := y
  simp only [iv] at h ⊢
  go_enter Tryz.func41, Tryz.ntmps41
  go_wp2_with (go_at_fn K; refine (h _ (fun k hk => Below.heap_alloc _ _ _ (hF k hk)) (by simp)).mono ?_; rintro e w1 ⟨k1, rfl, F', D', hF', hD', hS'⟩; have q : SpotBox w1 w.heap.size .nilIface := (SpotBox.new w .nilIface).same (k1.block _ (by simp) (new_not hF hD)); obtain ⟨q0, q1, q2, q3, q4⟩ := q.facts)
  refine bodyPost_ret (v := .tuple #[.agg #[.iface T u, .pointer none], .bool true]) (by simp [results, Tryz.results41, go_sem, q4, q0, q1]) rfl ⟨?_, rfl, F', D', ?_, ?_, ?_⟩
  · exact (((((Fr.refl D w).alloc _).trans k1 (fun _ _ e => e)).setCell _ (.inr (Nat.le_refl _))).setCell _ (.inr (Nat.le_refl _))).alloc _
  · intro k hk
    rcases hF' k hk with h | h
    · exact .inl h
    · simp at h; exact .inr (by omega)
  · intro k hk
    rcases hD' k hk with h | h
    · exact .inl h
    · simp at h; exact .inr (by omega)
  · refine hS'.after (X := (· = w.heap.size)) ((((Fr.refl (· = w.heap.size) w1).setCell _ (.inl rfl)).setCell _ (.inl rfl)).alloc _) ?_
    intro k hk e
    subst e
    rcases hF' _ hk with h | h
    · have := hF _ h; omega
    · simp at h; omega

set_option maxHeartbeats 1000000 in
theorem behind1_thrown {w : World} {rb vb sb : Nat} {f : Value} {y : IV} {F D : Nat → Prop} (hr : Box w rb f 66) (hS : Str [] (.some y) F D w f) :
    Calls Tryz.prog 41 #[.pointer (some ⟨rb, 0, none⟩), .pointer (some ⟨vb, 0, none⟩), .pointer (some ⟨sb, 0, none⟩)] w fun e w' => Fr D w w' ∧ Thrown w.heap.size y e w' := by
  have h0 := hr.cell
  have h2 := hr.lt
  obtain ⟨K, cap, rfl, hE, hF, hD, h⟩ := hS
  have hE' : ∀ (args : Array Value) (w : World), (callFunc K args).run Tryz.prog w = .ok (.enter K args) w := hE
  simp only [Ends1] at h
  go_enter Tryz.func41, Tryz.ntmps41
  go_wp2_with (go_at_fn K; refine (h _ (fun k hk => Below.heap_alloc _ _ _ (hF k hk)) (by simp)).mono ?_; rintro e w1 ⟨k1, b, hb, rfl, hc⟩)
  exact ⟨rfl, ((Fr.refl D w).alloc _).trans k1 (fun _ _ e => e), b, by simp at hb; omega, rfl, hc⟩

set_option maxHeartbeats 1000000 in
theorem behind1_over {w : World} {rb vb sb : Nat} {f : Value} {F D : Nat → Prop} (hr : Box w rb f 66) (hv : Box w vb (.bool true) 4) (hvD : ¬ D vb) (hS : Str [] .none F D w f) :
    Calls Tryz.prog 41 #[.pointer (some ⟨rb, 0, none⟩), .pointer (some ⟨vb, 0, none⟩), .pointer (some ⟨sb, 0, none⟩)] w fun e w' => Fr D w w' ∧ e = .returned (.tuple #[.agg #[.nilIface, .pointer none], .bool false]) := by
  have h0 := hr.cell
  have h2 := hr.lt
  have h3 := hv.lt
  obtain ⟨K, cap, rfl, hE, hF, hD, h⟩ := hS
  have hE' : ∀ (args : Array Value) (w : World), (callFunc K args).run Tryz.prog w = .ok (.enter K args) w := hE
  simp only [Ends1] at h
  go_enter Tryz.func41, Tryz.ntmps41
  go_wp2_with (go_at_fn K; refine (h _ (fun k hk => Below.heap_alloc _ _ _ (hF k hk)) (by simp)).mono ?_; rintro e w1 ⟨k1, rfl⟩; have q : SpotBox w1 w.heap.size .nilIface := (SpotBox.new w .nilIface).same (k1.block _ (by simp) (new_not hF hD)); obtain ⟨q0, q1, q2, q3, q4⟩ := q.facts; have t0 := (hv.same ((k1.block vb (by simp; omega) hvD).trans (Below.heap_alloc _ _ _ h3))).cell; have t1 : vb < w1.heap.size := by omega)
  refine bodyPost_ret (v := .tuple #[.agg #[.nilIface, .pointer none], .bool false]) (by simp [results, Tryz.results41, go_sem, q4, q0, q1]) rfl ⟨?_, rfl⟩
  exact (((((Fr.refl D w).alloc _).trans k1 (fun _ _ e => e)).setCell _ (.inr (Nat.le_refl _))).setCell _ (.inr (Nat.le_refl _))).alloc _

/-- The function value g makes a stream that gives l and ends as E says. -/
def SecIs (C : Nat → Prop) (w : World) (g : Value) (l : List IV) (E : Fin1) : Prop :=
  ∃ K cap, g = .func (.func K) #[] cap ∧ Enters Tryz.prog K ∧ (∀ k, C k → k < w.heap.size) ∧
    ∀ w', SameOn C w w' → w.heap.size ≤ w'.heap.size → Calls Tryz.prog K cap w' fun e w'' => Below w'.heap.size w' w'' ∧
      ∃ f F D, e = .returned f ∧ Str l E F D w'' f ∧ (∀ k, F k → C k ∨ w'.heap.size ≤ k) ∧ (∀ k, D k → w'.heap.size ≤ k)
theorem SecIs.move {C : Nat → Prop} {w w1 : World} {g : Value} {l : List IV} {E : Fin1} (h : SecIs C w g l E) (hs : SameOn C w w1) (hl : w.heap.size ≤ w1.heap.size) : SecIs C w1 g l E := by
  obtain ⟨K, cap, e, hE, hC, h⟩ := h
  exact ⟨K, cap, e, hE, fun k hk => Nat.lt_of_lt_of_le (hC k hk) hl, fun w' hs' hl' => h w' (hs.trans hs') (Nat.le_trans hl hl')⟩

theorem sec_free {C F : Nat → Prop} {rb vb n : Nat} (hFC : ∀ k, F k → C k ∨ n ≤ k) (hrC : ¬ C rb) (hvC : ¬ C vb) (h1 : rb < n) (h2 : vb < n) : ∀ k, F k → ¬ (k = rb ∨ k = vb) := by
  intro k hk e
  rcases hFC _ hk with h | h
  · rcases e with rfl | rfl
    · exact hrC h
    · exact hvC h
  · omega
theorem sec_new {D : Nat → Prop} {m n : Nat} (h : ∀ k, D k → m ≤ k) (hm : n < m) : ∀ k, D k → n < k := fun k hk => by have := h k hk; omega

set_option maxHeartbeats 1000000 in
theorem behind1_second {w : World} {rb vb sb : Nat} {f g : Value} {y : IV} {l : List IV} {E : Fin1} {Fo Do C : Nat → Prop} (hr : Box w rb f 66) (hv : Box w vb (.bool false) 4) (hb : Box w sb g 76) (hS : Str [] .none Fo Do w f) (hT : SecIs C w g (y :: l) E) (hrD : ¬ Do rb) (hvD : ¬ Do vb) (hbD : ¬ Do sb) (hCD : ∀ k, C k → ¬ Do k) (hrC : ¬ C rb) (hvC : ¬ C vb) (hrv : rb ≠ vb) :
    Calls Tryz.prog 41 #[.pointer (some ⟨rb, 0, none⟩), .pointer (some ⟨vb, 0, none⟩), .pointer (some ⟨sb, 0, none⟩)] w fun e w' => Fr (fun k => Do k ∨ k = rb ∨ k = vb) w w' ∧ e = .returned (.tuple #[.agg #[iv y, .pointer none], .bool true]) ∧
      ∃ f F D, Box w' rb f 66 ∧ Box w' vb (.bool true) 4 ∧ Str l E F D w' f ∧ (∀ k, F k → C k ∨ w.heap.size < k) ∧ (∀ k, D k → w.heap.size < k) := by
  have h0 := hr.cell
  have h2 := hr.lt
  have h3 := hv.lt
  have h4 := hb.lt
  obtain ⟨K, cap, rfl, hE, hF, hD, h⟩ := hS
  obtain ⟨K2, cap2, rfl, hE2, hC, h'⟩ := hT
  have hE' : ∀ (args : Array Value) (w : World), (callFunc K args).run Tryz.prog w = .ok (.enter K args) w := hE
  have hE2' : ∀ (args : Array Value) (w : World), (callFunc K2 args).run Tryz.prog w = .ok (.enter K2 args) w := hE2
  simp only [Ends1] at h
  obtain ⟨T', u'⟩ := y
  go_enter Tryz.func41, Tryz.ntmps41
  go_wp2_with (first
    | (go_at_fn K; refine (h _ (fun k hk => Below.heap_alloc _ _ _ (hF k hk)) (by simp)).mono ?_; rintro e w1 ⟨k1, rfl⟩; have q : SpotBox w1 w.heap.size .nilIface := (SpotBox.new w .nilIface).same (k1.block _ (by simp) (new_not hF hD)); obtain ⟨q0, q1, q2, q3, q4⟩ := q.facts; have hR : Fr Do w w1 := ((Fr.refl Do w).alloc _).trans k1 (fun _ _ e => e); have t0 := (hv.same (hR.block _ h3 hvD)).cell; have t1 : vb < w1.heap.size := (by omega); have t2 := (hb.same (hR.block _ h4 hbD)).cell; have t3 : sb < w1.heap.size := by omega)
    | (go_at_fn K2; refine (h' _ (fun k hk => (Below.heap_alloc _ _ _ (Nat.lt_of_lt_of_le (hC k hk) hR.size)).trans (hR.block k (hC k hk) (hCD k hk))) (by simp; omega)).mono ?_; rintro e w2 ⟨k2, f, F, D, rfl, hS, hFC, hDn⟩; obtain ⟨K3, cap3, rfl⟩ := hS.shape; have hl2 : w1.heap.size + 1 ≤ w2.heap.size := (by simpa using k2.size); have hR2 : Fr Do w w2 := (hR.alloc _).trans (Fr.of_below (D := fun _ => False) k2) (fun _ _ e => e.elim); have i2 := hr.same (hR2.block _ h2 hrD); have i20 := i2.cell; have i21 := i2.free; have i22 := i2.lt; have j2 := hv.same (hR2.block _ h3 hvD); have j20 := j2.cell; have j21 := j2.free; have j22 := j2.lt; have r : SpotBox w2 w.heap.size .nilIface := (q.alloc _).same (k2.block _ (by simp; omega)); have k3 : Fr (fun k => k = rb ∨ k = vb) w2 ((w2.setCell ⟨rb, 0, none⟩ (.func (.func K3) #[] cap3)).setCell ⟨vb, 0, none⟩ (.bool true)) := ((Fr.refl (fun k => k = rb ∨ k = vb) w2).setCell _ (.inl (.inl rfl))).setCell _ (.inl (.inr rfl)); have r' := r.same (k3.block _ r.lt (by omega)); have i3 : Box ((w2.setCell ⟨rb, 0, none⟩ (.func (.func K3) #[] cap3)).setCell ⟨vb, 0, none⟩ (.bool true)) rb (.func (.func K3) #[] cap3) 66 := (i2.set _).same (Below.heap_setCell _ _ _ _ (by simpa using hrv)); have i30 := i3.cell; have hS3 := hS.after k3 (sec_free hFC hrC hvC (by simp; omega) (by simp; omega)); obtain ⟨K3', cap3', ef, hE3, hF3, hD3, h3'⟩ := hS3; obtain ⟨rfl, rfl⟩ : K3 = K3' ∧ cap3 = cap3' := (by simpa using ef); have hE3' : ∀ (args : Array Value) (w : World), (callFunc K3 args).run Tryz.prog w = .ok (.enter K3 args) w := hE3)
    | (go_at_fn K3; refine (h3' _ (SameOn.refl _ _) (Nat.le_refl _)).mono ?_; simp only [iv]; rintro e w4 ⟨k4, rfl, F', D', hF', hD', hS'⟩; have hDs := sec_new hDn (n := w1.heap.size) (by simp); have v : SpotBox w4 w.heap.size .nilIface := r'.same (k4.block _ r'.lt (fun e => by have := hDs _ e; omega)); obtain ⟨v0, v1, v2, v3, v4⟩ := v.facts))
  have hR3 : Fr (fun k => Do k ∨ k = rb ∨ k = vb) w w4 := ((hR2.mono (fun k hk => .inl hk)).trans k3 (fun i hi e => .inr e)).trans k4 (fun i hi e => by have := hDs _ e; omega)
  have hend : Fr (fun k => k = w.heap.size) w4 ((w4.setCell ⟨w.heap.size, 0, none⟩ (.iface T' u')).setCell ⟨w.heap.size, 1, none⟩ (.pointer none)) := ((Fr.refl (fun k => k = w.heap.size) w4).setCell _ (.inl rfl)).setCell _ (.inl rfl)
  have hl3 : w2.heap.size ≤ ((w2.setCell ⟨rb, 0, none⟩ (.func (.func K3) #[] cap3)).setCell ⟨vb, 0, none⟩ (.bool true)).heap.size := k3.size
  have hl4 := k4.size
  have j3 : Box ((w2.setCell ⟨rb, 0, none⟩ (.func (.func K3) #[] cap3)).setCell ⟨vb, 0, none⟩ (.bool true)) vb (.bool true) 4 := (j2.same (Below.heap_setCell _ _ _ _ (by simpa using hrv.symm))).set _
  refine bodyPost_ret (v := .tuple #[.agg #[.iface T' u', .pointer none], .bool true]) (by simp [results, Tryz.results41, go_sem, v4, v0, v1]) rfl ⟨?_, rfl, _, F', D', (i3.same (k4.block _ i3.lt (fun e => by have := hDs _ e; omega))).same (hend.block _ (by have := i3.lt; omega) (by omega)), (j3.same (k4.block _ j3.lt (fun e => by have := hDs _ e; omega))).same (hend.block _ (by have := j3.lt; omega) (by omega)), ?_, ?_, ?_⟩
  · exact hR3.trans hend (fun i hi e => by omega)
  · refine hS'.after hend ?_
    intro k hk e
    rcases hF' k hk with h | h
    · rcases hFC k h with h | h
      · have := hC k h; omega
      · simp at h; omega
    · omega
  · intro k hk
    rcases hF' k hk with h | h
    · rcases hFC k h with h | h
      · exact .inl h
      · simp at h; exact .inr (by omega)
    · exact .inr (by omega)
  · intro k hk
    rcases hD' k hk with h | h
    · have := hDs k h; omega
    · omega

set_option maxHeartbeats 1000000 in
theorem behind1_second_throws {w : World} {rb vb sb : Nat} {f g : Value} {y : IV} {Fo Do C : Nat → Prop} (hr : Box w rb f 66) (hv : Box w vb (.bool false) 4) (hb : Box w sb g 76) (hS : Str [] .none Fo Do w f) (hT : SecIs C w g [] (.some y)) (hrD : ¬ Do rb) (hvD : ¬ Do vb) (hbD : ¬ Do sb) (hCD : ∀ k, C k → ¬ Do k) (hrC : ¬ C rb) (hvC : ¬ C vb) (hrv : rb ≠ vb) :
    Calls Tryz.prog 41 #[.pointer (some ⟨rb, 0, none⟩), .pointer (some ⟨vb, 0, none⟩), .pointer (some ⟨sb, 0, none⟩)] w fun e w' => Fr (fun k => Do k ∨ k = rb ∨ k = vb) w w' ∧ Thrown w.heap.size y e w' := by
  have h0 := hr.cell
  have h2 := hr.lt
  have h3 := hv.lt
  have h4 := hb.lt
  obtain ⟨K, cap, rfl, hE, hF, hD, h⟩ := hS
  obtain ⟨K2, cap2, rfl, hE2, hC, h'⟩ := hT
  have hE' : ∀ (args : Array Value) (w : World), (callFunc K args).run Tryz.prog w = .ok (.enter K args) w := hE
  have hE2' : ∀ (args : Array Value) (w : World), (callFunc K2 args).run Tryz.prog w = .ok (.enter K2 args) w := hE2
  simp only [Ends1] at h
  go_enter Tryz.func41, Tryz.ntmps41
  go_wp2_with (first
    | (go_at_fn K; refine (h _ (fun k hk => Below.heap_alloc _ _ _ (hF k hk)) (by simp)).mono ?_; rintro e w1 ⟨k1, rfl⟩; have q : SpotBox w1 w.heap.size .nilIface := (SpotBox.new w .nilIface).same (k1.block _ (by simp) (new_not hF hD)); obtain ⟨q0, q1, q2, q3, q4⟩ := q.facts; have hR : Fr Do w w1 := ((Fr.refl Do w).alloc _).trans k1 (fun _ _ e => e); have t0 := (hv.same (hR.block _ h3 hvD)).cell; have t1 : vb < w1.heap.size := (by omega); have t2 := (hb.same (hR.block _ h4 hbD)).cell; have t3 : sb < w1.heap.size := by omega)
    | (go_at_fn K2; refine (h' _ (fun k hk => (Below.heap_alloc _ _ _ (Nat.lt_of_lt_of_le (hC k hk) hR.size)).trans (hR.block k (hC k hk) (hCD k hk))) (by simp; omega)).mono ?_; rintro e w2 ⟨k2, f, F, D, rfl, hS, hFC, hDn⟩; obtain ⟨K3, cap3, rfl⟩ := hS.shape; have hl2 : w1.heap.size + 1 ≤ w2.heap.size := (by simpa using k2.size); have hR2 : Fr Do w w2 := (hR.alloc _).trans (Fr.of_below (D := fun _ => False) k2) (fun _ _ e => e.elim); have i2 := hr.same (hR2.block _ h2 hrD); have i20 := i2.cell; have i21 := i2.free; have i22 := i2.lt; have j2 := hv.same (hR2.block _ h3 hvD); have j20 := j2.cell; have j21 := j2.free; have j22 := j2.lt; have r : SpotBox w2 w.heap.size .nilIface := (q.alloc _).same (k2.block _ (by simp; omega)); have k3 : Fr (fun k => k = rb ∨ k = vb) w2 ((w2.setCell ⟨rb, 0, none⟩ (.func (.func K3) #[] cap3)).setCell ⟨vb, 0, none⟩ (.bool true)) := ((Fr.refl (fun k => k = rb ∨ k = vb) w2).setCell _ (.inl (.inl rfl))).setCell _ (.inl (.inr rfl)); have r' := r.same (k3.block _ r.lt (by omega)); have i3 : Box ((w2.setCell ⟨rb, 0, none⟩ (.func (.func K3) #[] cap3)).setCell ⟨vb, 0, none⟩ (.bool true)) rb (.func (.func K3) #[] cap3) 66 := (i2.set _).same (Below.heap_setCell _ _ _ _ (by simpa using hrv)); have i30 := i3.cell; have hS3 := hS.after k3 (sec_free hFC hrC hvC (by simp; omega) (by simp; omega)); obtain ⟨K3', cap3', ef, hE3, hF3, hD3, h3'⟩ := hS3; obtain ⟨rfl, rfl⟩ : K3 = K3' ∧ cap3 = cap3' := (by simpa using ef); have hE3' : ∀ (args : Array Value) (w : World), (callFunc K3 args).run Tryz.prog w = .ok (.enter K3 args) w := hE3)
    | (go_at_fn K3; refine (h3' _ (SameOn.refl _ _) (Nat.le_refl _)).mono ?_; simp only [Ends1]; rintro e w4 ⟨k4, b, hb', rfl, hc⟩; have hDs := sec_new hDn (n := w1.heap.size) (by simp)))
  have hR3 : Fr (fun k => Do k ∨ k = rb ∨ k = vb) w w4 := ((hR2.mono (fun k hk => .inl hk)).trans k3 (fun i hi e => .inr e)).trans k4 (fun i hi e => by have := hDs _ e; omega)
  have hl3 : w2.heap.size ≤ ((w2.setCell ⟨rb, 0, none⟩ (.func (.func K3) #[] cap3)).setCell ⟨vb, 0, none⟩ (.bool true)).heap.size := k3.size
  exact ⟨rfl, hR3, b, by omega, rfl, hc⟩

end Go.Proofs.Tryz

namespace Go.Proofs.Tryz
open Go.RowKit
set_option maxRecDepth 10000

/-- In the second one. -/
theorem behind_B {E : Fin1} {rb vb sb : Nat} {f : Value} : ∀ {l : List IV} {w : World} {F D : Nat → Prop}, Box w rb f 66 → Box w vb (.bool true) 4 → Str l E F D w f → ¬ D rb → ¬ D vb →
    Str l E (fun k => F k ∨ k = rb ∨ k = vb) D w (.func (.func 41) #[] #[.pointer (some ⟨rb, 0, none⟩), .pointer (some ⟨vb, 0, none⟩), .pointer (some ⟨sb, 0, none⟩)])
  | [], w, F, D, hr, hv, hS, hrD, hvD => by
    refine ⟨_, _, rfl, enters_behind1, ?_, fun k hk => .inl (hS.sub k hk), ?_⟩
    · rintro k (hk | rfl | rfl)
      · exact hS.lt k hk
      · exact hr.lt
      · exact hv.lt
    intro w1 hs hl
    have hr1 : Box w1 rb f 66 := hr.same (hs _ (by simp))
    have hv1 : Box w1 vb (.bool true) 4 := hv.same (hs _ (by simp))
    have hS1 := hS.move (fun k hk => hs k (.inl hk)) hl
    cases E with
    | none => exact behind1_over hr1 hv1 hvD hS1
    | some v => exact behind1_thrown hr1 hS1
  | y :: l, w, F, D, hr, hv, hS, hrD, hvD => by
    refine ⟨_, _, rfl, enters_behind1, ?_, fun k hk => .inl (hS.sub k hk), ?_⟩
    · rintro k (hk | rfl | rfl)
      · exact hS.lt k hk
      · exact hr.lt
      · exact hv.lt
    intro w1 hs hl
    have hr1 : Box w1 rb f 66 := hr.same (hs _ (by simp))
    have hv1 : Box w1 vb (.bool true) 4 := hv.same (hs _ (by simp))
    have hS1 := hS.move (fun k hk => hs k (.inl hk)) hl
    refine (behind1_some hr1 hS1).mono ?_
    rintro e w2 ⟨k2, rfl, F', D', hF', hD', hS'⟩
    refine ⟨k2, rfl, _, D', ?_, ?_, behind_B (l := l) (hr1.same (k2.block _ hr1.lt hrD)) (hv1.same (k2.block _ hv1.lt hvD)) hS' ?_ ?_⟩
    · rintro k (hk | rfl | rfl)
      · rcases hF' k hk with h | h
        · exact .inl (.inl h)
        · exact .inr (by omega)
      · exact .inl (by simp)
      · exact .inl (by simp)
    · intro k hk
      rcases hD' k hk with h | h
      · exact .inl h
      · exact .inr (by omega)
    · intro e
      rcases hD' _ e with h | h
      · exact hrD h
      · have := hr1.lt; omega
    · intro e
      rcases hD' _ e with h | h
      · exact hvD h
      · have := hv1.lt; omega

/-- What the second one comes to: values, or an error at once. -/
def SomeOrThrown (l : List IV) (E : Fin1) : Prop := l ≠ [] ∨ ∃ y, E = .some y

theorem behind_A {E : Fin1} {rb vb sb : Nat} {f g : Value} {l2 : List IV} {C : Nat → Prop} (hso : SomeOrThrown l2 E) (hrv : rb ≠ vb) (hrC : ¬ C rb) (hvC : ¬ C vb) : ∀ {l : List IV} {w : World} {F D : Nat → Prop}, Box w rb f 66 → Box w vb (.bool false) 4 → Box w sb g 76 → Str l .none F D w f → (∀ k, C k → k < w.heap.size) → SecIs C w g l2 E → ¬ D rb → ¬ D vb → ¬ D sb → (∀ k, C k → ¬ D k) →
    Str (l ++ l2) E (fun k => F k ∨ C k ∨ k = rb ∨ k = vb ∨ k = sb) (fun k => D k ∨ k = rb ∨ k = vb) w (.func (.func 41) #[] #[.pointer (some ⟨rb, 0, none⟩), .pointer (some ⟨vb, 0, none⟩), .pointer (some ⟨sb, 0, none⟩)])
  | [], w, F, D, hr, hv, hb, hS, hC, hT, hrD, hvD, hbD, hCD => by
    have hlt : ∀ k, (F k ∨ C k ∨ k = rb ∨ k = vb ∨ k = sb) → k < w.heap.size := by
      rintro k (hk | hk | rfl | rfl | rfl)
      · exact hS.lt k hk
      · exact hC k hk
      · exact hr.lt
      · exact hv.lt
      · exact hb.lt
    have hsub : ∀ k, (D k ∨ k = rb ∨ k = vb) → (F k ∨ C k ∨ k = rb ∨ k = vb ∨ k = sb) := by
      rintro k (hk | rfl | rfl)
      · exact .inl (hS.sub k hk)
      · simp
      · simp
    cases l2 with
    | nil =>
      rcases hso with h | ⟨y, rfl⟩
      · exact absurd rfl h
      refine ⟨_, _, rfl, enters_behind1, hlt, hsub, ?_⟩
      intro w1 hs hl
      exact behind1_second_throws (hr.same (hs _ (by simp))) (hv.same (hs _ (by simp))) (hb.same (hs _ (by simp))) (hS.move (fun k hk => hs k (.inl hk)) hl) (hT.move (fun k hk => hs k (.inr (.inl hk))) hl) hrD hvD hbD hCD hrC hvC hrv
    | cons y l2 =>
      refine ⟨_, _, rfl, enters_behind1, hlt, hsub, ?_⟩
      intro w1 hs hl
      have hr1 : Box w1 rb f 66 := hr.same (hs _ (by simp))
      have hv1 : Box w1 vb (.bool false) 4 := hv.same (hs _ (by simp))
      refine (behind1_second hr1 hv1 (hb.same (hs _ (by simp))) (hS.move (fun k hk => hs k (.inl hk)) hl) (hT.move (fun k hk => hs k (.inr (.inl hk))) hl) hrD hvD hbD hCD hrC hvC hrv).mono ?_
      rintro e w2 ⟨k2, rfl, f2, F2, D2, hr2, hv2, hS2, hF2, hD2⟩
      refine ⟨k2, rfl, _, D2, ?_, ?_, behind_B (l := l2) hr2 hv2 hS2 (fun e => by have := hD2 _ e; have := hr1.lt; omega) (fun e => by have := hD2 _ e; have := hv1.lt; omega)⟩
      · rintro k (hk | rfl | rfl)
        · rcases hF2 k hk with h | h
          · exact .inl (.inr (.inl h))
          · exact .inr (by omega)
        · exact .inl (by simp)
        · exact .inl (by simp)
      · intro k hk
        exact .inr (by have := hD2 k hk; omega)
  | y :: l, w, F, D, hr, hv, hb, hS, hC, hT, hrD, hvD, hbD, hCD => by
    have hlt : ∀ k, (F k ∨ C k ∨ k = rb ∨ k = vb ∨ k = sb) → k < w.heap.size := by
      rintro k (hk | hk | rfl | rfl | rfl)
      · exact hS.lt k hk
      · exact hC k hk
      · exact hr.lt
      · exact hv.lt
      · exact hb.lt
    have hsub : ∀ k, (D k ∨ k = rb ∨ k = vb) → (F k ∨ C k ∨ k = rb ∨ k = vb ∨ k = sb) := by
      rintro k (hk | rfl | rfl)
      · exact .inl (hS.sub k hk)
      · simp
      · simp
    refine ⟨_, _, rfl, enters_behind1, hlt, hsub, ?_⟩
    intro w1 hs hl
    have hr1 : Box w1 rb f 66 := hr.same (hs _ (by simp))
    have hv1 : Box w1 vb (.bool false) 4 := hv.same (hs _ (by simp))
    have hb1 : Box w1 sb g 76 := hb.same (hs _ (by simp))
    have hC1 : ∀ k, C k → k < w1.heap.size := fun k hk => Nat.lt_of_lt_of_le (hC k hk) hl
    refine (behind1_some hr1 (hS.move (fun k hk => hs k (.inl hk)) hl)).mono ?_
    rintro e w2 ⟨k2, rfl, F', D', hF', hD', hS'⟩
    have hn : ∀ k, k < w1.heap.size → ¬ D k → ¬ D' k := fun k hk hd e => by
      rcases hD' k e with h | h
      · exact hd h
      · omega
    refine ⟨k2.mono (fun k hk => .inl hk), rfl, _, _, ?_, ?_, behind_A hso hrv hrC hvC (l := l) (hr1.same (k2.block _ hr1.lt hrD)) (hv1.same (k2.block _ hv1.lt hvD)) (hb1.same (k2.block _ hb1.lt hbD)) hS' (fun k hk => Nat.lt_of_lt_of_le (hC1 k hk) k2.size) ((hT.move (fun k hk => hs k (.inr (.inl hk))) hl).move (k2.same hC1 hCD) k2.size) (hn _ hr1.lt hrD) (hn _ hv1.lt hvD) (hn _ hb1.lt hbD) (fun k hk => hn k (hC1 k hk) (hCD k hk))⟩
    · rintro k (hk | hk | rfl | rfl | rfl)
      · rcases hF' k hk with h | h
        · exact .inl (.inl h)
        · exact .inr (by omega)
      · exact .inl (by simp [hk])
      · exact .inl (by simp)
      · exact .inl (by simp)
      · exact .inl (by simp)
    · rintro k (hk | rfl | rfl)
      · rcases hD' k hk with h | h
        · exact .inl (.inl h)
        · exact .inr (by omega)
      · exact .inl (by simp)
      · exact .inl (by simp)

set_option maxHeartbeats 400000 in
theorem behind_made {w : World} {K K2 : Nat} {cap cap2 : Array Value} : Calls Tryz.prog 18 #[.func (.func K) #[] cap, .func (.func K2) #[] cap2] w fun e w' => e = .returned (.func (.func 41) #[] #[.pointer (some ⟨w.heap.size + 1, 0, none⟩), .pointer (some ⟨w.heap.size + 2, 0, none⟩), .pointer (some ⟨w.heap.size, 0, none⟩)]) ∧ Below w.heap.size w w' ∧ Box w' (w.heap.size + 1) (.func (.func K) #[] cap) 66 ∧ Box w' w.heap.size (.func (.func K2) #[] cap2) 76 ∧ Box w' (w.heap.size + 2) (.bool false) 4 := by
  go_enter Tryz.func18, Tryz.ntmps18
  go_wp2
  go_ret
  exact ⟨rfl, below_alloc3 w _ _ _, heap_at2 w _ _ _, heap_at1 w _ _ _, heap_new3 w _ _ _⟩

theorem behind_ok {E : Fin1} {f g : Value} {l l2 : List IV} {w : World} {C F D : Nat → Prop} (hso : SomeOrThrown l2 E) (hS : Str l .none F D w f) (hC : ∀ k, C k → k < w.heap.size) (hT : SecIs C w g l2 E) (hCD : ∀ k, C k → ¬ D k) :
    Calls Tryz.prog 18 #[f, g] w fun e w' => Below w.heap.size w w' ∧ ∃ r F' D', e = .returned r ∧ Str (l ++ l2) E F' D' w' r ∧ (∀ k, F' k → F k ∨ C k ∨ w.heap.size ≤ k) ∧ (∀ k, D' k → D k ∨ w.heap.size ≤ k) := by
  obtain ⟨K, cap, rfl⟩ := hS.shape
  have hT' := hT
  obtain ⟨K2, cap2, rfl, _⟩ := hT'
  refine behind_made.mono ?_
  rintro e w1 ⟨rfl, k1, b0, b1, b2⟩
  have hFl := hS.lt
  have hDl : ∀ k, D k → k < w.heap.size := fun k hk => hFl k (hS.sub k hk)
  refine ⟨k1, _, _, _, rfl, behind_A hso (by omega) (fun e => by have := hC _ e; omega) (fun e => by have := hC _ e; omega) b0 b2 b1 (hS.move (fun k hk => k1.block k (hFl k hk)) k1.size) (fun k hk => Nat.lt_of_lt_of_le (hC k hk) k1.size) (hT.move (fun k hk => k1.block k (hC k hk)) k1.size) (fun e => by have := hDl _ e; omega) (fun e => by have := hDl _ e; omega) (fun e => by have := hDl _ e; omega) hCD, ?_, ?_⟩
  · rintro k (hk | hk | rfl | rfl | rfl)
    · exact .inl hk
    · exact .inr (.inl hk)
    · exact .inr (.inr (by omega))
    · exact .inr (.inr (by omega))
    · exact .inr (.inr (by omega))
  · rintro k (hk | rfl | rfl)
    · exact .inl hk
    · exact .inr (by omega)
    · exact .inr (by omega)

end Go.Proofs.Tryz

namespace Go.Proofs.Tryz
open Go.RowKit
set_option maxRecDepth 10000

/-- An array of values in a block from n0 on. -/
def Arr (n0 : Nat) (l : List IV) (w : World) (y : IV) : Prop :=
  ∃ g cap, n0 ≤ g ∧ g < w.heap.size ∧ l.length ≤ cap ∧ cap ≤ maxLen ∧ y = (86, .slice (some ⟨g, 0, none⟩) l.length cap) ∧ ∀ i (h : i < l.length), w.cell? ⟨g, i, none⟩ = some (iv l[i])
theorem Arr.fr {X : Nat → Prop} {n0 : Nat} {l : List IV} {w w' : World} {y : IV} (h : Arr n0 l w y) (k : Fr X w w') (hX : ∀ k, n0 ≤ k → ¬ X k) : Arr n0 l w' y := by
  obtain ⟨g, cap, h1, h2, h3, h4, h5, h6⟩ := h
  exact ⟨g, cap, h1, Nat.lt_of_lt_of_le h2 k.size, h3, h4, h5, fun i hi => (World.cell?_of_block (w := w) (k.block g h2 (hX g h1))).trans (h6 i hi)⟩
theorem Arr.low {n0 n1 : Nat} {l : List IV} {w : World} {y : IV} (h : Arr n0 l w y) (hn : n1 ≤ n0) : Arr n1 l w y := by
  obtain ⟨g, cap, h1, h⟩ := h
  exact ⟨g, cap, Nat.le_trans hn h1, h⟩

/-- The function value g gives an array of l, in a new block. It looks at the blocks of C alone and writes into none. -/
def OutArr (C : Nat → Prop) (w : World) (g : Value) (l : List IV) : Prop :=
  ∃ K cap, g = .func (.func K) #[] cap ∧ Enters Tryz.prog K ∧ (∀ k, C k → k < w.heap.size) ∧
    ∀ w', SameOn C w w' → w.heap.size ≤ w'.heap.size → Calls Tryz.prog K cap w' fun e w'' => Below w'.heap.size w' w'' ∧ ∃ y, e = .returned (iv y) ∧ Arr w'.heap.size l w'' y
theorem OutArr.move {C : Nat → Prop} {w w1 : World} {g : Value} {l : List IV} (h : OutArr C w g l) (hs : SameOn C w w1) (hl : w.heap.size ≤ w1.heap.size) : OutArr C w1 g l := by
  obtain ⟨K, cap, e, hE, hC, h⟩ := h
  exact ⟨K, cap, e, hE, fun k hk => Nat.lt_of_lt_of_le (hC k hk) hl, fun w' hs' hl' => h w' (hs.trans hs') (Nat.le_trans hl hl')⟩

/-- A stream that gives an array of l in a new block, and then is done. -/
def StrArr (l : List IV) (F D : Nat → Prop) (w : World) (f : Value) : Prop :=
  ∃ K cap, f = .func (.func K) #[] cap ∧ Enters Tryz.prog K ∧ (∀ k, F k → k < w.heap.size) ∧ (∀ k, D k → F k) ∧
      ∀ w', SameOn F w w' → w.heap.size ≤ w'.heap.size → Calls Tryz.prog K cap w' fun e w'' => Fr D w' w'' ∧
        ∃ y, e = .returned (.tuple #[.agg #[iv y, .pointer none], .bool true]) ∧ Arr w'.heap.size l w'' y ∧
        ∃ F' D', (∀ k, F' k → F k ∨ w'.heap.size ≤ k) ∧ (∀ k, D' k → D k ∨ w'.heap.size ≤ k) ∧ Str [] .none F' D' w'' f
theorem StrArr.shape {l : List IV} {F D : Nat → Prop} {w : World} {f : Value} (h : StrArr l F D w f) : ∃ K cap, f = .func (.func K) #[] cap := by
  obtain ⟨K, cap, h, _⟩ := h; exact ⟨K, cap, h⟩
theorem StrArr.lt {l : List IV} {F D : Nat → Prop} {w : World} {f : Value} (h : StrArr l F D w f) : ∀ k, F k → k < w.heap.size := by
  obtain ⟨_, _, _, _, h, _⟩ := h; exact h
theorem StrArr.move {l : List IV} {F D : Nat → Prop} {w w1 : World} {f : Value} (h : StrArr l F D w f) (hs : SameOn F w w1) (hl : w.heap.size ≤ w1.heap.size) : StrArr l F D w1 f := by
  obtain ⟨K, cap, hf, hE, hF, hD, h⟩ := h
  exact ⟨K, cap, hf, hE, fun k hk => Nat.lt_of_lt_of_le (hF k hk) hl, hD, fun w' hs' hl' => h w' (hs.trans hs') (Nat.le_trans hl hl')⟩

theorem enters_worked1 : Enters Tryz.prog 167 := enters_of Tryz.func167 (by kernel_rfl) rfl
set_option maxHeartbeats 400000 in
theorem worked1_given {w : World} {g s : Nat} (hg : Box w g (.bool true) 4) : Calls Tryz.prog 167 #[.pointer (some ⟨g, 0, none⟩), .pointer (some ⟨s, 0, none⟩)] w fun e w' => e = .returned (.tuple #[.agg #[.nilIface, .pointer none], .bool false]) ∧ Below w.heap.size w w' := by
  have h0 := hg.cell
  have h2 := hg.lt
  go_enter Tryz.func167, Tryz.ntmps167
  go_wp2_with (go_at_call 19; refine (none_calls _).mono ?_; rintro e w1 ⟨rfl, k1⟩; have q : SpotBox w1 w.heap.size .nilIface := (SpotBox.new w .nilIface).same (k1.block _ (by simp)); obtain ⟨q0, q1, q2, q3, q4⟩ := q.facts)
  exact bodyPost_ret (v := .tuple #[.agg #[.nilIface, .pointer none], .bool false]) (by simp [results, Tryz.results167, go_sem, q4, q0, q1]) rfl ⟨rfl, ((((below_alloc _ _).trans (k1.mono (by simp))).setCell (by simp) _).setCell (by simp) _)⟩
set_option maxHeartbeats 400000 in
theorem worked1_first {w : World} {g s : Nat} {f : Value} {l : List IV} {C : Nat → Prop} (hg : Box w g (.bool false) 4) (hs : Box w s f 92) (hT : OutArr C w f l) (hgC : ¬ C g) (hgs : s ≠ g) : Calls Tryz.prog 167 #[.pointer (some ⟨g, 0, none⟩), .pointer (some ⟨s, 0, none⟩)] w fun e w' => Fr (· = g) w w' ∧ ∃ y, e = .returned (.tuple #[.agg #[iv y, .pointer none], .bool true]) ∧ Arr (w.heap.size + 1) l w' y ∧ Box w' g (.bool true) 4 := by
  have h0 := hg.cell
  have h1 := hg.free
  have h2 := hg.lt
  have h3 := hs.cell
  have h4 := hs.lt
  obtain ⟨K, cap, rfl, hE, hC, h⟩ := hT
  have hE' : ∀ (args : Array Value) (w : World), (callFunc K args).run Tryz.prog w = .ok (.enter K args) w := hE
  have k0 : Fr (· = g) w ((w.setCell ⟨g, 0, none⟩ (.bool true)).alloc (.cells #[.nilIface, .pointer none] 75)) := ((Fr.refl (· = g) w).setCell _ (.inl rfl)).alloc _
  have hb : SpotBox ((w.setCell ⟨g, 0, none⟩ (.bool true)).alloc (.cells #[.nilIface, .pointer none] 75)) w.heap.size .nilIface := by
    have := SpotBox.new (w.setCell ⟨g, 0, none⟩ (.bool true)) .nilIface
    simpa using this
  have hg0 : Box ((w.setCell ⟨g, 0, none⟩ (.bool true)).alloc (.cells #[.nilIface, .pointer none] 75)) g (.bool true) 4 := (hg.set _).same (Below.heap_alloc _ _ _ (by simpa using h2))
  have hl0 : ((w.setCell ⟨g, 0, none⟩ (.bool true)).alloc (.cells #[.nilIface, .pointer none] 75)).heap.size = w.heap.size + 1 := by simp
  go_enter Tryz.func167, Tryz.ntmps167
  go_wp2_with (go_at_fn K; refine (h _ (fun k hk => k0.block k (hC k hk) (fun e => hgC (e ▸ hk))) k0.size).mono ?_; rintro e w1 ⟨k1, ⟨T, u⟩, rfl, ha⟩; simp only [iv]; have q : SpotBox w1 w.heap.size .nilIface := hb.same (k1.block _ hb.lt); obtain ⟨q0, q1, q2, q3, q4⟩ := q.facts)
  have hend : Fr (· = w.heap.size) w1 ((w1.setCell ⟨w.heap.size, 0, none⟩ (.iface T u)).setCell ⟨w.heap.size, 1, none⟩ (.pointer none)) := ((Fr.refl (· = w.heap.size) w1).setCell _ (.inl rfl)).setCell _ (.inl rfl)
  refine bodyPost_ret (v := .tuple #[.agg #[.iface T u, .pointer none], .bool true]) (by simp [results, Tryz.results167, go_sem, q4, q0, q1]) rfl ⟨?_, (T, u), rfl, ?_, ?_⟩
  · exact (k0.trans (Fr.of_below (D := fun _ => False) k1) (fun _ _ e => e.elim)).trans hend (fun i hi e => by omega)
  · rw [hl0] at ha
    exact ha.fr hend (fun k hk e => by omega)
  · exact (hg0.same (k1.block _ hg0.lt)).same (hend.block _ (by have := hg0.lt; have := k1.size; omega) (by omega))

set_option maxHeartbeats 400000 in
theorem worked_ok {w : World} {f : Value} {l : List IV} {C : Nat → Prop} (hT : OutArr C w f l) : Calls Tryz.prog 122 #[f] w fun e w' => Below w.heap.size w w' ∧ ∃ r F D, e = .returned r ∧ StrArr l F D w' r ∧ (∀ k, F k → C k ∨ w.heap.size ≤ k) ∧ (∀ k, D k → w.heap.size ≤ k) := by
  have hT' := hT
  obtain ⟨K, cap, rfl, _, hC, _⟩ := hT'
  go_enter Tryz.func122, Tryz.ntmps122
  go_wp2
  go_ret
  have b0 : Box ((w.alloc (.cells #[.func (.func K) #[] cap] 92)).alloc (.cells #[.bool false] 4)) w.heap.size (.func (.func K) #[] cap) 92 := (Box.new w _ _).same (Below.heap_alloc _ _ _ (by simp))
  have b1 : Box ((w.alloc (.cells #[.func (.func K) #[] cap] 92)).alloc (.cells #[.bool false] 4)) (w.heap.size + 1) (.bool false) 4 := heap_new2' w _ _
  refine ⟨below_alloc2 w _ _, _, fun k => C k ∨ k = w.heap.size ∨ k = w.heap.size + 1, fun k => k = w.heap.size + 1, rfl, ?_, ?_, by intro k hk; omega⟩
  · refine ⟨_, _, rfl, enters_worked1, ?_, fun k hk => .inr (.inr hk), ?_⟩
    · rintro k (hk | rfl | rfl)
      · have := hC k hk; simp; omega
      · exact b0.lt
      · exact b1.lt
    intro w1 hs hl
    have c1 : Box w1 (w.heap.size + 1) (.bool false) 4 := b1.same (hs _ (by simp))
    refine (worked1_first c1 (b0.same (hs _ (by simp))) ((hT.move (fun k hk => (below_alloc2 w _ _).block k (hC k hk)) (below_alloc2 w _ _).size).move (fun k hk => hs k (.inl hk)) hl) (fun e => by have := hC _ e; omega) (by omega)).mono ?_
    rintro e w2 ⟨k2, y, rfl, ha, hb⟩
    refine ⟨k2, y, rfl, ha.low (by omega), fun k => k = w.heap.size + 1, fun k => k = w.heap.size + 1, fun k hk => .inl (.inr (.inr hk)), fun k hk => .inl hk, ?_⟩
    refine ⟨_, _, rfl, enters_worked1, by intro k hk; subst hk; exact hb.lt, fun k hk => hk, ?_⟩
    intro w3 hs3 hl3
    refine (worked1_given (hb.same (hs3 _ rfl))).mono ?_
    rintro e w4 ⟨rfl, k4⟩
    exact ⟨.of_below k4, rfl⟩
  · rintro k (hk | rfl | rfl)
    · exact .inl hk
    · exact .inr (Nat.le_refl _)
    · exact .inr (by omega)
end Go.Proofs.Tryz

namespace Go.Proofs.Tryz
open Go.RowKit
set_option maxRecDepth 10000

theorem StrArr.after {l : List IV} {F D X : Nat → Prop} {w w1 : World} {f : Value} (h : StrArr l F D w f) (hs : Fr X w w1) (hd : ∀ k, F k → ¬ X k) : StrArr l F D w1 f :=
  h.move (hs.same h.lt hd) hs.size
/-- The function value g makes a stream that gives an array of l in a new block. -/
def SecArr (C : Nat → Prop) (w : World) (g : Value) (l : List IV) : Prop :=
  ∃ K cap, g = .func (.func K) #[] cap ∧ Enters Tryz.prog K ∧ (∀ k, C k → k < w.heap.size) ∧
    ∀ w', SameOn C w w' → w.heap.size ≤ w'.heap.size → Calls Tryz.prog K cap w' fun e w'' => Below w'.heap.size w' w'' ∧
      ∃ f F D, e = .returned f ∧ StrArr l F D w'' f ∧ (∀ k, F k → C k ∨ w'.heap.size ≤ k) ∧ (∀ k, D k → w'.heap.size ≤ k)
theorem SecArr.move {C : Nat → Prop} {w w1 : World} {g : Value} {l : List IV} (h : SecArr C w g l) (hs : SameOn C w w1) (hl : w.heap.size ≤ w1.heap.size) : SecArr C w1 g l := by
  obtain ⟨K, cap, e, hE, hC, h⟩ := h
  exact ⟨K, cap, e, hE, fun k hk => Nat.lt_of_lt_of_le (hC k hk) hl, fun w' hs' hl' => h w' (hs.trans hs') (Nat.le_trans hl hl')⟩

set_option maxHeartbeats 1000000 in
theorem behind1_second_arr {w : World} {rb vb sb : Nat} {f g : Value} {l : List IV} {Fo Do C : Nat → Prop} (hr : Box w rb f 66) (hv : Box w vb (.bool false) 4) (hb : Box w sb g 76) (hS : Str [] .none Fo Do w f) (hT : SecArr C w g l) (hrD : ¬ Do rb) (hvD : ¬ Do vb) (hbD : ¬ Do sb) (hCD : ∀ k, C k → ¬ Do k) (hrC : ¬ C rb) (hvC : ¬ C vb) (hrv : rb ≠ vb) :
    Calls Tryz.prog 41 #[.pointer (some ⟨rb, 0, none⟩), .pointer (some ⟨vb, 0, none⟩), .pointer (some ⟨sb, 0, none⟩)] w fun e w' => Fr (fun k => Do k ∨ k = rb ∨ k = vb) w w' ∧ ∃ y, e = .returned (.tuple #[.agg #[iv y, .pointer none], .bool true]) ∧ Arr (w.heap.size + 1) l w' y ∧
      ∃ f F D, Box w' rb f 66 ∧ Box w' vb (.bool true) 4 ∧ Str [] .none F D w' f ∧ (∀ k, F k → C k ∨ w.heap.size < k) ∧ (∀ k, D k → w.heap.size < k) := by
  have h0 := hr.cell
  have h2 := hr.lt
  have h3 := hv.lt
  have h4 := hb.lt
  obtain ⟨K, cap, rfl, hE, hF, hD, h⟩ := hS
  obtain ⟨K2, cap2, rfl, hE2, hC, h'⟩ := hT
  have hE' : ∀ (args : Array Value) (w : World), (callFunc K args).run Tryz.prog w = .ok (.enter K args) w := hE
  have hE2' : ∀ (args : Array Value) (w : World), (callFunc K2 args).run Tryz.prog w = .ok (.enter K2 args) w := hE2
  simp only [Ends1] at h
  go_enter Tryz.func41, Tryz.ntmps41
  go_wp2_with (first
    | (go_at_fn K; refine (h _ (fun k hk => Below.heap_alloc _ _ _ (hF k hk)) (by simp)).mono ?_; rintro e w1 ⟨k1, rfl⟩; have q : SpotBox w1 w.heap.size .nilIface := (SpotBox.new w .nilIface).same (k1.block _ (by simp) (new_not hF hD)); obtain ⟨q0, q1, q2, q3, q4⟩ := q.facts; have hR : Fr Do w w1 := ((Fr.refl Do w).alloc _).trans k1 (fun _ _ e => e); have t0 := (hv.same (hR.block _ h3 hvD)).cell; have t1 : vb < w1.heap.size := (by omega); have t2 := (hb.same (hR.block _ h4 hbD)).cell; have t3 : sb < w1.heap.size := by omega)
    | (go_at_fn K2; refine (h' _ (fun k hk => (Below.heap_alloc _ _ _ (Nat.lt_of_lt_of_le (hC k hk) hR.size)).trans (hR.block k (hC k hk) (hCD k hk))) (by simp; omega)).mono ?_; rintro e w2 ⟨k2, f, F, D, rfl, hS, hFC, hDn⟩; obtain ⟨K3, cap3, rfl⟩ := hS.shape; have hl2 : w1.heap.size + 1 ≤ w2.heap.size := (by simpa using k2.size); have hR2 : Fr Do w w2 := (hR.alloc _).trans (Fr.of_below (D := fun _ => False) k2) (fun _ _ e => e.elim); have i2 := hr.same (hR2.block _ h2 hrD); have i20 := i2.cell; have i21 := i2.free; have i22 := i2.lt; have j2 := hv.same (hR2.block _ h3 hvD); have j20 := j2.cell; have j21 := j2.free; have j22 := j2.lt; have r : SpotBox w2 w.heap.size .nilIface := (q.alloc _).same (k2.block _ (by simp; omega)); have k3 : Fr (fun k => k = rb ∨ k = vb) w2 ((w2.setCell ⟨rb, 0, none⟩ (.func (.func K3) #[] cap3)).setCell ⟨vb, 0, none⟩ (.bool true)) := ((Fr.refl (fun k => k = rb ∨ k = vb) w2).setCell _ (.inl (.inl rfl))).setCell _ (.inl (.inr rfl)); have r' := r.same (k3.block _ r.lt (by omega)); have i3 : Box ((w2.setCell ⟨rb, 0, none⟩ (.func (.func K3) #[] cap3)).setCell ⟨vb, 0, none⟩ (.bool true)) rb (.func (.func K3) #[] cap3) 66 := (i2.set _).same (Below.heap_setCell _ _ _ _ (by simpa using hrv)); have i30 := i3.cell; have hS3 := hS.after k3 (sec_free hFC hrC hvC (by simp; omega) (by simp; omega)); obtain ⟨K3', cap3', ef, hE3, hF3, hD3, h3'⟩ := hS3; obtain ⟨rfl, rfl⟩ : K3 = K3' ∧ cap3 = cap3' := (by simpa using ef); have hE3' : ∀ (args : Array Value) (w : World), (callFunc K3 args).run Tryz.prog w = .ok (.enter K3 args) w := hE3)
    | (go_at_fn K3; refine (h3' _ (SameOn.refl _ _) (Nat.le_refl _)).mono ?_; rintro e w4 ⟨k4, ⟨T', u'⟩, rfl, ha, F', D', hF', hD', hS'⟩; simp only [iv]; have hDs := sec_new hDn (n := w1.heap.size) (by simp); have v : SpotBox w4 w.heap.size .nilIface := r'.same (k4.block _ r'.lt (fun e => by have := hDs _ e; omega)); obtain ⟨v0, v1, v2, v3, v4⟩ := v.facts))
  have hR3 : Fr (fun k => Do k ∨ k = rb ∨ k = vb) w w4 := ((hR2.mono (fun k hk => .inl hk)).trans k3 (fun i hi e => .inr e)).trans k4 (fun i hi e => by have := hDs _ e; omega)
  have hend : Fr (fun k => k = w.heap.size) w4 ((w4.setCell ⟨w.heap.size, 0, none⟩ (.iface T' u')).setCell ⟨w.heap.size, 1, none⟩ (.pointer none)) := ((Fr.refl (fun k => k = w.heap.size) w4).setCell _ (.inl rfl)).setCell _ (.inl rfl)
  have hl3 : w2.heap.size ≤ ((w2.setCell ⟨rb, 0, none⟩ (.func (.func K3) #[] cap3)).setCell ⟨vb, 0, none⟩ (.bool true)).heap.size := k3.size
  have hl4 := k4.size
  have j3 : Box ((w2.setCell ⟨rb, 0, none⟩ (.func (.func K3) #[] cap3)).setCell ⟨vb, 0, none⟩ (.bool true)) vb (.bool true) 4 := (j2.same (Below.heap_setCell _ _ _ _ (by simpa using hrv.symm))).set _
  have hl3' : w1.heap.size + 1 ≤ ((w2.setCell ⟨rb, 0, none⟩ (.func (.func K3) #[] cap3)).setCell ⟨vb, 0, none⟩ (.bool true)).heap.size := by omega
  refine bodyPost_ret (v := .tuple #[.agg #[.iface T' u', .pointer none], .bool true]) (by simp [results, Tryz.results41, go_sem, v4, v0, v1]) rfl ⟨?_, (T', u'), rfl, (ha.fr hend (fun k hk e => by omega)).low (by omega), _, F', D', (i3.same (k4.block _ i3.lt (fun e => by have := hDs _ e; omega))).same (hend.block _ (by have := i3.lt; omega) (by omega)), (j3.same (k4.block _ j3.lt (fun e => by have := hDs _ e; omega))).same (hend.block _ (by have := j3.lt; omega) (by omega)), ?_, ?_, ?_⟩
  · exact hR3.trans hend (fun i hi e => by omega)
  · refine hS'.after hend ?_
    intro k hk e
    rcases hF' k hk with h | h
    · rcases hFC k h with h | h
      · have := hC k h; omega
      · simp at h; omega
    · omega
  · intro k hk
    rcases hF' k hk with h | h
    · rcases hFC k h with h | h
      · exact .inl h
      · simp at h; exact .inr (by omega)
    · exact .inr (by omega)
  · intro k hk
    rcases hD' k hk with h | h
    · have := hDs k h; omega
    · omega


theorem behind_arr_ok {f g : Value} {l2 : List IV} {w : World} {C F D : Nat → Prop} (hS : Str [] .none F D w f) (hC : ∀ k, C k → k < w.heap.size) (hT : SecArr C w g l2) (hCD : ∀ k, C k → ¬ D k) :
    Calls Tryz.prog 18 #[f, g] w fun e w' => Below w.heap.size w w' ∧ ∃ r F' D', e = .returned r ∧ StrArr l2 F' D' w' r ∧ (∀ k, F' k → F k ∨ C k ∨ w.heap.size ≤ k) ∧ (∀ k, D' k → D k ∨ w.heap.size ≤ k) := by
  obtain ⟨K, cap, rfl⟩ := hS.shape
  have hT' := hT
  obtain ⟨K2, cap2, rfl, _⟩ := hT'
  refine behind_made.mono ?_
  rintro e w1 ⟨rfl, k1, b0, b1, b2⟩
  have hFl := hS.lt
  have hDl : ∀ k, D k → k < w.heap.size := fun k hk => hFl k (hS.sub k hk)
  have hS1 := hS.move (fun k hk => k1.block k (hFl k hk)) k1.size
  have hT1 := hT.move (fun k hk => k1.block k (hC k hk)) k1.size
  refine ⟨k1, _, (fun k => F k ∨ C k ∨ k = w.heap.size + 1 ∨ k = w.heap.size + 2 ∨ k = w.heap.size), (fun k => D k ∨ k = w.heap.size + 1 ∨ k = w.heap.size + 2), rfl, ?_, ?_, ?_⟩
  · refine ⟨_, _, rfl, enters_behind1, ?_, ?_, ?_⟩
    · rintro k (hk | hk | rfl | rfl | rfl)
      · exact hS1.lt k hk
      · exact Nat.lt_of_lt_of_le (hC k hk) k1.size
      · exact b0.lt
      · exact b2.lt
      · exact b1.lt
    · rintro k (hk | rfl | rfl)
      · exact .inl (hS1.sub k hk)
      · simp
      · simp
    intro w2 hs hl
    have c0 : Box w2 (w.heap.size + 1) _ 66 := b0.same (hs _ (by simp))
    have c2 : Box w2 (w.heap.size + 2) _ 4 := b2.same (hs _ (by simp))
    refine (behind1_second_arr c0 c2 (b1.same (hs _ (by simp))) (hS1.move (fun k hk => hs k (.inl hk)) hl) (hT1.move (fun k hk => hs k (.inr (.inl hk))) hl) (fun e => by have := hDl _ e; omega) (fun e => by have := hDl _ e; omega) (fun e => by have := hDl _ e; omega) hCD (fun e => by have := hC _ e; omega) (fun e => by have := hC _ e; omega) (by omega)).mono ?_
    rintro e w3 ⟨k3, y, rfl, ha, f2, F2, D2, hr2, hv2, hS2, hF2, hD2⟩
    refine ⟨k3, y, rfl, ha.low (by omega), _, D2, ?_, ?_, behind_B (l := []) hr2 hv2 hS2 (fun e => by have := hD2 _ e; have := c0.lt; omega) (fun e => by have := hD2 _ e; have := c2.lt; omega)⟩
    · rintro k (hk | rfl | rfl)
      · rcases hF2 k hk with h | h
        · exact .inl (.inr (.inl h))
        · exact .inr (by omega)
      · exact .inl (by simp)
      · exact .inl (by simp)
    · intro k hk
      exact .inr (by have := hD2 k hk; omega)
  · rintro k (hk | hk | rfl | rfl | rfl)
    · exact .inl hk
    · exact .inr (.inl hk)
    · exact .inr (.inr (by omega))
    · exact .inr (.inr (by omega))
    · exact .inr (.inr (by omega))
  · rintro k (hk | rfl | rfl)
    · exact .inl hk
    · exact .inr (by omega)
    · exact .inr (by omega)
end Go.Proofs.Tryz

