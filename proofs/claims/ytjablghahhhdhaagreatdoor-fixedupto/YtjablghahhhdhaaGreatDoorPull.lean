import Derived.Test.YtjablghahhhdhaaGreatDoorStr8
import Derived.Test.YtjablghahhhdhaaGreatDoorCases
set_option linter.all false
namespace Go.Proofs.Tryz
open Go.RowKit
set_option maxRecDepth 10000

theorem hitEnding (v : Value) (w : World) : Sem.run Tryz.prog (Instr.typeAssert (.iface 80 v) 20 80 true) w = .ok (.tuple #[v, .bool true]) w := ta_hit Tryz.underlying80 v w

theorem two_set0 {w : World} {b : Nat} {x y u : Value} {t : TypeId} (h : w.heap[b]? = some (.cells #[x, y] t (0, 0))) : (w.setCell ⟨b, 0, none⟩ u).heap[b]? = some (.cells #[u, y] t (0, 0)) := by
  have hlt := lt_of_block h
  have h' : w.heap[b] = .cells #[x, y] t (0, 0) := by simpa [Array.getElem?_eq_getElem hlt] using h
  show (w.heap.modify b _)[b]? = _
  rw [Array.getElem?_eq_getElem (by simpa using hlt), Array.getElem_modify_self, h']
  rfl
theorem two_set1 {w : World} {b : Nat} {x y u : Value} {t : TypeId} (h : w.heap[b]? = some (.cells #[x, y] t (0, 0))) : (w.setCell ⟨b, 1, none⟩ u).heap[b]? = some (.cells #[x, u] t (0, 0)) := by
  have hlt := lt_of_block h
  have h' : w.heap[b] = .cells #[x, y] t (0, 0) := by simpa [Array.getElem?_eq_getElem hlt] using h
  show (w.heap.modify b _)[b]? = _
  rw [Array.getElem?_eq_getElem (by simpa using hlt), Array.getElem_modify_self, h']
  rfl
theorem SpotBox.set {w : World} {b : Nat} {v : Value} (h : SpotBox w b v) (u : Value) : SpotBox ((w.setCell ⟨b, 0, none⟩ u).setCell ⟨b, 1, none⟩ (.pointer none)) b u := two_set1 (two_set0 h)

set_option maxHeartbeats 1000000 in
theorem catch_panicking (p b : Nat) (x : Value) (older : List PanicEntry) (w : World) (hc : w.cell? ⟨p, 0, none⟩ = some (.pointer none)) (hz : w.frozen? ⟨p, 0, none⟩ = false) :
    CallsD Tryz.prog 67 #[.pointer (some ⟨p, 0, none⟩)] (.panicking ({ v := .iface 80 (.pointer (some ⟨b, 0, none⟩)), recovered := false } :: older)) w fun e u' w' =>
      e = .returned (.tuple #[]) ∧ u' = .panicking ({ v := .iface 80 (.pointer (some ⟨b, 0, none⟩)), recovered := true } :: older) ∧ w' = w.setCell ⟨p, 0, none⟩ (.pointer (some ⟨b, 0, none⟩)) := by
  have h1 := hitEnding
  refine callsD_of_wpS Tryz.func67 rfl fun c₀ cs hu => ?_
  apply wpS_seq
  apply wpS_region
  simp [wpOpsS, go_sem, recoverD, hu, Tryz.ntmps67, Exit.thenS]
  refine wpS_of_wp ?_
  have e : (#[.pointer (some ⟨p, 0, none⟩)] ++ (Array.replicate 10 undef).setIfInBounds 3 (.iface 80 (.pointer (some ⟨b, 0, none⟩))) : Array Value) = #[.pointer (some ⟨p, 0, none⟩), undef, undef, undef, .iface 80 (.pointer (some ⟨b, 0, none⟩)), undef, undef, undef, undef, undef, undef] := by simp [Array.replicate]
  rw [e]
  go_wp2
  simp [bodyPostS, results, Tryz.results67]

set_option maxHeartbeats 1000000 in
theorem catch_idle (p : Nat) (w : World) :
    CallsD Tryz.prog 67 #[.pointer (some ⟨p, 0, none⟩)] .returning w fun e u' w' => e = .returned (.tuple #[]) ∧ u' = .returning ∧ w' = w := by
  refine callsD_of_wpS Tryz.func67 rfl fun c₀ cs hu => ?_
  apply wpS_seq
  apply wpS_region
  simp [wpOpsS, go_sem, recoverD, hu, Tryz.ntmps67, Exit.thenS]
  refine wpS_of_wp ?_
  have e : (#[.pointer (some ⟨p, 0, none⟩)] ++ (Array.replicate 10 undef).setIfInBounds 3 .nilIface : Array Value) = #[.pointer (some ⟨p, 0, none⟩), undef, undef, undef, .nilIface, undef, undef, undef, undef, undef, undef] := by simp [Array.replicate]
  rw [e]
  go_wp2
  cases c₀
  simp_all [bodyPostS, results, Tryz.results67]

set_option maxHeartbeats 2000000 in
theorem pull_some {w : World} {f : Value} {y : IV} {L : List IV} {E : Fin1} {F D : Nat → Prop} (hS : Str (y :: L) E F D w f) :
    Calls Tryz.prog 24 #[f] w fun e w' => Fr D w w' ∧ e = .returned (.tuple #[.agg #[iv y, .pointer none], .bool true, .pointer none]) ∧ ∃ F' D', (∀ k, F' k → F k ∨ w.heap.size + 1 < k) ∧ (∀ k, D' k → D k ∨ w.heap.size + 1 < k) ∧ Str L E F' D' w' f := by
  have hmf : ∀ (fn : Fn) (first cap : Array Value) (w : World), (Instr.makeFunc fn first cap).run Tryz.prog w = .ok (.func fn first cap) w := fun _ _ _ _ => rfl
  obtain ⟨K, cap, rfl, hE, hF, hD, h⟩ := hS
  have hE' : ∀ (args : Array Value) (w : World), (callFunc K args).run Tryz.prog w = .ok (.enter K args) w := hE
  obtain ⟨T, u⟩ := y
  simp only [iv] at h ⊢
  have n1 : ¬ D w.heap.size := new_not hF hD
  have n2 : ¬ D (w.heap.size + 1) := fun e => by have := hF _ (hD _ e); omega
  go_enter_defers Tryz.func24, Tryz.ntmps24
  go_wp2_with (go_at_fn K; refine (h _ (fun k hk => (below_alloc2 w _ _).block k (hF k hk)) (by simp; omega)).mono ?_; rintro e w1 ⟨k1, rfl, F', D', hF', hD', hS'⟩; have q : SpotBox w1 w.heap.size .nilIface := ((SpotBox.new w .nilIface).alloc _).same (k1.block _ (by simp; omega) n1); obtain ⟨q0, q1, q2, q3, q4⟩ := q.facts; have c : Box w1 (w.heap.size + 1) (.pointer none) 80 := Box.same (heap_new2' w _ _) (k1.block _ (by simp) n2); have c0 := c.cell; have c1 := c.free; have c2 := c.lt)
  refine leaves_cons (f := 67) (args := #[.pointer (some ⟨w.heap.size + 1, 0, none⟩)]) (by simp) (by simp [go_sem]) ?_
  refine (catch_idle (w.heap.size + 1) _).mono ?_
  rintro e u' w'' ⟨rfl, rfl, rfl⟩
  have hend : Fr (fun k => k = w.heap.size ∨ k = w.heap.size + 1) w1 (((((w1.setCell ⟨w.heap.size, 0, none⟩ (.iface T u)).setCell ⟨w.heap.size, 1, none⟩ (.pointer none)).setCell ⟨w.heap.size, 0, none⟩ (.iface T u)).setCell ⟨w.heap.size, 1, none⟩ (.pointer none)).setCell ⟨w.heap.size + 1, 0, none⟩ (.pointer none)) := (((((Fr.refl (fun k => k = w.heap.size ∨ k = w.heap.size + 1) w1).setCell _ (.inl (.inl rfl))).setCell _ (.inl (.inl rfl))).setCell _ (.inl (.inl rfl))).setCell _ (.inl (.inl rfl))).setCell _ (.inl (.inr rfl))
  have qF := ((q.set (.iface T u)).set (.iface T u)).same (Below.heap_setCell _ ⟨w.heap.size + 1, 0, none⟩ (.pointer none) _ (by simp))
  have cF := ((((c.same (Below.heap_setCell _ ⟨w.heap.size, 0, none⟩ (.iface T u) _ (by simp))).same (Below.heap_setCell _ ⟨w.heap.size, 1, none⟩ (.pointer none) _ (by simp))).same (Below.heap_setCell _ ⟨w.heap.size, 0, none⟩ (.iface T u) _ (by simp))).same (Below.heap_setCell _ ⟨w.heap.size, 1, none⟩ (.pointer none) _ (by simp))).set (.pointer none)
  obtain ⟨r0, r1, _, _, r4⟩ := qF.facts
  have r5 := cF.cell
  have hR : Fr D w w1 := (((Fr.refl D w).alloc _).alloc _).trans k1 (fun _ _ e => e)
  refine ⟨.tuple #[.agg #[.iface T u, .pointer none], .bool true, .pointer none], by simp [results, Tryz.results24, go_sem, r0, r1, r5], hR.trans hend (fun i hi e => by omega), rfl, F', D', ?_, ?_, hS'.after hend ?_⟩
  · intro k hk
    rcases hF' k hk with h | h
    · exact .inl h
    · simp at h; exact .inr (by omega)
  · intro k hk
    rcases hD' k hk with h | h
    · exact .inl h
    · simp at h; exact .inr (by omega)
  · intro k hk e
    rcases hF' k hk with h | h
    · have := hF k h; omega
    · simp at h; omega

set_option maxHeartbeats 2000000 in
theorem pull_done {w : World} {f : Value} {F D : Nat → Prop} (hS : Str [] .none F D w f) :
    Calls Tryz.prog 24 #[f] w fun e w' => Fr D w w' ∧ e = .returned (.tuple #[.agg #[.nilIface, .pointer none], .bool false, .pointer none]) := by
  have hmf : ∀ (fn : Fn) (first cap : Array Value) (w : World), (Instr.makeFunc fn first cap).run Tryz.prog w = .ok (.func fn first cap) w := fun _ _ _ _ => rfl
  obtain ⟨K, cap, rfl, hE, hF, hD, h⟩ := hS
  have hE' : ∀ (args : Array Value) (w : World), (callFunc K args).run Tryz.prog w = .ok (.enter K args) w := hE
  simp only [Ends1] at h
  have n1 : ¬ D w.heap.size := new_not hF hD
  have n2 : ¬ D (w.heap.size + 1) := fun e => by have := hF _ (hD _ e); omega
  go_enter_defers Tryz.func24, Tryz.ntmps24
  go_wp2_with (go_at_fn K; refine (h _ (fun k hk => (below_alloc2 w _ _).block k (hF k hk)) (by simp; omega)).mono ?_; rintro e w1 ⟨k1, rfl⟩; have q : SpotBox w1 w.heap.size .nilIface := ((SpotBox.new w .nilIface).alloc _).same (k1.block _ (by simp; omega) n1); obtain ⟨q0, q1, q2, q3, q4⟩ := q.facts; have c : Box w1 (w.heap.size + 1) (.pointer none) 80 := Box.same (heap_new2' w _ _) (k1.block _ (by simp) n2); have c0 := c.cell; have c1 := c.free; have c2 := c.lt)
  refine leaves_cons (f := 67) (args := #[.pointer (some ⟨w.heap.size + 1, 0, none⟩)]) (by simp) (by simp [go_sem]) ?_
  refine (catch_idle (w.heap.size + 1) _).mono ?_
  rintro e u' w'' ⟨rfl, rfl, rfl⟩
  have hend : Fr (fun k => k = w.heap.size ∨ k = w.heap.size + 1) w1 (((((w1.setCell ⟨w.heap.size, 0, none⟩ .nilIface).setCell ⟨w.heap.size, 1, none⟩ (.pointer none)).setCell ⟨w.heap.size, 0, none⟩ .nilIface).setCell ⟨w.heap.size, 1, none⟩ (.pointer none)).setCell ⟨w.heap.size + 1, 0, none⟩ (.pointer none)) := (((((Fr.refl (fun k => k = w.heap.size ∨ k = w.heap.size + 1) w1).setCell _ (.inl (.inl rfl))).setCell _ (.inl (.inl rfl))).setCell _ (.inl (.inl rfl))).setCell _ (.inl (.inl rfl))).setCell _ (.inl (.inr rfl))
  have qF := ((q.set .nilIface).set .nilIface).same (Below.heap_setCell _ ⟨w.heap.size + 1, 0, none⟩ (.pointer none) _ (by simp))
  have cF := ((((c.same (Below.heap_setCell _ ⟨w.heap.size, 0, none⟩ .nilIface _ (by simp))).same (Below.heap_setCell _ ⟨w.heap.size, 1, none⟩ (.pointer none) _ (by simp))).same (Below.heap_setCell _ ⟨w.heap.size, 0, none⟩ .nilIface _ (by simp))).same (Below.heap_setCell _ ⟨w.heap.size, 1, none⟩ (.pointer none) _ (by simp))).set (.pointer none)
  obtain ⟨r0, r1, _, _, r4⟩ := qF.facts
  have r5 := cF.cell
  have hR : Fr D w w1 := (((Fr.refl D w).alloc _).alloc _).trans k1 (fun _ _ e => e)
  exact ⟨.tuple #[.agg #[.nilIface, .pointer none], .bool false, .pointer none], by simp [results, Tryz.results24, go_sem, r0, r1, r5], hR.trans hend (fun i hi e => by omega), rfl⟩

set_option maxHeartbeats 2000000 in
theorem pull_thrown {w : World} {f : Value} {y : IV} {F D : Nat → Prop} (hS : Str [] (.some y) F D w f) :
    Calls Tryz.prog 24 #[f] w fun e w' => Fr D w w' ∧ ∃ b, w.heap.size + 1 < b ∧ e = .returned (.tuple #[.agg #[.nilIface, .pointer none], .bool false, .pointer (some ⟨b, 0, none⟩)]) ∧ w'.heap[b]? = some (.cells #[.int .u8 0, iv y, .pointer none] 157 (0, 0)) := by
  have hmf : ∀ (fn : Fn) (first cap : Array Value) (w : World), (Instr.makeFunc fn first cap).run Tryz.prog w = .ok (.func fn first cap) w := fun _ _ _ _ => rfl
  obtain ⟨K, cap, rfl, hE, hF, hD, h⟩ := hS
  have hE' : ∀ (args : Array Value) (w : World), (callFunc K args).run Tryz.prog w = .ok (.enter K args) w := hE
  simp only [Ends1] at h
  have n1 : ¬ D w.heap.size := new_not hF hD
  have n2 : ¬ D (w.heap.size + 1) := fun e => by have := hF _ (hD _ e); omega
  go_enter_defers Tryz.func24, Tryz.ntmps24
  go_wp2_with (go_at_fn K; refine (h _ (fun k hk => (below_alloc2 w _ _).block k (hF k hk)) (by simp; omega)).mono ?_; rintro e w1 ⟨k1, b, hb, rfl, hc⟩; have q : SpotBox w1 w.heap.size .nilIface := ((SpotBox.new w .nilIface).alloc _).same (k1.block _ (by simp; omega) n1); obtain ⟨q0, q1, q2, q3, q4⟩ := q.facts; have c : Box w1 (w.heap.size + 1) (.pointer none) 80 := Box.same (heap_new2' w _ _) (k1.block _ (by simp) n2); have c0 := c.cell; have c1 := c.free; have c2 := c.lt)
  refine leaves_cons (f := 67) (args := #[.pointer (some ⟨w.heap.size + 1, 0, none⟩)]) (by simp) (by simp [go_sem]) ?_
  refine (catch_panicking (w.heap.size + 1) b (.pointer none) [] _ c0 c1).mono ?_
  rintro e u' w'' ⟨rfl, rfl, rfl⟩
  have hend : Fr (fun k => k = w.heap.size ∨ k = w.heap.size + 1) w1 (w1.setCell ⟨w.heap.size + 1, 0, none⟩ (.pointer (some ⟨b, 0, none⟩))) := (Fr.refl (fun k => k = w.heap.size ∨ k = w.heap.size + 1) w1).setCell _ (.inl (.inr rfl))
  have qF := q.same (Below.heap_setCell _ ⟨w.heap.size + 1, 0, none⟩ (.pointer (some ⟨b, 0, none⟩)) _ (by simp))
  have cF := c.set (.pointer (some ⟨b, 0, none⟩))
  obtain ⟨r0, r1, _, _, r4⟩ := qF.facts
  have r5 := cF.cell
  have hR : Fr D w w1 := (((Fr.refl D w).alloc _).alloc _).trans k1 (fun _ _ e => e)
  have hb' : w.heap.size + 1 < b := by simp at hb; omega
  exact ⟨.tuple #[.agg #[.nilIface, .pointer none], .bool false, .pointer (some ⟨b, 0, none⟩)], by simp [results, Tryz.results24, go_sem, r0, r1, r5], hR.trans hend (fun i hi e => by omega), b, hb', rfl, (hend.block b (lt_of_block hc) (by omega)).trans hc⟩

set_option maxHeartbeats 2000000 in
theorem pull_arr {w : World} {f : Value} {l : List IV} {F D : Nat → Prop} (hS : StrArr l F D w f) :
    Calls Tryz.prog 24 #[f] w fun e w' => Fr D w w' ∧ ∃ y, e = .returned (.tuple #[.agg #[iv y, .pointer none], .bool true, .pointer none]) ∧ Arr (w.heap.size + 2) l w' y ∧ ∃ F' D', (∀ k, F' k → F k ∨ w.heap.size + 1 < k) ∧ (∀ k, D' k → D k ∨ w.heap.size + 1 < k) ∧ Str [] .none F' D' w' f := by
  have hmf : ∀ (fn : Fn) (first cap : Array Value) (w : World), (Instr.makeFunc fn first cap).run Tryz.prog w = .ok (.func fn first cap) w := fun _ _ _ _ => rfl
  obtain ⟨K, cap, rfl, hE, hF, hD, h⟩ := hS
  have hE' : ∀ (args : Array Value) (w : World), (callFunc K args).run Tryz.prog w = .ok (.enter K args) w := hE
  have n1 : ¬ D w.heap.size := new_not hF hD
  have n2 : ¬ D (w.heap.size + 1) := fun e => by have := hF _ (hD _ e); omega
  go_enter_defers Tryz.func24, Tryz.ntmps24
  go_wp2_with (go_at_fn K; refine (h _ (fun k hk => (below_alloc2 w _ _).block k (hF k hk)) (by simp; omega)).mono ?_; rintro e w1 ⟨k1, ⟨T, u⟩, rfl, ha, F', D', hF', hD', hS'⟩; simp only [iv]; have q : SpotBox w1 w.heap.size .nilIface := ((SpotBox.new w .nilIface).alloc _).same (k1.block _ (by simp; omega) n1); obtain ⟨q0, q1, q2, q3, q4⟩ := q.facts; have c : Box w1 (w.heap.size + 1) (.pointer none) 80 := Box.same (heap_new2' w _ _) (k1.block _ (by simp) n2); have c0 := c.cell; have c1 := c.free; have c2 := c.lt)
  refine leaves_cons (f := 67) (args := #[.pointer (some ⟨w.heap.size + 1, 0, none⟩)]) (by simp) (by simp [go_sem]) ?_
  refine (catch_idle (w.heap.size + 1) _).mono ?_
  rintro e u' w'' ⟨rfl, rfl, rfl⟩
  have hend : Fr (fun k => k = w.heap.size ∨ k = w.heap.size + 1) w1 (((((w1.setCell ⟨w.heap.size, 0, none⟩ (.iface T u)).setCell ⟨w.heap.size, 1, none⟩ (.pointer none)).setCell ⟨w.heap.size, 0, none⟩ (.iface T u)).setCell ⟨w.heap.size, 1, none⟩ (.pointer none)).setCell ⟨w.heap.size + 1, 0, none⟩ (.pointer none)) := (((((Fr.refl (fun k => k = w.heap.size ∨ k = w.heap.size + 1) w1).setCell _ (.inl (.inl rfl))).setCell _ (.inl (.inl rfl))).setCell _ (.inl (.inl rfl))).setCell _ (.inl (.inl rfl))).setCell _ (.inl (.inr rfl))
  have qF := ((q.set (.iface T u)).set (.iface T u)).same (Below.heap_setCell _ ⟨w.heap.size + 1, 0, none⟩ (.pointer none) _ (by simp))
  have cF := ((((c.same (Below.heap_setCell _ ⟨w.heap.size, 0, none⟩ (.iface T u) _ (by simp))).same (Below.heap_setCell _ ⟨w.heap.size, 1, none⟩ (.pointer none) _ (by simp))).same (Below.heap_setCell _ ⟨w.heap.size, 0, none⟩ (.iface T u) _ (by simp))).same (Below.heap_setCell _ ⟨w.heap.size, 1, none⟩ (.pointer none) _ (by simp))).set (.pointer none)
  obtain ⟨r0, r1, _, _, r4⟩ := qF.facts
  have r5 := cF.cell
  have hR : Fr D w w1 := (((Fr.refl D w).alloc _).alloc _).trans k1 (fun _ _ e => e)
  refine ⟨.tuple #[.agg #[.iface T u, .pointer none], .bool true, .pointer none], by simp [results, Tryz.results24, go_sem, r0, r1, r5], hR.trans hend (fun i hi e => by omega), (T, u), rfl, ?_, F', D', ?_, ?_, hS'.after hend ?_⟩
  · refine (ha.low (by simp)).fr hend (fun k hk e => by omega)
  · intro k hk
    rcases hF' k hk with h | h
    · exact .inl h
    · simp at h; exact .inr (by omega)
  · intro k hk
    rcases hD' k hk with h | h
    · exact .inl h
    · simp at h; exact .inr (by omega)
  · intro k hk e
    rcases hF' k hk with h | h
    · have := hF k h; omega
    · simp at h; omega

end Go.Proofs.Tryz

