import Derived.Test.YthnmpigpigdhfaaGreatDoorOpen6
import Derived.Test.YthnmpigpigdhfaaGreatDoorVal3
import Derived.Test.YthnmpigpigdhfaaGreatDoorClosed
import Derived.Test.YthnmpigpigdhfaaGreatDoorAns
set_option linter.all false
namespace Go.Proofs.Tryz
open Go.RowKit
set_option maxRecDepth 10000

/-- The block of a stream that is asked from outside. -/
def StreamBox (w : World) (b : Nat) (f : Value) : Prop := w.heap[b]? = some (.cells #[f, .int .u8 0, .string ⟨#[]⟩] 74 (0, 0))
theorem three_facts {w : World} {b : Nat} {x y z : Value} {t : TypeId} (h : w.heap[b]? = some (.cells #[x, y, z] t (0, 0))) : w.cell? ⟨b, 0, none⟩ = some x ∧ w.cell? ⟨b, 1, none⟩ = some y ∧ w.cell? ⟨b, 2, none⟩ = some z ∧ w.frozen? ⟨b, 0, none⟩ = false ∧ w.frozen? ⟨b, 1, none⟩ = false ∧ w.frozen? ⟨b, 2, none⟩ = false ∧ b < w.heap.size := by
  refine ⟨?_, ?_, ?_, ?_, ?_, ?_, lt_of_block h⟩ <;> simp [World.cell?, World.frozen?, h]
theorem StreamBox.same {w w' : World} {b : Nat} {f : Value} (h : StreamBox w b f) (e : w'.heap[b]? = w.heap[b]?) : StreamBox w' b f := e.trans h

theorem fn_nil (K : Nat) (cap : Array Value) (w : World) : Sem.run Tryz.prog (binOp BinOp.eql 62 (.func (.func K) #[] cap) .nilFunc) w = .ok (.bool false) w := by kernel_rfl

set_option maxHeartbeats 1000000 in
theorem next_some {w : World} {sb : Nat} {f : Value} {y : IV} {L : List IV} {E : Fin1} {F D : Nat → Prop} {out : ByteArray} (hb : StreamBox w sb f) (hS : Str (y :: L) E F D w f) (hsD : ¬ D sb) (hc : ∀ w', Fr D w w' → CanonAt w' y out) :
    Calls Tryz.prog 13 #[.pointer (some ⟨sb, 0, none⟩)] w fun e w' => Fr D w w' ∧ e = .returned (ansV 1 out) ∧ StreamBox w' sb f ∧ ∃ F' D', (∀ k, F' k → F k ∨ w.heap.size ≤ k) ∧ (∀ k, D' k → D k ∨ w.heap.size ≤ k) ∧ Str L E F' D' w' f := by
  obtain ⟨K, cap, rfl⟩ := hS.shape
  have hfn := fn_nil
  obtain ⟨c0, c1, c2, f0, f1, f2, hl⟩ := three_facts hb
  have hS2 := fun o => hS.move (w1 := w.alloc o) (fun k hk => (below_alloc w o).block k (hS.lt k hk)) (by simp)
  have n1 : ¬ D w.heap.size := new_not hS.lt hS.sub
  go_enter Tryz.func13, Tryz.ntmps13
  go_wp2_with (first
    | (go_at_call 25; refine (pull_some (hS2 _)).mono ?_; rintro e w1 ⟨k1, rfl, F', D', hF', hD', hS'⟩; have kw : Fr D w w1 := ((Fr.refl D w).alloc _).trans k1 (fun _ _ e => e))
    | (go_at_call 24; refine (answer_some (hc _ kw)).mono ?_; rintro e w2 ⟨rfl, k2⟩; simp only [ansV]; have q : w2.heap[w.heap.size]? = _ := (k2.block w.heap.size (by have := k1.size; simp at this; omega)).trans ((k1.block w.heap.size (by simp) n1).trans (heap_new w _)); obtain ⟨q0, q1, q2, q3, q4⟩ := two_facts q; have hk2 := k2.size))
  have kF : Fr (· = w.heap.size) w1 (((w2.setCell ⟨w.heap.size, 0, none⟩ (.int .u8 1)).setCell ⟨w.heap.size, 1, none⟩ (.string out)).alloc (.cells #[.int .u8 1, .string out] 43)) :=
    (((Fr.of_below (D := (· = w.heap.size)) k2).setCell _ (.inl rfl)).setCell _ (.inl rfl)).alloc _
  have kA : Fr D w (((w2.setCell ⟨w.heap.size, 0, none⟩ (.int .u8 1)).setCell ⟨w.heap.size, 1, none⟩ (.string out)).alloc (.cells #[.int .u8 1, .string out] 43)) := kw.trans kF (fun i hi e => by omega)
  refine bodyPost_ret (v := ansV 1 out) (by simp [results, Tryz.results13, go_sem, q4, q0, q1, ansV]) rfl ⟨kA, rfl, hb.same (kA.block _ hl hsD), F', D', ?_, ?_, hS'.after kF ?_⟩
  · intro k hk
    rcases hF' k hk with h | h
    · exact .inl h
    · simp at h; exact .inr (by omega)
  · intro k hk
    rcases hD' k hk with h | h
    · exact .inl h
    · simp at h; exact .inr (by omega)
  · intro k hk e
    rcases hF' k hk with h | h
    · have := hS.lt k h; omega
    · simp at h; omega

set_option maxHeartbeats 1000000 in
theorem next_arr {w : World} {sb : Nat} {f : Value} {l : List IV} {F D : Nat → Prop} {out : ByteArray} (hb : StreamBox w sb f) (hS : StrArr l F D w f) (hSD : ∀ k, D k → F k) (hsD : ¬ D sb) (hc : ∀ w' y, Fr D w w' → Arr w.heap.size l w' y → CanonAt w' y out) :
    Calls Tryz.prog 13 #[.pointer (some ⟨sb, 0, none⟩)] w fun e w' => Fr D w w' ∧ e = .returned (ansV 1 out) ∧ StreamBox w' sb f ∧ ∃ F' D', (∀ k, F' k → F k ∨ w.heap.size ≤ k) ∧ (∀ k, D' k → D k ∨ w.heap.size ≤ k) ∧ Str [] .none F' D' w' f := by
  obtain ⟨K, cap, rfl⟩ := hS.shape
  have hfn := fn_nil
  obtain ⟨c0, c1, c2, f0, f1, f2, hl⟩ := three_facts hb
  have hS2 := fun o => hS.move (w1 := w.alloc o) (fun k hk => (below_alloc w o).block k (hS.lt k hk)) (by simp)
  have n1 : ¬ D w.heap.size := new_not hS.lt hSD
  go_enter Tryz.func13, Tryz.ntmps13
  go_wp2_with (first
    | (go_at_call 25; refine (pull_arr (hS2 _)).mono ?_; rintro e w1 ⟨k1, y, rfl, ha, F', D', hF', hD', hS'⟩; have kw : Fr D w w1 := ((Fr.refl D w).alloc _).trans k1 (fun _ _ e => e))
    | (go_at_call 24; refine (answer_some (hc _ _ kw (ha.low (by simp; omega)))).mono ?_; rintro e w2 ⟨rfl, k2⟩; simp only [ansV]; have q : w2.heap[w.heap.size]? = _ := (k2.block w.heap.size (by have := k1.size; simp at this; omega)).trans ((k1.block w.heap.size (by simp) n1).trans (heap_new w _)); obtain ⟨q0, q1, q2, q3, q4⟩ := two_facts q; have hk2 := k2.size))
  have kF : Fr (· = w.heap.size) w1 (((w2.setCell ⟨w.heap.size, 0, none⟩ (.int .u8 1)).setCell ⟨w.heap.size, 1, none⟩ (.string out)).alloc (.cells #[.int .u8 1, .string out] 43)) :=
    (((Fr.of_below (D := (· = w.heap.size)) k2).setCell _ (.inl rfl)).setCell _ (.inl rfl)).alloc _
  have kA : Fr D w (((w2.setCell ⟨w.heap.size, 0, none⟩ (.int .u8 1)).setCell ⟨w.heap.size, 1, none⟩ (.string out)).alloc (.cells #[.int .u8 1, .string out] 43)) := kw.trans kF (fun i hi e => by omega)
  refine bodyPost_ret (v := ansV 1 out) (by simp [results, Tryz.results13, go_sem, q4, q0, q1, ansV]) rfl ⟨kA, rfl, hb.same (kA.block _ hl hsD), F', D', ?_, ?_, hS'.after kF ?_⟩
  · intro k hk
    rcases hF' k hk with h | h
    · exact .inl h
    · simp at h; exact .inr (by omega)
  · intro k hk
    rcases hD' k hk with h | h
    · exact .inl h
    · simp at h; exact .inr (by omega)
  · intro k hk e
    rcases hF' k hk with h | h
    · have := hS.lt k h; omega
    · simp at h; omega

set_option maxHeartbeats 1000000 in
theorem next_done {w : World} {sb : Nat} {f : Value} {F D : Nat → Prop} (hb : StreamBox w sb f) (hS : Str [] .none F D w f) (hsD : ¬ D sb) :
    Calls Tryz.prog 13 #[.pointer (some ⟨sb, 0, none⟩)] w fun e w' => Fr (fun k => D k ∨ k = sb) w w' ∧ e = .returned (ansV 0 ⟨#[]⟩) := by
  obtain ⟨K, cap, rfl⟩ := hS.shape
  have hfn := fn_nil
  obtain ⟨c0, c1, c2, f0, f1, f2, hl⟩ := three_facts hb
  have hS2 := fun o => hS.move (w1 := w.alloc o) (fun k hk => (below_alloc w o).block k (hS.lt k hk)) (by simp)
  have n1 : ¬ D w.heap.size := new_not hS.lt hS.sub
  go_enter Tryz.func13, Tryz.ntmps13
  go_wp2_with (first
    | (go_at_call 25; refine (pull_done (hS2 _)).mono ?_; rintro e w1 ⟨k1, rfl⟩; have kw : Fr D w w1 := ((Fr.refl D w).alloc _).trans k1 (fun _ _ e => e))
    | (go_at_call 24; refine answer_done.mono ?_; rintro e w2 ⟨rfl, k2⟩; simp only [ansV]; have kv : Fr D w w2 := kw.trans (Fr.of_below (D := D) k2) (fun _ _ e => e); have q : w2.heap[w.heap.size]? = _ := (k2.block w.heap.size (by have := k1.size; simp at this; omega)).trans ((k1.block w.heap.size (by simp) n1).trans (heap_new w _)); obtain ⟨q0, q1, q2, q3, q4⟩ := two_facts q; obtain ⟨d0, d1, d2, g0, g1, g2, hl2⟩ := three_facts (hb.same (kv.block _ hl hsD))))
  have ns1 : ¬ sb = w2.heap.size := by omega
  have ns2 : ¬ w2.heap.size = sb := by omega
  go_region
  all_goals
    go_wp2
    exact bodyPost_ret (v := ansV 0 ⟨#[]⟩) (by simp [results, Tryz.results13, go_sem, q4, q0, q1, ansV, show ¬ w.heap.size = sb by omega, show ¬ sb = w.heap.size by omega]) rfl ⟨(((((((kv.mono (E := fun k => D k ∨ k = sb) (fun _ => .inl)).setCell _ (.inl (.inr rfl))).setCell _ (.inl (.inr rfl))).setCell _ (.inl (.inr rfl))).setCell _ (.inr (Nat.le_refl _))).setCell _ (.inr (Nat.le_refl _))).alloc _).drewN 1, rfl⟩
set_option maxHeartbeats 1000000 in
theorem next_thrown {w : World} {sb : Nat} {f : Value} {v : IV} {F D : Nat → Prop} {out : ByteArray} (hb : StreamBox w sb f) (hS : Str [] (.some v) F D w f) (hsD : ¬ D sb) (hc : ∀ w', Fr D w w' → CanonAt w' v out) :
    Calls Tryz.prog 13 #[.pointer (some ⟨sb, 0, none⟩)] w fun e w' => Fr (fun k => D k ∨ k = sb) w w' ∧ e = .returned (ansV 2 out) := by
  obtain ⟨K, cap, rfl⟩ := hS.shape
  have hfn := fn_nil
  obtain ⟨c0, c1, c2, f0, f1, f2, hl⟩ := three_facts hb
  have hS2 := fun o => hS.move (w1 := w.alloc o) (fun k hk => (below_alloc w o).block k (hS.lt k hk)) (by simp)
  have n1 : ¬ D w.heap.size := new_not hS.lt hS.sub
  go_enter Tryz.func13, Tryz.ntmps13
  go_wp2_with (first
    | (go_at_call 25; refine (pull_thrown (hS2 _)).mono ?_; rintro e w1 ⟨k1, b, hb1, rfl, hbb⟩; have kw : Fr D w w1 := ((Fr.refl D w).alloc _).trans k1 (fun _ _ e => e))
    | (go_at_call 24; refine (answer_failed hbb (hc _ kw)).mono ?_; rintro e w2 ⟨rfl, k2⟩; simp only [ansV]; have kv : Fr D w w2 := kw.trans (Fr.of_below (D := D) k2) (fun _ _ e => e); have q : w2.heap[w.heap.size]? = _ := (k2.block w.heap.size (by have := k1.size; simp at this; omega)).trans ((k1.block w.heap.size (by simp) n1).trans (heap_new w _)); obtain ⟨q0, q1, q2, q3, q4⟩ := two_facts q; obtain ⟨d0, d1, d2, g0, g1, g2, hl2⟩ := three_facts (hb.same (kv.block _ hl hsD))))
  have ns1 : ¬ sb = w2.heap.size := by omega
  have ns2 : ¬ w2.heap.size = sb := by omega
  go_region
  all_goals
    go_wp2
    exact bodyPost_ret (v := ansV 2 out) (by simp [results, Tryz.results13, go_sem, q4, q0, q1, ansV, show ¬ w.heap.size = sb by omega, show ¬ sb = w.heap.size by omega]) rfl ⟨(((((((kv.mono (E := fun k => D k ∨ k = sb) (fun _ => .inl)).setCell _ (.inl (.inr rfl))).setCell _ (.inl (.inr rfl))).setCell _ (.inl (.inr rfl))).setCell _ (.inr (Nat.le_refl _))).setCell _ (.inr (Nat.le_refl _))).alloc _).drewN 1, rfl⟩
end Go.Proofs.Tryz

namespace Go.Proofs.Tryz
open Go.RowKit
set_option maxRecDepth 100000

/-- A row of so many definitions, and a point behind them. -/
def chainB : Tr → Nat → Bool
  | .done _, _ => false
  | .ask _ kind k, n => match kind, n with
    | 0, 0 => true
    | 15, n + 1 => chainB (k 2) n
    | 16, n + 1 => chainB (k 2) n
    | _, _ => false
def defOk (o : Option Tr) (n : Nat) : Bool := match o with
  | some t => chainB t n
  | none => false
theorem chain_of {o : Option Tr} {n : Nat} (h : defOk o n = true) : ∃ t, o = some t ∧ chainB t n = true := by
  cases o with
  | none => cases h
  | some t => exact ⟨t, rfl, h⟩
theorem defsRead : defOk (readAs fDefs) 8 = true := by kernel_rfl
theorem defs_chain : ∃ t, readAs fDefs = some t ∧ chainB t 8 = true := chain_of defsRead

set_option maxHeartbeats 1000000 in
theorem withDef_ok {w : World} {kn : Option Addr} {b d o n c : Nat} {name : ByteArray} (c0 : w.cell? ⟨b, 0, none⟩ = some (.string name)) (c1 : w.cell? ⟨b, 1, none⟩ = some (.slice (some ⟨d, o, none⟩) n c)) :
    Calls Tryz.prog 44 #[.pointer kn, .pointer (some ⟨b, 0, none⟩)] w fun e w' => (∃ k, e = .returned (.pointer k)) ∧ Below w.heap.size w w' := by
  go_enter Tryz.func44, Tryz.ntmps44
  go_wp2
  go_region_held3 (fun w' => w'.cell? ⟨b, 0, none⟩ = some (.string name) ∧ w'.cell? ⟨b, 1, none⟩ = some (.slice (some ⟨d, o, none⟩) n c)) (go_keep) (fail)
  all_goals
    go_wp2
    go_ret
    exact ⟨⟨_, rfl⟩, (Below.refl w.heap.size w).drew.alloc (Nat.le_refl _) _⟩

theorem chain_step {p : Nat → Prop} {w : World} {v : Value} {t : Tr} {n : Nat} (h : Rep p w v t) (hc : chainB t (n + 1) = true) :
    ∃ b d o m c name x t', v = .iface 110 (.pointer (some ⟨b, 0, none⟩)) ∧ w.cell? ⟨b, 0, none⟩ = some (.string name) ∧ w.cell? ⟨b, 1, none⟩ = some (.slice (some ⟨d, o, none⟩) m c) ∧ w.cell? ⟨b, 3, none⟩ = some x ∧ Rep p w x t' ∧ chainB t' n = true := by
  cases t with
  | done y => cases hc
  | ask s0 kind k =>
    match kind, h, hc with
    | 15, h, hc => obtain ⟨b, d, o, c, x, y, rfl, a, a', c0, c1, c2, c3, c4, r1, r2⟩ := h; exact ⟨_, _, _, _, _, _, _, _, rfl, c0, c1, c4, r2, hc⟩
    | 16, h, hc => obtain ⟨b, d, o, c, x, y, rfl, a, a', c0, c1, c2, c2', c3, c4, r1, r2⟩ := h; exact ⟨_, _, _, _, _, _, _, _, rfl, c0, c1, c4, r2, hc⟩
    | 0, _, hc => cases hc
    | 1, _, hc => cases hc
    | 2, _, hc => cases hc
    | 3, _, hc => cases hc
    | 4, _, hc => cases hc
    | 5, _, hc => cases hc
    | 6, _, hc => cases hc
    | 7, _, hc => cases hc
    | 8, _, hc => cases hc
    | 9, _, hc => cases hc
    | 10, _, hc => cases hc
    | 11, _, hc => cases hc
    | 12, _, hc => cases hc
    | 13, _, hc => cases hc
    | 14, _, hc => cases hc
    | _ + 17, h, _ => exact h.elim
theorem chain_end {p : Nat → Prop} {w : World} {v : Value} {t : Tr} (h : Rep p w v t) (hc : chainB t 0 = true) : ∃ b, v = .iface 115 (.pointer (some ⟨b, 0, none⟩)) := by
  cases t with
  | done y => cases hc
  | ask s0 kind k =>
    match kind, h, hc with
    | 0, h, hc => exact h
    | 1, _, hc => cases hc
    | 2, _, hc => cases hc
    | 3, _, hc => cases hc
    | 4, _, hc => cases hc
    | 5, _, hc => cases hc
    | 6, _, hc => cases hc
    | 7, _, hc => cases hc
    | 8, _, hc => cases hc
    | 9, _, hc => cases hc
    | 10, _, hc => cases hc
    | 11, _, hc => cases hc
    | 12, _, hc => cases hc
    | 13, _, hc => cases hc
    | 14, _, hc => cases hc
    | 15, _, hc => cases hc
    | 16, _, hc => cases hc
    | _ + 17, h, _ => exact h.elim

set_option maxHeartbeats 4000000 in
theorem given_ok (hI : ParsesInt) (w : World) (hS : SignsIn w) : Calls Tryz.prog 22 #[] w fun e w' => (∃ k, e = .returned (.pointer k)) ∧ Below w.heap.size w w' := by
  obtain ⟨t, ht, hc⟩ := defs_chain
  have hR := readAs_ok hI ht w (of_decide_eq_true (by kernel_rfl)) hS
  have hD := hitDef
  have hM := missDef
  go_enter Tryz.func22, Tryz.ntmps22
  go_wp2_with (go_at_call 10; refine hR.mono ?_; rintro e w1 ⟨T, b, rfl, k1, r1⟩)
  go_loopg [1, 2] 8 (fun k v t wr => (∃ kn, v = .pointer kn) ∧ ∃ tr, Rep (w.heap.size ≤ ·) wr t tr ∧ chainB tr k = true ∧ Below w.heap.size w wr)
  case atStart => exact ⟨⟨_, rfl⟩, t, r1, hc, k1⟩
  case round =>
    obtain ⟨⟨kn, rfl⟩, tr, hr, hch, hb⟩ := hrel
    match gk, hch with
    | 0, hch =>
      obtain ⟨b', rfl⟩ := chain_end hr hch
      go_wp2_with fail
      go_ret
      exact ⟨⟨_, rfl⟩, hb⟩
    | k + 1, hch =>
      obtain ⟨b', d, o, m, c, name, x, t', rfl, c0, c1, c3, r3, hch'⟩ := chain_step hr hch
      have hlt := cell_lt c3
      obtain ⟨T3, b3, rfl⟩ := r3.shape
      go_wp2_with (go_at_call 44; refine (withDef_ok c0 c1).mono ?_; rintro e w2 ⟨⟨kn2, rfl⟩, k2⟩; have c3' := (k2.cell (p := ⟨b', 3, none⟩) hlt).trans c3)
      go_roundg k
      case measure => omega
      case rel => exact ⟨⟨_, rfl⟩, t', r3.upon k2, hch', hb.trans (k2.mono hb.size)⟩
end Go.Proofs.Tryz

namespace Go.Proofs.Tryz
open Go.RowKit
set_option maxRecDepth 10000

theorem SignsIn.same {B : Nat} {w w' : World} (h : SignsIn w) (hs : SameOn (· < B) w w') (hg : 0 < B) (hl : B ≤ w'.heap.size) : SignsIn w' :=
  ⟨fun j v hv => (World.cell?_of_block (w := w) (hs _ hg)).trans (h.1 j v hv), Nat.lt_of_lt_of_le hg hl⟩

theorem PlaceBox.facts {w : World} {b : Nat} {kn : Option Addr} {d : Int} (h : PlaceBox w b kn d) : w.cell? ⟨b, 0, none⟩ = some (.pointer kn) ∧ w.cell? ⟨b, 1, none⟩ = some (.int .i64 d) ∧ w.frozen? ⟨b, 0, none⟩ = false ∧ w.frozen? ⟨b, 1, none⟩ = false ∧ b < w.heap.size :=
  ⟨h.c0, h.c1, by simp [World.frozen?, PlaceBox] at *; simp [h], by simp [World.frozen?, PlaceBox] at *; simp [h], h.lt⟩

theorem keep2 {w1 : World} {db n : Nat} {a1 a2 v : Value} (h : db < n) (e : w1.cell? ⟨db, 0, none⟩ = some v) : ((w1.setCell ⟨n, 0, none⟩ a1).setCell ⟨n, 1, none⟩ a2).cell? ⟨db, 0, none⟩ = some v := by
  rw [World.cell?_setCell_far _ _ _ _ (by simp; omega), World.cell?_setCell_far _ _ _ _ (by simp; omega)]
  exact e

theorem enters_start1 : Enters Tryz.prog 21 := enters_of Tryz.func21 (by kernel_rfl) rfl
/-- What the stream of a filter is opened as: whatever is known of it. -/
def OpensQ (B : Nat) (w0 : World) (v : Value) (x : IV) (Q : Nat → World → Value → Prop) : Prop := ∀ (w : World) (kn : Option Addr) (d : Int), SameOn (· < B) w0 w → B ≤ w.heap.size →
  Calls Tryz.prog 23 #[.agg #[.pointer kn, .int .i64 d], v, .agg #[iv x, .pointer none]] w fun e w' => Below w.heap.size w w' ∧ ∃ K cap, e = .returned (.func (.func K) #[] cap) ∧ Q w.heap.size w' (.func (.func K) #[] cap)

end Go.Proofs.Tryz

namespace Go.Proofs.Tryz
open Go.RowKit
set_option maxRecDepth 10000

set_option maxHeartbeats 8000000 in
theorem start1_50 (hI : ParsesInt) {B db fb ib : Nat} {w0 w : World} {T T1 b1 : Nat} {u : Value} {Q : Nat → World → Value → Prop} (hd : Box w db (.int .i64 50) 3) (hf : Box w fb (.iface T1 (.pointer (some ⟨b1, 0, none⟩))) 32) (hi : Box w ib (.iface T u) 37) (hO : OpensQ B w0 (.iface T1 (.pointer (some ⟨b1, 0, none⟩))) (T, u) Q) (hS : SignsIn w0) (hg : 0 < B) (hs : SameOn (· < B) w0 w) (hB : B ≤ w.heap.size) :
    Calls Tryz.prog 21 #[.pointer (some ⟨db, 0, none⟩), .pointer (some ⟨fb, 0, none⟩), .pointer (some ⟨ib, 0, none⟩)] w fun e w' => Below w.heap.size w w' ∧ ∃ n K cap, w.heap.size ≤ n ∧ e = .returned (.func (.func K) #[] cap) ∧ Q n w' (.func (.func K) #[] cap) := by
  have d0 := hd.cell
  have hdl := hd.lt
  have f0 := hf.cell
  have i0 := hi.cell
  simp only [OpensQ, iv] at hO
  have hG : ∀ w', Below w.heap.size w w' → Calls Tryz.prog 22 #[] w' fun e w'' => ∃ kn, e = .returned (.pointer kn) ∧ Below w'.heap.size w' w'' ∧ w''.cell? ⟨db, 0, none⟩ = some (.int .i64 50) := by
    intro w' kW
    refine (given_ok hI _ (hS.same (hs.trans (fun k hk => kW.block k (Nat.lt_of_lt_of_le hk hB))) hg (Nat.le_trans hB kW.size))).mono ?_
    rintro e w1 ⟨⟨kn, rfl⟩, k1⟩
    exact ⟨kn, rfl, k1, ((kW.trans (k1.mono kW.size)).cell (p := ⟨db, 0, none⟩) hd.lt).trans d0⟩
  have hfl := hf.lt
  have hil := hi.lt
  have hG2 : ∀ w', Below w.heap.size w w' → Calls Tryz.prog 22 #[] w' fun e w'' => ∃ kn, e = .returned (.pointer kn) ∧ Below w'.heap.size w' w'' ∧ w''.cell? ⟨db, 0, none⟩ = some (.int .i64 50) ∧ Below w.heap.size w w'' ∧ w''.cell? ⟨fb, 0, none⟩ = some (.iface T1 (.pointer (some ⟨b1, 0, none⟩))) ∧ w''.cell? ⟨ib, 0, none⟩ = some (.iface T u) ∧ fb < w''.heap.size ∧ ib < w''.heap.size := by
    intro w' kW
    refine (hG w' kW).mono ?_
    rintro e w1 ⟨kn, rfl, k1, e4⟩
    have kY := kW.trans (k1.mono kW.size)
    exact ⟨kn, rfl, k1, e4, kY, (kY.cell (p := ⟨fb, 0, none⟩) hfl).trans f0, (kY.cell (p := ⟨ib, 0, none⟩) hil).trans i0, Nat.lt_of_lt_of_le hfl kY.size, Nat.lt_of_lt_of_le hil kY.size⟩
  have nf1 : ¬ w.heap.size = fb := by omega
  have nf2 : ¬ fb = w.heap.size := by omega
  have ni1 : ¬ w.heap.size = ib := by omega
  have ni2 : ¬ ib = w.heap.size := by omega
  go_enter Tryz.func21, Tryz.ntmps21
  go_wp2_with fail
  go_region_held3 (fun w' => w'.cell? ⟨db, 0, none⟩ = some (.int .i64 50)) (first | exact e4 | exact keep2 hdl e4 | go_keep)
    (first
      | (go_at_call 22; refine (hG2 _ (by first | exact (Below.refl _ _).drew | exact (Below.refl _ _).drew.alloc (by simp) _)).mono ?_; rintro e w1 ⟨kn, rfl, kX, e4, kY, f1, i1, fl, il⟩; first | (have q : PlaceBox w1 w.heap.size none 0 := PlaceBox.same (heap_new w.drew _) (kX.block _ (by simp)); obtain ⟨q0, q1, q2, q3, q4⟩ := q.facts) | skip))
  all_goals first
    | (go_wp2_with (go_at_call 23; refine (hO _ kn 50 (hs.trans (fun k hk => (kY.alloc kY.size _).block k (Nat.lt_of_lt_of_le hk hB))) (by have := kY.size; simp; omega)).mono ?_; rintro e w2 ⟨k2, K, cap, rfl, hQ⟩)
       go_ret
       exact ⟨(kY.alloc kY.size _).trans (k2.mono (by have := kY.size; simp; omega)), _, K, cap, (by have := kY.size; simp; omega), rfl, hQ⟩)
    | (go_wp2_with (go_at_call 23; refine (hO _ kn 50 (hs.trans (fun k hk => ((kY.setCell (p := ⟨w.heap.size, 0, none⟩) (Nat.le_refl _) _).setCell (p := ⟨w.heap.size, 1, none⟩) (Nat.le_refl _) _).block k (Nat.lt_of_lt_of_le hk hB))) (by have := kY.size; simp; omega)).mono ?_; rintro e w2 ⟨k2, K, cap, rfl, hQ⟩)
       go_ret
       exact ⟨((kY.setCell (p := ⟨w.heap.size, 0, none⟩) (Nat.le_refl _) _).setCell (p := ⟨w.heap.size, 1, none⟩) (Nat.le_refl _) _).trans (k2.mono (by have := kY.size; simp; omega)), _, K, cap, (by have := kY.size; simp; omega), rfl, hQ⟩)
end Go.Proofs.Tryz

namespace Go.Proofs.Tryz
open Go.RowKit
set_option maxRecDepth 10000

set_option maxHeartbeats 8000000 in
theorem start1_0 (hI : ParsesInt) {B db fb ib : Nat} {w0 w : World} {T T1 b1 : Nat} {u : Value} {Q : Nat → World → Value → Prop} (hd : Box w db (.int .i64 0) 3) (hf : Box w fb (.iface T1 (.pointer (some ⟨b1, 0, none⟩))) 32) (hi : Box w ib (.iface T u) 37) (hO : OpensQ B w0 (.iface T1 (.pointer (some ⟨b1, 0, none⟩))) (T, u) Q) (hS : SignsIn w0) (hg : 0 < B) (hs : SameOn (· < B) w0 w) (hB : B ≤ w.heap.size) :
    Calls Tryz.prog 21 #[.pointer (some ⟨db, 0, none⟩), .pointer (some ⟨fb, 0, none⟩), .pointer (some ⟨ib, 0, none⟩)] w fun e w' => Below w.heap.size w w' ∧ ∃ n K cap, w.heap.size ≤ n ∧ e = .returned (.func (.func K) #[] cap) ∧ Q n w' (.func (.func K) #[] cap) := by
  have d0 := hd.cell
  have hdl := hd.lt
  have f0 := hf.cell
  have i0 := hi.cell
  simp only [OpensQ, iv] at hO
  have hG : ∀ w', Below w.heap.size w w' → Calls Tryz.prog 22 #[] w' fun e w'' => ∃ kn, e = .returned (.pointer kn) ∧ Below w'.heap.size w' w'' ∧ w''.cell? ⟨db, 0, none⟩ = some (.int .i64 0) := by
    intro w' kW
    refine (given_ok hI _ (hS.same (hs.trans (fun k hk => kW.block k (Nat.lt_of_lt_of_le hk hB))) hg (Nat.le_trans hB kW.size))).mono ?_
    rintro e w1 ⟨⟨kn, rfl⟩, k1⟩
    exact ⟨kn, rfl, k1, ((kW.trans (k1.mono kW.size)).cell (p := ⟨db, 0, none⟩) hd.lt).trans d0⟩
  have hfl := hf.lt
  have hil := hi.lt
  have hG2 : ∀ w', Below w.heap.size w w' → Calls Tryz.prog 22 #[] w' fun e w'' => ∃ kn, e = .returned (.pointer kn) ∧ Below w'.heap.size w' w'' ∧ w''.cell? ⟨db, 0, none⟩ = some (.int .i64 0) ∧ Below w.heap.size w w'' ∧ w''.cell? ⟨fb, 0, none⟩ = some (.iface T1 (.pointer (some ⟨b1, 0, none⟩))) ∧ w''.cell? ⟨ib, 0, none⟩ = some (.iface T u) ∧ fb < w''.heap.size ∧ ib < w''.heap.size := by
    intro w' kW
    refine (hG w' kW).mono ?_
    rintro e w1 ⟨kn, rfl, k1, e4⟩
    have kY := kW.trans (k1.mono kW.size)
    exact ⟨kn, rfl, k1, e4, kY, (kY.cell (p := ⟨fb, 0, none⟩) hfl).trans f0, (kY.cell (p := ⟨ib, 0, none⟩) hil).trans i0, Nat.lt_of_lt_of_le hfl kY.size, Nat.lt_of_lt_of_le hil kY.size⟩
  have nf1 : ¬ w.heap.size = fb := by omega
  have nf2 : ¬ fb = w.heap.size := by omega
  have ni1 : ¬ w.heap.size = ib := by omega
  have ni2 : ¬ ib = w.heap.size := by omega
  go_enter Tryz.func21, Tryz.ntmps21
  go_wp2_with fail
  go_region_held3 (fun w' => w'.cell? ⟨db, 0, none⟩ = some (.int .i64 0)) (first | exact e4 | exact keep2 hdl e4 | go_keep)
    (first
      | (go_at_call 22; refine (hG2 _ (by first | exact (Below.refl _ _).drew | exact (Below.refl _ _).drew.alloc (by simp) _)).mono ?_; rintro e w1 ⟨kn, rfl, kX, e4, kY, f1, i1, fl, il⟩; first | (have q : PlaceBox w1 w.heap.size none 0 := PlaceBox.same (heap_new w.drew _) (kX.block _ (by simp)); obtain ⟨q0, q1, q2, q3, q4⟩ := q.facts) | skip))
  all_goals first
    | (go_wp2_with (go_at_call 23; refine (hO _ kn 0 (hs.trans (fun k hk => (kY.alloc kY.size _).block k (Nat.lt_of_lt_of_le hk hB))) (by have := kY.size; simp; omega)).mono ?_; rintro e w2 ⟨k2, K, cap, rfl, hQ⟩)
       go_ret
       exact ⟨(kY.alloc kY.size _).trans (k2.mono (by have := kY.size; simp; omega)), _, K, cap, (by have := kY.size; simp; omega), rfl, hQ⟩)
    | (go_wp2_with (go_at_call 23; refine (hO _ kn 0 (hs.trans (fun k hk => ((kY.setCell (p := ⟨w.heap.size, 0, none⟩) (Nat.le_refl _) _).setCell (p := ⟨w.heap.size, 1, none⟩) (Nat.le_refl _) _).block k (Nat.lt_of_lt_of_le hk hB))) (by have := kY.size; simp; omega)).mono ?_; rintro e w2 ⟨k2, K, cap, rfl, hQ⟩)
       go_ret
       exact ⟨((kY.setCell (p := ⟨w.heap.size, 0, none⟩) (Nat.le_refl _) _).setCell (p := ⟨w.heap.size, 1, none⟩) (Nat.le_refl _) _).trans (k2.mono (by have := kY.size; simp; omega)), _, K, cap, (by have := kY.size; simp; omega), rfl, hQ⟩)
end Go.Proofs.Tryz

namespace Go.Proofs.Tryz
open Go.RowKit
set_option maxRecDepth 10000

/-- What a stream may be: values and an end, or an array. -/
abbrev Kd := Sum (List IV × Fin1) (List IV)
abbrev Kd.vals (l : List IV) (E : Fin1) : Kd := .inl (l, E)
abbrev Kd.arr (l : List IV) : Kd := .inr l
def SK (κ : Kd) (F D : Nat → Prop) (w : World) (f : Value) : Prop := match κ with
  | .inl (l, E) => Str l E F D w f
  | .inr l => StrArr l F D w f
def Kd.ok (κ : Kd) : Prop := match κ with
  | .inl (l, E) => SomeOrThrown l E
  | .inr _ => True
def GoodK (κ : Kd) (B n : Nat) (w : World) (f : Value) : Prop := ∃ F D, SK κ F D w f ∧ (∀ k, F k → k < B ∨ n ≤ k) ∧ (∀ k, D k → n ≤ k)
theorem SK.shape {κ : Kd} {F D : Nat → Prop} {w : World} {f : Value} (h : SK κ F D w f) : ∃ K cap, f = .func (.func K) #[] cap := by
  match κ, h with
  | .inl (l, E), h => exact Str.shape h
  | .inr l, h => exact StrArr.shape h
theorem SK.lt {κ : Kd} {F D : Nat → Prop} {w : World} {f : Value} (h : SK κ F D w f) : ∀ k, F k → k < w.heap.size := by
  match κ, h with
  | .inl (l, E), h => exact Str.lt h
  | .inr l, h => exact StrArr.lt h
theorem SK.sub {κ : Kd} {F D : Nat → Prop} {w : World} {f : Value} (h : SK κ F D w f) : ∀ k, D k → F k := by
  match κ, h with
  | .inl (l, E), h => exact Str.sub h
  | .inr l, h => obtain ⟨_, _, _, _, _, h, _⟩ := h; exact h
theorem SK.move {κ : Kd} {F D : Nat → Prop} {w w1 : World} {f : Value} (h : SK κ F D w f) (hs : SameOn F w w1) (hl : w.heap.size ≤ w1.heap.size) : SK κ F D w1 f := by
  match κ, h with
  | .inl (l, E), h => exact Str.move h hs hl
  | .inr l, h => exact StrArr.move h hs hl

/-- behind of nothing and of what makes a stream. -/
theorem behindK {κ : Kd} {w : World} {C : Nat → Prop} {K : Nat} {cap : Array Value} (hok : κ.ok) (hE : Enters Tryz.prog K) (hC : ∀ k, C k → k < w.heap.size)
    (hT : ∀ w', SameOn C w w' → w.heap.size ≤ w'.heap.size → Calls Tryz.prog K cap w' fun e w'' => Below w'.heap.size w' w'' ∧ ∃ f F D, e = .returned f ∧ SK κ F D w'' f ∧ (∀ k, F k → C k ∨ w'.heap.size ≤ k) ∧ (∀ k, D k → w'.heap.size ≤ k)) :
    Calls Tryz.prog 19 #[.func (.func 20) #[] #[], .func (.func K) #[] cap] w fun e w' => Below w.heap.size w w' ∧ ∃ r F D, e = .returned r ∧ SK κ F D w' r ∧ (∀ k, F k → C k ∨ w.heap.size ≤ k) ∧ (∀ k, D k → w.heap.size ≤ k) := by
  match κ, hok, hT with
  | .inl (l, E), hok, hT =>
    refine (behind_ok (C := C) hok (none_str w) hC ⟨K, cap, rfl, hE, hC, fun w' a b => (hT w' a b).mono ?_⟩ (fun _ _ h => h.elim)).mono ?_
    · rintro e w'' ⟨k, f, F, D, rfl, hs, hF, hD⟩
      exact ⟨k, f, F, D, rfl, hs, hF, hD⟩
    · rintro e w' ⟨k, r, F, D, rfl, hs, hF, hD⟩
      refine ⟨k, r, F, D, rfl, hs, ?_, ?_⟩
      · intro k hk
        rcases hF k hk with h | h
        · exact h.elim
        · exact h
      · intro k hk
        rcases hD k hk with h | h
        · exact h.elim
        · exact h
  | .inr l, hok, hT =>
    have hSec : SecArr C w (.func (.func K) #[] cap) l := by
      refine ⟨K, cap, rfl, hE, hC, fun w' a b => (hT w' a b).mono ?_⟩
      rintro e w'' ⟨k, f, F, D, rfl, hs, hF, hD⟩
      exact ⟨k, f, F, D, rfl, hs, hF, hD⟩
    refine (behind_arr_ok (C := C) (none_str w) hC hSec (fun _ _ h => h.elim)).mono ?_
    · rintro e w' ⟨k, r, F, D, rfl, hs, hF, hD⟩
      refine ⟨k, r, F, D, rfl, hs, ?_, ?_⟩
      · intro k hk
        rcases hF k hk with h | h
        · exact h.elim
        · exact h
      · intro k hk
        rcases hD k hk with h | h
        · exact h.elim
        · exact h

theorem start1_ok (hI : ParsesInt) {d : Int} (hdd : d = 0 ∨ d = 50) {B db fb ib : Nat} {w0 w : World} {T T1 b1 : Nat} {u : Value} {Q : Nat → World → Value → Prop} (hd : Box w db (.int .i64 d) 3) (hf : Box w fb (.iface T1 (.pointer (some ⟨b1, 0, none⟩))) 32) (hi : Box w ib (.iface T u) 37) (hO : OpensQ B w0 (.iface T1 (.pointer (some ⟨b1, 0, none⟩))) (T, u) Q) (hS : SignsIn w0) (hg : 0 < B) (hs : SameOn (· < B) w0 w) (hB : B ≤ w.heap.size) :
    Calls Tryz.prog 21 #[.pointer (some ⟨db, 0, none⟩), .pointer (some ⟨fb, 0, none⟩), .pointer (some ⟨ib, 0, none⟩)] w fun e w' => Below w.heap.size w w' ∧ ∃ n K cap, w.heap.size ≤ n ∧ e = .returned (.func (.func K) #[] cap) ∧ Q n w' (.func (.func K) #[] cap) := by
  rcases hdd with rfl | rfl
  · exact start1_0 hI hd hf hi hO hS hg hs hB
  · exact start1_50 hI hd hf hi hO hS hg hs hB

theorem start_sec (hI : ParsesInt) {κ : Kd} {d : Int} (hdd : d = 0 ∨ d = 50) {B db fb ib : Nat} {w0 w : World} {T T1 b1 : Nat} {u : Value} (hd : Box w db (.int .i64 d) 3) (hf : Box w fb (.iface T1 (.pointer (some ⟨b1, 0, none⟩))) 32) (hi : Box w ib (.iface T u) 37) (hO : OpensQ B w0 (.iface T1 (.pointer (some ⟨b1, 0, none⟩))) (T, u) (GoodK κ B)) (hS : SignsIn w0) (hg : 0 < B) (hs : SameOn (· < B) w0 w) (hB : B ≤ w.heap.size) :
    ∀ w', SameOn (fun k => k < B ∨ k = db ∨ k = fb ∨ k = ib) w w' → w.heap.size ≤ w'.heap.size → Calls Tryz.prog 21 #[.pointer (some ⟨db, 0, none⟩), .pointer (some ⟨fb, 0, none⟩), .pointer (some ⟨ib, 0, none⟩)] w' fun e w'' => Below w'.heap.size w' w'' ∧ ∃ f F D, e = .returned f ∧ SK κ F D w'' f ∧ (∀ k, F k → (k < B ∨ k = db ∨ k = fb ∨ k = ib) ∨ w'.heap.size ≤ k) ∧ (∀ k, D k → w'.heap.size ≤ k) := by
  intro w' hs' hl
  refine (start1_ok hI hdd (hd.same (hs' _ (by simp))) (hf.same (hs' _ (by simp))) (hi.same (hs' _ (by simp))) hO hS hg (hs.trans (fun k hk => hs' k (.inl hk))) (Nat.le_trans hB hl)).mono ?_
  rintro e w'' ⟨k1, n, K, cap, hn, rfl, F, D, hsk, hF, hD⟩
  refine ⟨k1, _, F, D, rfl, hsk, ?_, fun k hk => Nat.le_trans hn (hD k hk)⟩
  intro k hk
  rcases hF k hk with h | h
  · exact .inl (.inl h)
  · exact .inr (Nat.le_trans hn h)

set_option maxHeartbeats 2000000 in
theorem Start_ok (hI : ParsesInt) {κ : Kd} (hok : κ.ok) {d : Int} (hdd : d = 0 ∨ d = 50) {B : Nat} {w0 w : World} {T T1 b1 : Nat} {u : Value} (hO : OpensQ B w0 (.iface T1 (.pointer (some ⟨b1, 0, none⟩))) (T, u) (GoodK κ B)) (hS : SignsIn w0) (hg : 0 < B) (hs : SameOn (· < B) w0 w) (hB : B ≤ w.heap.size) :
    Calls Tryz.prog 12 #[.iface T1 (.pointer (some ⟨b1, 0, none⟩)), .iface T u, .int .i64 d] w fun e w' => Below w.heap.size w w' ∧ ∃ sb f F D, e = .returned (.pointer (some ⟨sb, 0, none⟩)) ∧ StreamBox w' sb f ∧ SK κ F D w' f ∧ (∀ k, F k → k < B ∨ w.heap.size ≤ k) ∧ (∀ k, D k → w.heap.size ≤ k) ∧ ¬ F sb ∧ w.heap.size ≤ sb := by
  have k3 := below_alloc3 w (.cells #[.iface T1 (.pointer (some ⟨b1, 0, none⟩))] 32) (.cells #[.iface T u] 37) (.cells #[.int .i64 d] 3)
  have x0 : Box _ w.heap.size _ 32 := heap_at1 w (.cells #[.iface T1 (.pointer (some ⟨b1, 0, none⟩))] 32) (.cells #[.iface T u] 37) (.cells #[.int .i64 d] 3)
  have x1 : Box _ (w.heap.size + 1) _ 37 := heap_at2 w (.cells #[.iface T1 (.pointer (some ⟨b1, 0, none⟩))] 32) (.cells #[.iface T u] 37) (.cells #[.int .i64 d] 3)
  have x2 : Box _ (w.heap.size + 1 + 1) _ 3 := heap_new3 w (.cells #[.iface T1 (.pointer (some ⟨b1, 0, none⟩))] 32) (.cells #[.iface T u] 37) (.cells #[.int .i64 d] 3)
  have hsec := start_sec hI hdd x2 x0 x1 hO hS hg (hs.trans (fun k hk => k3.block k (Nat.lt_of_lt_of_le hk hB))) (Nat.le_trans hB k3.size)
  have hbe := behindK hok enters_start1 (fun k hk => by have := x0.lt; have := x1.lt; have := x2.lt; rcases hk with h | h | h | h <;> omega) hsec
  clear hsec x0 x1 x2
  go_enter Tryz.func12, Tryz.ntmps12
  go_wp2_with (go_at_call 19; refine hbe.mono ?_; rintro e w1 ⟨k1, r, F, D, rfl, hsk, hF, hD⟩; obtain ⟨K, cap, rfl⟩ := hsk.shape)
  have k1s := k1.size
  go_ret
  refine ⟨(k3.trans (k1.mono k3.size)).alloc (by have := k3.size; omega) _, _, _, F, D, rfl, heap_new w1 _, hsk.move (fun k hk => (below_alloc w1 _).block k (hsk.lt k hk)) (by simp), ?_, ?_, ?_, by have := k3.size; omega⟩
  · intro k hk
    rcases hF k hk with (h | h | h | h) | h
    · exact .inl h
    · exact .inr (by omega)
    · exact .inr (by omega)
    · exact .inr (by omega)
    · exact .inr (by have := k3.size; omega)
  · intro k hk
    have := hD k hk
    have := k3.size
    omega
  · intro hk
    have := hsk.lt _ hk
    omega
end Go.Proofs.Tryz

