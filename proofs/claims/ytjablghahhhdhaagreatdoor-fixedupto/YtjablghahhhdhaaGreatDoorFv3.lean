import Derived.Test.YtjablghahhhdhaaGreatDoorClosed
import Derived.Test.YtjablghahhhdhaaGreatDoorFl6
import Derived.Test.YtjablghahhhdhaaGreatDoorCollect2
import Derived.Test.YtjablghahhhdhaaGreatDoorFz8
import Derived.Test.YtjablghahhhdhaaGreatDoorOpen6
import Derived.Test.YtjablghahhhdhaaGreatDoorVal3
import Derived.Test.YtjablghahhhdhaaGreatDoorAns
set_option linter.all false
namespace Go.Proofs.Tryz
open Go.RowKit
set_option maxRecDepth 10000

/-- The block of a stream that is asked from outside. -/
def StreamBox (w : World) (b : Nat) (f : Value) : Prop := w.heap[b]? = some (.cells #[f, .int .u8 0, .string ⟨#[]⟩] 78 (0, 0))
theorem three_facts {w : World} {b : Nat} {x y z : Value} {t : TypeId} (h : w.heap[b]? = some (.cells #[x, y, z] t (0, 0))) : w.cell? ⟨b, 0, none⟩ = some x ∧ w.cell? ⟨b, 1, none⟩ = some y ∧ w.cell? ⟨b, 2, none⟩ = some z ∧ w.frozen? ⟨b, 0, none⟩ = false ∧ w.frozen? ⟨b, 1, none⟩ = false ∧ w.frozen? ⟨b, 2, none⟩ = false ∧ b < w.heap.size := by
  refine ⟨?_, ?_, ?_, ?_, ?_, ?_, lt_of_block h⟩ <;> simp [World.cell?, World.frozen?, h]
theorem StreamBox.same {w w' : World} {b : Nat} {f : Value} (h : StreamBox w b f) (e : w'.heap[b]? = w.heap[b]?) : StreamBox w' b f := e.trans h

theorem fn_nil (K : Nat) (cap : Array Value) (w : World) : Sem.run Tryz.prog (binOp BinOp.eql 66 (.func (.func K) #[] cap) .nilFunc) w = .ok (.bool false) w := by kernel_rfl

set_option maxHeartbeats 1000000 in
theorem next_some {w : World} {sb : Nat} {f : Value} {y : IV} {L : List IV} {E : Fin1} {F D : Nat → Prop} {out : ByteArray} (hb : StreamBox w sb f) (hS : Str (y :: L) E F D w f) (hsD : ¬ D sb) (hc : ∀ w', Fr D w w' → CanonAt w' y out) :
    Calls Tryz.prog 11 #[.pointer (some ⟨sb, 0, none⟩)] w fun e w' => Fr D w w' ∧ e = .returned (ansV 1 out) ∧ StreamBox w' sb f ∧ ∃ F' D', (∀ k, F' k → F k ∨ w.heap.size ≤ k) ∧ (∀ k, D' k → D k ∨ w.heap.size ≤ k) ∧ Str L E F' D' w' f := by
  obtain ⟨K, cap, rfl⟩ := hS.shape
  have hfn := fn_nil
  obtain ⟨c0, c1, c2, f0, f1, f2, hl⟩ := three_facts hb
  have hS2 := fun o => hS.move (w1 := w.alloc o) (fun k hk => (below_alloc w o).block k (hS.lt k hk)) (by simp)
  have n1 : ¬ D w.heap.size := new_not hS.lt hS.sub
  go_enter Tryz.func11, Tryz.ntmps11
  go_wp2_with (first
    | (go_at_call 24; refine (pull_some (hS2 _)).mono ?_; rintro e w1 ⟨k1, rfl, F', D', hF', hD', hS'⟩; have kw : Fr D w w1 := ((Fr.refl D w).alloc _).trans k1 (fun _ _ e => e))
    | (go_at_call 23; refine (answer_some (hc _ kw)).mono ?_; rintro e w2 ⟨rfl, k2⟩; simp only [ansV]; have q : w2.heap[w.heap.size]? = _ := (k2.block w.heap.size (by have := k1.size; simp at this; omega)).trans ((k1.block w.heap.size (by simp) n1).trans (heap_new w _)); obtain ⟨q0, q1, q2, q3, q4⟩ := two_facts q; have hk2 := k2.size))
  have kF : Fr (· = w.heap.size) w1 (((w2.setCell ⟨w.heap.size, 0, none⟩ (.int .u8 1)).setCell ⟨w.heap.size, 1, none⟩ (.string out)).alloc (.cells #[.int .u8 1, .string out] 43)) :=
    (((Fr.of_below (D := (· = w.heap.size)) k2).setCell _ (.inl rfl)).setCell _ (.inl rfl)).alloc _
  have kA : Fr D w (((w2.setCell ⟨w.heap.size, 0, none⟩ (.int .u8 1)).setCell ⟨w.heap.size, 1, none⟩ (.string out)).alloc (.cells #[.int .u8 1, .string out] 43)) := kw.trans kF (fun i hi e => by omega)
  refine bodyPost_ret (v := ansV 1 out) (by simp [results, Tryz.results11, go_sem, q4, q0, q1, ansV]) rfl ⟨kA, rfl, hb.same (kA.block _ hl hsD), F', D', ?_, ?_, hS'.after kF ?_⟩
  · intro k hk
    rcases hF' k hk with h | h
    · exact .inl h
    · simp at h; exact .inr (by omega)
  · intro k hk
    rcases hD' k hk with h | h
    · exact .inl h
    · simp at h; exact .inr (by omega)
  · intro k hk e
    rcases hF' k hk with h | h
    · have := hS.lt k h; omega
    · simp at h; omega

set_option maxHeartbeats 1000000 in
theorem next_arr {w : World} {sb : Nat} {f : Value} {l : List IV} {F D : Nat → Prop} {out : ByteArray} (hb : StreamBox w sb f) (hS : StrArr l F D w f) (hSD : ∀ k, D k → F k) (hsD : ¬ D sb) (hc : ∀ w' y, Fr D w w' → Arr w.heap.size l w' y → CanonAt w' y out) :
    Calls Tryz.prog 11 #[.pointer (some ⟨sb, 0, none⟩)] w fun e w' => Fr D w w' ∧ e = .returned (ansV 1 out) ∧ StreamBox w' sb f ∧ ∃ F' D', (∀ k, F' k → F k ∨ w.heap.size ≤ k) ∧ (∀ k, D' k → D k ∨ w.heap.size ≤ k) ∧ Str [] .none F' D' w' f := by
  obtain ⟨K, cap, rfl⟩ := hS.shape
  have hfn := fn_nil
  obtain ⟨c0, c1, c2, f0, f1, f2, hl⟩ := three_facts hb
  have hS2 := fun o => hS.move (w1 := w.alloc o) (fun k hk => (below_alloc w o).block k (hS.lt k hk)) (by simp)
  have n1 : ¬ D w.heap.size := new_not hS.lt hSD
  go_enter Tryz.func11, Tryz.ntmps11
  go_wp2_with (first
    | (go_at_call 24; refine (pull_arr (hS2 _)).mono ?_; rintro e w1 ⟨k1, y, rfl, ha, F', D', hF', hD', hS'⟩; have kw : Fr D w w1 := ((Fr.refl D w).alloc _).trans k1 (fun _ _ e => e))
    | (go_at_call 23; refine (answer_some (hc _ _ kw (ha.low (by simp; omega)))).mono ?_; rintro e w2 ⟨rfl, k2⟩; simp only [ansV]; have q : w2.heap[w.heap.size]? = _ := (k2.block w.heap.size (by have := k1.size; simp at this; omega)).trans ((k1.block w.heap.size (by simp) n1).trans (heap_new w _)); obtain ⟨q0, q1, q2, q3, q4⟩ := two_facts q; have hk2 := k2.size))
  have kF : Fr (· = w.heap.size) w1 (((w2.setCell ⟨w.heap.size, 0, none⟩ (.int .u8 1)).setCell ⟨w.heap.size, 1, none⟩ (.string out)).alloc (.cells #[.int .u8 1, .string out] 43)) :=
    (((Fr.of_below (D := (· = w.heap.size)) k2).setCell _ (.inl rfl)).setCell _ (.inl rfl)).alloc _
  have kA : Fr D w (((w2.setCell ⟨w.heap.size, 0, none⟩ (.int .u8 1)).setCell ⟨w.heap.size, 1, none⟩ (.string out)).alloc (.cells #[.int .u8 1, .string out] 43)) := kw.trans kF (fun i hi e => by omega)
  refine bodyPost_ret (v := ansV 1 out) (by simp [results, Tryz.results11, go_sem, q4, q0, q1, ansV]) rfl ⟨kA, rfl, hb.same (kA.block _ hl hsD), F', D', ?_, ?_, hS'.after kF ?_⟩
  · intro k hk
    rcases hF' k hk with h | h
    · exact .inl h
    · simp at h; exact .inr (by omega)
  · intro k hk
    rcases hD' k hk with h | h
    · exact .inl h
    · simp at h; exact .inr (by omega)
  · intro k hk e
    rcases hF' k hk with h | h
    · have := hS.lt k h; omega
    · simp at h; omega

set_option maxHeartbeats 1000000 in
theorem next_done {w : World} {sb : Nat} {f : Value} {F D : Nat → Prop} (hb : StreamBox w sb f) (hS : Str [] .none F D w f) (hsD : ¬ D sb) :
    Calls Tryz.prog 11 #[.pointer (some ⟨sb, 0, none⟩)] w fun e w' => Fr (fun k => D k ∨ k = sb) w w' ∧ e = .returned (ansV 0 ⟨#[]⟩) := by
  obtain ⟨K, cap, rfl⟩ := hS.shape
  have hfn := fn_nil
  obtain ⟨c0, c1, c2, f0, f1, f2, hl⟩ := three_facts hb
  have hS2 := fun o => hS.move (w1 := w.alloc o) (fun k hk => (below_alloc w o).block k (hS.lt k hk)) (by simp)
  have n1 : ¬ D w.heap.size := new_not hS.lt hS.sub
  go_enter Tryz.func11, Tryz.ntmps11
  go_wp2_with (first
    | (go_at_call 24; refine (pull_done (hS2 _)).mono ?_; rintro e w1 ⟨k1, rfl⟩; have kw : Fr D w w1 := ((Fr.refl D w).alloc _).trans k1 (fun _ _ e => e))
    | (go_at_call 23; refine answer_done.mono ?_; rintro e w2 ⟨rfl, k2⟩; simp only [ansV]; have kv : Fr D w w2 := kw.trans (Fr.of_below (D := D) k2) (fun _ _ e => e); have q : w2.heap[w.heap.size]? = _ := (k2.block w.heap.size (by have := k1.size; simp at this; omega)).trans ((k1.block w.heap.size (by simp) n1).trans (heap_new w _)); obtain ⟨q0, q1, q2, q3, q4⟩ := two_facts q; obtain ⟨d0, d1, d2, g0, g1, g2, hl2⟩ := three_facts (hb.same (kv.block _ hl hsD))))
  have ns1 : ¬ sb = w2.heap.size := by omega
  have ns2 : ¬ w2.heap.size = sb := by omega
  go_region
  all_goals
    go_wp2
    exact bodyPost_ret (v := ansV 0 ⟨#[]⟩) (by simp [results, Tryz.results11, go_sem, q4, q0, q1, ansV, show ¬ w.heap.size = sb by omega, show ¬ sb = w.heap.size by omega]) rfl ⟨(((((((kv.mono (E := fun k => D k ∨ k = sb) (fun _ => .inl)).setCell _ (.inl (.inr rfl))).setCell _ (.inl (.inr rfl))).setCell _ (.inl (.inr rfl))).setCell _ (.inr (Nat.le_refl _))).setCell _ (.inr (Nat.le_refl _))).alloc _).drewN 1, rfl⟩
set_option maxHeartbeats 1000000 in
theorem next_thrown {w : World} {sb : Nat} {f : Value} {v : IV} {F D : Nat → Prop} {out : ByteArray} (hb : StreamBox w sb f) (hS : Str [] (.some v) F D w f) (hsD : ¬ D sb) (hc : ∀ w', Fr D w w' → CanonAt w' v out) :
    Calls Tryz.prog 11 #[.pointer (some ⟨sb, 0, none⟩)] w fun e w' => Fr (fun k => D k ∨ k = sb) w w' ∧ e = .returned (ansV 2 out) := by
  obtain ⟨K, cap, rfl⟩ := hS.shape
  have hfn := fn_nil
  obtain ⟨c0, c1, c2, f0, f1, f2, hl⟩ := three_facts hb
  have hS2 := fun o => hS.move (w1 := w.alloc o) (fun k hk => (below_alloc w o).block k (hS.lt k hk)) (by simp)
  have n1 : ¬ D w.heap.size := new_not hS.lt hS.sub
  go_enter Tryz.func11, Tryz.ntmps11
  go_wp2_with (first
    | (go_at_call 24; refine (pull_thrown (hS2 _)).mono ?_; rintro e w1 ⟨k1, b, hb1, rfl, hbb⟩; have kw : Fr D w w1 := ((Fr.refl D w).alloc _).trans k1 (fun _ _ e => e))
    | (go_at_call 23; refine (answer_failed hbb (hc _ kw)).mono ?_; rintro e w2 ⟨rfl, k2⟩; simp only [ansV]; have kv : Fr D w w2 := kw.trans (Fr.of_below (D := D) k2) (fun _ _ e => e); have q : w2.heap[w.heap.size]? = _ := (k2.block w.heap.size (by have := k1.size; simp at this; omega)).trans ((k1.block w.heap.size (by simp) n1).trans (heap_new w _)); obtain ⟨q0, q1, q2, q3, q4⟩ := two_facts q; obtain ⟨d0, d1, d2, g0, g1, g2, hl2⟩ := three_facts (hb.same (kv.block _ hl hsD))))
  have ns1 : ¬ sb = w2.heap.size := by omega
  have ns2 : ¬ w2.heap.size = sb := by omega
  go_region
  all_goals
    go_wp2
    exact bodyPost_ret (v := ansV 2 out) (by simp [results, Tryz.results11, go_sem, q4, q0, q1, ansV, show ¬ w.heap.size = sb by omega, show ¬ sb = w.heap.size by omega]) rfl ⟨(((((((kv.mono (E := fun k => D k ∨ k = sb) (fun _ => .inl)).setCell _ (.inl (.inr rfl))).setCell _ (.inl (.inr rfl))).setCell _ (.inl (.inr rfl))).setCell _ (.inr (Nat.le_refl _))).setCell _ (.inr (Nat.le_refl _))).alloc _).drewN 1, rfl⟩
end Go.Proofs.Tryz

namespace Go.Proofs.Tryz
open Go.RowKit
set_option maxRecDepth 100000

/-- A row of so many definitions, and a point behind them. -/
def chainB : Tr → Nat → Bool
  | .done _, _ => false
  | .ask _ kind k, n => match kind, n with
    | 0, 0 => true
    | 15, n + 1 => chainB (k 2) n
    | 16, n + 1 => chainB (k 2) n
    | _, _ => false
def defOk (o : Option Tr) (n : Nat) : Bool := match o with
  | some t => chainB t n
  | none => false
theorem chain_of {o : Option Tr} {n : Nat} (h : defOk o n = true) : ∃ t, o = some t ∧ chainB t n = true := by
  cases o with
  | none => cases h
  | some t => exact ⟨t, rfl, h⟩
theorem defsRead : defOk (readAs fDefs) 8 = true := by kernel_rfl
theorem defs_chain : ∃ t, readAs fDefs = some t ∧ chainB t 8 = true := chain_of defsRead

set_option maxHeartbeats 1000000 in
theorem withDef_ok {w : World} {kn : Option Addr} {b d o n c : Nat} {name : ByteArray} (c0 : w.cell? ⟨b, 0, none⟩ = some (.string name)) (c1 : w.cell? ⟨b, 1, none⟩ = some (.slice (some ⟨d, o, none⟩) n c)) :
    Calls Tryz.prog 42 #[.pointer kn, .pointer (some ⟨b, 0, none⟩)] w fun e w' => (∃ k, e = .returned (.pointer k)) ∧ Below w.heap.size w w' := by
  go_enter Tryz.func42, Tryz.ntmps42
  go_wp2
  go_region_held3 (fun w' => w'.cell? ⟨b, 0, none⟩ = some (.string name) ∧ w'.cell? ⟨b, 1, none⟩ = some (.slice (some ⟨d, o, none⟩) n c)) (go_keep) (fail)
  all_goals
    go_wp2
    go_ret
    exact ⟨⟨_, rfl⟩, (Below.refl w.heap.size w).drew.alloc (Nat.le_refl _) _⟩

theorem chain_step {p : Nat → Prop} {w : World} {v : Value} {t : Tr} {n : Nat} (h : Rep p w v t) (hc : chainB t (n + 1) = true) :
    ∃ b d o m c name x t', v = .iface 120 (.pointer (some ⟨b, 0, none⟩)) ∧ w.cell? ⟨b, 0, none⟩ = some (.string name) ∧ w.cell? ⟨b, 1, none⟩ = some (.slice (some ⟨d, o, none⟩) m c) ∧ w.cell? ⟨b, 3, none⟩ = some x ∧ Rep p w x t' ∧ chainB t' n = true := by
  cases t with
  | done y => cases hc
  | ask s0 kind k =>
    match kind, h, hc with
    | 15, h, hc => obtain ⟨b, d, o, c, x, y, rfl, a, a', c0, c1, c2, c3, c4, r1, r2⟩ := h; exact ⟨_, _, _, _, _, _, _, _, rfl, c0, c1, c4, r2, hc⟩
    | 16, h, hc => obtain ⟨b, d, o, c, x, y, rfl, a, a', c0, c1, c2, c2', c3, c4, r1, r2⟩ := h; exact ⟨_, _, _, _, _, _, _, _, rfl, c0, c1, c4, r2, hc⟩
    | 0, _, hc => cases hc
    | 1, _, hc => cases hc
    | 2, _, hc => cases hc
    | 3, _, hc => cases hc
    | 4, _, hc => cases hc
    | 5, _, hc => cases hc
    | 6, _, hc => cases hc
    | 7, _, hc => cases hc
    | 8, _, hc => cases hc
    | 9, _, hc => cases hc
    | 10, _, hc => cases hc
    | 11, _, hc => cases hc
    | 12, _, hc => cases hc
    | 13, _, hc => cases hc
    | 14, _, hc => cases hc
    | _ + 17, h, _ => exact h.elim
theorem chain_end {p : Nat → Prop} {w : World} {v : Value} {t : Tr} (h : Rep p w v t) (hc : chainB t 0 = true) : ∃ b, v = .iface 125 (.pointer (some ⟨b, 0, none⟩)) := by
  cases t with
  | done y => cases hc
  | ask s0 kind k =>
    match kind, h, hc with
    | 0, h, hc => exact h
    | 1, _, hc => cases hc
    | 2, _, hc => cases hc
    | 3, _, hc => cases hc
    | 4, _, hc => cases hc
    | 5, _, hc => cases hc
    | 6, _, hc => cases hc
    | 7, _, hc => cases hc
    | 8, _, hc => cases hc
    | 9, _, hc => cases hc
    | 10, _, hc => cases hc
    | 11, _, hc => cases hc
    | 12, _, hc => cases hc
    | 13, _, hc => cases hc
    | 14, _, hc => cases hc
    | 15, _, hc => cases hc
    | 16, _, hc => cases hc
    | _ + 17, h, _ => exact h.elim

set_option maxHeartbeats 4000000 in
theorem given_ok (hI : ParsesInt) (w : World) (hS : SignsIn w) : Calls Tryz.prog 21 #[] w fun e w' => (∃ k, e = .returned (.pointer k)) ∧ Below w.heap.size w w' := by
  obtain ⟨t, ht, hc⟩ := defs_chain
  have hR := readAs_ok hI ht w (of_decide_eq_true (by kernel_rfl)) hS
  have hD := hitDef
  have hM := missDef
  go_enter Tryz.func21, Tryz.ntmps21
  go_wp2_with (go_at_call 9; refine hR.mono ?_; rintro e w1 ⟨T, b, rfl, k1, r1⟩)
  go_loopg [1, 2] 8 (fun k v t wr => (∃ kn, v = .pointer kn) ∧ ∃ tr, Rep (w.heap.size ≤ ·) wr t tr ∧ chainB tr k = true ∧ Below w.heap.size w wr)
  case atStart => exact ⟨⟨_, rfl⟩, t, r1, hc, k1⟩
  case round =>
    obtain ⟨⟨kn, rfl⟩, tr, hr, hch, hb⟩ := hrel
    match gk, hch with
    | 0, hch =>
      obtain ⟨b', rfl⟩ := chain_end hr hch
      go_wp2_with fail
      go_ret
      exact ⟨⟨_, rfl⟩, hb⟩
    | k + 1, hch =>
      obtain ⟨b', d, o, m, c, name, x, t', rfl, c0, c1, c3, r3, hch'⟩ := chain_step hr hch
      have hlt := cell_lt c3
      obtain ⟨T3, b3, rfl⟩ := r3.shape
      go_wp2_with (go_at_call 42; refine (withDef_ok c0 c1).mono ?_; rintro e w2 ⟨⟨kn2, rfl⟩, k2⟩; have c3' := (k2.cell (p := ⟨b', 3, none⟩) hlt).trans c3)
      go_roundg k
      case measure => omega
      case rel => exact ⟨⟨_, rfl⟩, t', r3.upon k2, hch', hb.trans (k2.mono hb.size)⟩
end Go.Proofs.Tryz

namespace Go.Proofs.Tryz
open Go.RowKit
set_option maxRecDepth 10000

theorem SignsIn.same {B : Nat} {w w' : World} (h : SignsIn w) (hs : SameOn (· < B) w w') (hg : 0 < B) (hl : B ≤ w'.heap.size) : SignsIn w' :=
  ⟨fun j v hv => (World.cell?_of_block (w := w) (hs _ hg)).trans (h.1 j v hv), Nat.lt_of_lt_of_le hg hl⟩

theorem PlaceBox.facts {w : World} {b : Nat} {kn : Option Addr} {d : Int} (h : PlaceBox w b kn d) : w.cell? ⟨b, 0, none⟩ = some (.pointer kn) ∧ w.cell? ⟨b, 1, none⟩ = some (.int .i64 d) ∧ w.frozen? ⟨b, 0, none⟩ = false ∧ w.frozen? ⟨b, 1, none⟩ = false ∧ b < w.heap.size :=
  ⟨h.c0, h.c1, by simp [World.frozen?, PlaceBox] at *; simp [h], by simp [World.frozen?, PlaceBox] at *; simp [h], h.lt⟩

theorem keep2 {w1 : World} {db n : Nat} {a1 a2 v : Value} (h : db < n) (e : w1.cell? ⟨db, 0, none⟩ = some v) : ((w1.setCell ⟨n, 0, none⟩ a1).setCell ⟨n, 1, none⟩ a2).cell? ⟨db, 0, none⟩ = some v := by
  rw [World.cell?_setCell_far _ _ _ _ (by simp; omega), World.cell?_setCell_far _ _ _ _ (by simp; omega)]
  exact e

theorem enters_start1 : Enters Tryz.prog 20 := enters_of Tryz.func20 (by kernel_rfl) rfl
/-- What the stream of a filter is opened as: whatever is known of it. -/
def OpensQ (B : Nat) (w0 : World) (v : Value) (x : IV) (Q : Nat → World → Value → Prop) : Prop := ∀ (w : World) (kn : Option Addr) (d : Int), SameOn (· < B) w0 w → B ≤ w.heap.size →
  Calls Tryz.prog 22 #[.agg #[.pointer kn, .int .i64 d], v, .agg #[iv x, .pointer none]] w fun e w' => Below w.heap.size w w' ∧ ∃ K cap, e = .returned (.func (.func K) #[] cap) ∧ Q w.heap.size w' (.func (.func K) #[] cap)

end Go.Proofs.Tryz

namespace Go.Proofs.Tryz
open Go.RowKit
set_option maxRecDepth 10000

set_option maxHeartbeats 8000000 in
theorem start1_50 (hI : ParsesInt) {B db fb ib : Nat} {w0 w : World} {T T1 b1 : Nat} {u : Value} {Q : Nat → World → Value → Prop} (hd : Box w db (.int .i64 50) 3) (hf : Box w fb (.iface T1 (.pointer (some ⟨b1, 0, none⟩))) 37) (hi : Box w ib (.iface T u) 32) (hO : OpensQ B w0 (.iface T1 (.pointer (some ⟨b1, 0, none⟩))) (T, u) Q) (hS : SignsIn w0) (hg : 0 < B) (hs : SameOn (· < B) w0 w) (hB : B ≤ w.heap.size) :
    Calls Tryz.prog 20 #[.pointer (some ⟨db, 0, none⟩), .pointer (some ⟨fb, 0, none⟩), .pointer (some ⟨ib, 0, none⟩)] w fun e w' => Below w.heap.size w w' ∧ ∃ n K cap, w.heap.size ≤ n ∧ e = .returned (.func (.func K) #[] cap) ∧ Q n w' (.func (.func K) #[] cap) := by
  have d0 := hd.cell
  have hdl := hd.lt
  have f0 := hf.cell
  have i0 := hi.cell
  simp only [OpensQ, iv] at hO
  have hG : ∀ w', Below w.heap.size w w' → Calls Tryz.prog 21 #[] w' fun e w'' => ∃ kn, e = .returned (.pointer kn) ∧ Below w'.heap.size w' w'' ∧ w''.cell? ⟨db, 0, none⟩ = some (.int .i64 50) := by
    intro w' kW
    refine (given_ok hI _ (hS.same (hs.trans (fun k hk => kW.block k (Nat.lt_of_lt_of_le hk hB))) hg (Nat.le_trans hB kW.size))).mono ?_
    rintro e w1 ⟨⟨kn, rfl⟩, k1⟩
    exact ⟨kn, rfl, k1, ((kW.trans (k1.mono kW.size)).cell (p := ⟨db, 0, none⟩) hd.lt).trans d0⟩
  have hfl := hf.lt
  have hil := hi.lt
  have hG2 : ∀ w', Below w.heap.size w w' → Calls Tryz.prog 21 #[] w' fun e w'' => ∃ kn, e = .returned (.pointer kn) ∧ Below w'.heap.size w' w'' ∧ w''.cell? ⟨db, 0, none⟩ = some (.int .i64 50) ∧ Below w.heap.size w w'' ∧ w''.cell? ⟨fb, 0, none⟩ = some (.iface T1 (.pointer (some ⟨b1, 0, none⟩))) ∧ w''.cell? ⟨ib, 0, none⟩ = some (.iface T u) ∧ fb < w''.heap.size ∧ ib < w''.heap.size := by
    intro w' kW
    refine (hG w' kW).mono ?_
    rintro e w1 ⟨kn, rfl, k1, e4⟩
    have kY := kW.trans (k1.mono kW.size)
    exact ⟨kn, rfl, k1, e4, kY, (kY.cell (p := ⟨fb, 0, none⟩) hfl).trans f0, (kY.cell (p := ⟨ib, 0, none⟩) hil).trans i0, Nat.lt_of_lt_of_le hfl kY.size, Nat.lt_of_lt_of_le hil kY.size⟩
  have nf1 : ¬ w.heap.size = fb := by omega
  have nf2 : ¬ fb = w.heap.size := by omega
  have ni1 : ¬ w.heap.size = ib := by omega
  have ni2 : ¬ ib = w.heap.size := by omega
  go_enter Tryz.func20, Tryz.ntmps20
  go_wp2_with fail
  go_region_held3 (fun w' => w'.cell? ⟨db, 0, none⟩ = some (.int .i64 50)) (first | exact e4 | exact keep2 hdl e4 | go_keep)
    (first
      | (go_at_call 21; refine (hG2 _ (by first | exact (Below.refl _ _).drew | exact (Below.refl _ _).drew.alloc (by simp) _)).mono ?_; rintro e w1 ⟨kn, rfl, kX, e4, kY, f1, i1, fl, il⟩; first | (have q : PlaceBox w1 w.heap.size none 0 := PlaceBox.same (heap_new w.drew _) (kX.block _ (by simp)); obtain ⟨q0, q1, q2, q3, q4⟩ := q.facts) | skip))
  all_goals first
    | (go_wp2_with (go_at_call 22; refine (hO _ kn 50 (hs.trans (fun k hk => (kY.alloc kY.size _).block k (Nat.lt_of_lt_of_le hk hB))) (by have := kY.size; simp; omega)).mono ?_; rintro e w2 ⟨k2, K, cap, rfl, hQ⟩)
       go_ret
       exact ⟨(kY.alloc kY.size _).trans (k2.mono (by have := kY.size; simp; omega)), _, K, cap, (by have := kY.size; simp; omega), rfl, hQ⟩)
    | (go_wp2_with (go_at_call 22; refine (hO _ kn 50 (hs.trans (fun k hk => ((kY.setCell (p := ⟨w.heap.size, 0, none⟩) (Nat.le_refl _) _).setCell (p := ⟨w.heap.size, 1, none⟩) (Nat.le_refl _) _).block k (Nat.lt_of_lt_of_le hk hB))) (by have := kY.size; simp; omega)).mono ?_; rintro e w2 ⟨k2, K, cap, rfl, hQ⟩)
       go_ret
       exact ⟨((kY.setCell (p := ⟨w.heap.size, 0, none⟩) (Nat.le_refl _) _).setCell (p := ⟨w.heap.size, 1, none⟩) (Nat.le_refl _) _).trans (k2.mono (by have := kY.size; simp; omega)), _, K, cap, (by have := kY.size; simp; omega), rfl, hQ⟩)
end Go.Proofs.Tryz

namespace Go.Proofs.Tryz
open Go.RowKit
set_option maxRecDepth 10000

set_option maxHeartbeats 8000000 in
theorem start1_0 (hI : ParsesInt) {B db fb ib : Nat} {w0 w : World} {T T1 b1 : Nat} {u : Value} {Q : Nat → World → Value → Prop} (hd : Box w db (.int .i64 0) 3) (hf : Box w fb (.iface T1 (.pointer (some ⟨b1, 0, none⟩))) 37) (hi : Box w ib (.iface T u) 32) (hO : OpensQ B w0 (.iface T1 (.pointer (some ⟨b1, 0, none⟩))) (T, u) Q) (hS : SignsIn w0) (hg : 0 < B) (hs : SameOn (· < B) w0 w) (hB : B ≤ w.heap.size) :
    Calls Tryz.prog 20 #[.pointer (some ⟨db, 0, none⟩), .pointer (some ⟨fb, 0, none⟩), .pointer (some ⟨ib, 0, none⟩)] w fun e w' => Below w.heap.size w w' ∧ ∃ n K cap, w.heap.size ≤ n ∧ e = .returned (.func (.func K) #[] cap) ∧ Q n w' (.func (.func K) #[] cap) := by
  have d0 := hd.cell
  have hdl := hd.lt
  have f0 := hf.cell
  have i0 := hi.cell
  simp only [OpensQ, iv] at hO
  have hG : ∀ w', Below w.heap.size w w' → Calls Tryz.prog 21 #[] w' fun e w'' => ∃ kn, e = .returned (.pointer kn) ∧ Below w'.heap.size w' w'' ∧ w''.cell? ⟨db, 0, none⟩ = some (.int .i64 0) := by
    intro w' kW
    refine (given_ok hI _ (hS.same (hs.trans (fun k hk => kW.block k (Nat.lt_of_lt_of_le hk hB))) hg (Nat.le_trans hB kW.size))).mono ?_
    rintro e w1 ⟨⟨kn, rfl⟩, k1⟩
    exact ⟨kn, rfl, k1, ((kW.trans (k1.mono kW.size)).cell (p := ⟨db, 0, none⟩) hd.lt).trans d0⟩
  have hfl := hf.lt
  have hil := hi.lt
  have hG2 : ∀ w', Below w.heap.size w w' → Calls Tryz.prog 21 #[] w' fun e w'' => ∃ kn, e = .returned (.pointer kn) ∧ Below w'.heap.size w' w'' ∧ w''.cell? ⟨db, 0, none⟩ = some (.int .i64 0) ∧ Below w.heap.size w w'' ∧ w''.cell? ⟨fb, 0, none⟩ = some (.iface T1 (.pointer (some ⟨b1, 0, none⟩))) ∧ w''.cell? ⟨ib, 0, none⟩ = some (.iface T u) ∧ fb < w''.heap.size ∧ ib < w''.heap.size := by
    intro w' kW
    refine (hG w' kW).mono ?_
    rintro e w1 ⟨kn, rfl, k1, e4⟩
    have kY := kW.trans (k1.mono kW.size)
    exact ⟨kn, rfl, k1, e4, kY, (kY.cell (p := ⟨fb, 0, none⟩) hfl).trans f0, (kY.cell (p := ⟨ib, 0, none⟩) hil).trans i0, Nat.lt_of_lt_of_le hfl kY.size, Nat.lt_of_lt_of_le hil kY.size⟩
  have nf1 : ¬ w.heap.size = fb := by omega
  have nf2 : ¬ fb = w.heap.size := by omega
  have ni1 : ¬ w.heap.size = ib := by omega
  have ni2 : ¬ ib = w.heap.size := by omega
  go_enter Tryz.func20, Tryz.ntmps20
  go_wp2_with fail
  go_region_held3 (fun w' => w'.cell? ⟨db, 0, none⟩ = some (.int .i64 0)) (first | exact e4 | exact keep2 hdl e4 | go_keep)
    (first
      | (go_at_call 21; refine (hG2 _ (by first | exact (Below.refl _ _).drew | exact (Below.refl _ _).drew.alloc (by simp) _)).mono ?_; rintro e w1 ⟨kn, rfl, kX, e4, kY, f1, i1, fl, il⟩; first | (have q : PlaceBox w1 w.heap.size none 0 := PlaceBox.same (heap_new w.drew _) (kX.block _ (by simp)); obtain ⟨q0, q1, q2, q3, q4⟩ := q.facts) | skip))
  all_goals first
    | (go_wp2_with (go_at_call 22; refine (hO _ kn 0 (hs.trans (fun k hk => (kY.alloc kY.size _).block k (Nat.lt_of_lt_of_le hk hB))) (by have := kY.size; simp; omega)).mono ?_; rintro e w2 ⟨k2, K, cap, rfl, hQ⟩)
       go_ret
       exact ⟨(kY.alloc kY.size _).trans (k2.mono (by have := kY.size; simp; omega)), _, K, cap, (by have := kY.size; simp; omega), rfl, hQ⟩)
    | (go_wp2_with (go_at_call 22; refine (hO _ kn 0 (hs.trans (fun k hk => ((kY.setCell (p := ⟨w.heap.size, 0, none⟩) (Nat.le_refl _) _).setCell (p := ⟨w.heap.size, 1, none⟩) (Nat.le_refl _) _).block k (Nat.lt_of_lt_of_le hk hB))) (by have := kY.size; simp; omega)).mono ?_; rintro e w2 ⟨k2, K, cap, rfl, hQ⟩)
       go_ret
       exact ⟨((kY.setCell (p := ⟨w.heap.size, 0, none⟩) (Nat.le_refl _) _).setCell (p := ⟨w.heap.size, 1, none⟩) (Nat.le_refl _) _).trans (k2.mono (by have := kY.size; simp; omega)), _, K, cap, (by have := kY.size; simp; omega), rfl, hQ⟩)
end Go.Proofs.Tryz

namespace Go.Proofs.Tryz
open Go.RowKit
set_option maxRecDepth 10000

/-- What a stream may be: values and an end, or an array. -/
abbrev Kd := Sum (List IV × Fin1) (List IV)
abbrev Kd.vals (l : List IV) (E : Fin1) : Kd := .inl (l, E)
abbrev Kd.arr (l : List IV) : Kd := .inr l
def SK (κ : Kd) (F D : Nat → Prop) (w : World) (f : Value) : Prop := match κ with
  | .inl (l, E) => Str l E F D w f
  | .inr l => StrArr l F D w f
def Kd.ok (κ : Kd) : Prop := match κ with
  | .inl (l, E) => SomeOrThrown l E
  | .inr _ => True
def GoodK (κ : Kd) (B n : Nat) (w : World) (f : Value) : Prop := ∃ F D, SK κ F D w f ∧ (∀ k, F k → k < B ∨ n ≤ k) ∧ (∀ k, D k → n ≤ k)
theorem SK.shape {κ : Kd} {F D : Nat → Prop} {w : World} {f : Value} (h : SK κ F D w f) : ∃ K cap, f = .func (.func K) #[] cap := by
  match κ, h with
  | .inl (l, E), h => exact Str.shape h
  | .inr l, h => exact StrArr.shape h
theorem SK.lt {κ : Kd} {F D : Nat → Prop} {w : World} {f : Value} (h : SK κ F D w f) : ∀ k, F k → k < w.heap.size := by
  match κ, h with
  | .inl (l, E), h => exact Str.lt h
  | .inr l, h => exact StrArr.lt h
theorem SK.sub {κ : Kd} {F D : Nat → Prop} {w : World} {f : Value} (h : SK κ F D w f) : ∀ k, D k → F k := by
  match κ, h with
  | .inl (l, E), h => exact Str.sub h
  | .inr l, h => obtain ⟨_, _, _, _, _, h, _⟩ := h; exact h
theorem SK.move {κ : Kd} {F D : Nat → Prop} {w w1 : World} {f : Value} (h : SK κ F D w f) (hs : SameOn F w w1) (hl : w.heap.size ≤ w1.heap.size) : SK κ F D w1 f := by
  match κ, h with
  | .inl (l, E), h => exact Str.move h hs hl
  | .inr l, h => exact StrArr.move h hs hl

/-- behind of nothing and of what makes a stream. -/
theorem behindK {κ : Kd} {w : World} {C : Nat → Prop} {K : Nat} {cap : Array Value} (hok : κ.ok) (hE : Enters Tryz.prog K) (hC : ∀ k, C k → k < w.heap.size)
    (hT : ∀ w', SameOn C w w' → w.heap.size ≤ w'.heap.size → Calls Tryz.prog K cap w' fun e w'' => Below w'.heap.size w' w'' ∧ ∃ f F D, e = .returned f ∧ SK κ F D w'' f ∧ (∀ k, F k → C k ∨ w'.heap.size ≤ k) ∧ (∀ k, D k → w'.heap.size ≤ k)) :
    Calls Tryz.prog 18 #[.func (.func 19) #[] #[], .func (.func K) #[] cap] w fun e w' => Below w.heap.size w w' ∧ ∃ r F D, e = .returned r ∧ SK κ F D w' r ∧ (∀ k, F k → C k ∨ w.heap.size ≤ k) ∧ (∀ k, D k → w.heap.size ≤ k) := by
  match κ, hok, hT with
  | .inl (l, E), hok, hT =>
    refine (behind_ok (C := C) hok (none_str w) hC ⟨K, cap, rfl, hE, hC, fun w' a b => (hT w' a b).mono ?_⟩ (fun _ _ h => h.elim)).mono ?_
    · rintro e w'' ⟨k, f, F, D, rfl, hs, hF, hD⟩
      exact ⟨k, f, F, D, rfl, hs, hF, hD⟩
    · rintro e w' ⟨k, r, F, D, rfl, hs, hF, hD⟩
      refine ⟨k, r, F, D, rfl, hs, ?_, ?_⟩
      · intro k hk
        rcases hF k hk with h | h
        · exact h.elim
        · exact h
      · intro k hk
        rcases hD k hk with h | h
        · exact h.elim
        · exact h
  | .inr l, hok, hT =>
    have hSec : SecArr C w (.func (.func K) #[] cap) l := by
      refine ⟨K, cap, rfl, hE, hC, fun w' a b => (hT w' a b).mono ?_⟩
      rintro e w'' ⟨k, f, F, D, rfl, hs, hF, hD⟩
      exact ⟨k, f, F, D, rfl, hs, hF, hD⟩
    refine (behind_arr_ok (C := C) (none_str w) hC hSec (fun _ _ h => h.elim)).mono ?_
    · rintro e w' ⟨k, r, F, D, rfl, hs, hF, hD⟩
      refine ⟨k, r, F, D, rfl, hs, ?_, ?_⟩
      · intro k hk
        rcases hF k hk with h | h
        · exact h.elim
        · exact h
      · intro k hk
        rcases hD k hk with h | h
        · exact h.elim
        · exact h

theorem start1_ok (hI : ParsesInt) {d : Int} (hdd : d = 0 ∨ d = 50) {B db fb ib : Nat} {w0 w : World} {T T1 b1 : Nat} {u : Value} {Q : Nat → World → Value → Prop} (hd : Box w db (.int .i64 d) 3) (hf : Box w fb (.iface T1 (.pointer (some ⟨b1, 0, none⟩))) 37) (hi : Box w ib (.iface T u) 32) (hO : OpensQ B w0 (.iface T1 (.pointer (some ⟨b1, 0, none⟩))) (T, u) Q) (hS : SignsIn w0) (hg : 0 < B) (hs : SameOn (· < B) w0 w) (hB : B ≤ w.heap.size) :
    Calls Tryz.prog 20 #[.pointer (some ⟨db, 0, none⟩), .pointer (some ⟨fb, 0, none⟩), .pointer (some ⟨ib, 0, none⟩)] w fun e w' => Below w.heap.size w w' ∧ ∃ n K cap, w.heap.size ≤ n ∧ e = .returned (.func (.func K) #[] cap) ∧ Q n w' (.func (.func K) #[] cap) := by
  rcases hdd with rfl | rfl
  · exact start1_0 hI hd hf hi hO hS hg hs hB
  · exact start1_50 hI hd hf hi hO hS hg hs hB

theorem start_sec (hI : ParsesInt) {κ : Kd} {d : Int} (hdd : d = 0 ∨ d = 50) {B db fb ib : Nat} {w0 w : World} {T T1 b1 : Nat} {u : Value} (hd : Box w db (.int .i64 d) 3) (hf : Box w fb (.iface T1 (.pointer (some ⟨b1, 0, none⟩))) 37) (hi : Box w ib (.iface T u) 32) (hO : OpensQ B w0 (.iface T1 (.pointer (some ⟨b1, 0, none⟩))) (T, u) (GoodK κ B)) (hS : SignsIn w0) (hg : 0 < B) (hs : SameOn (· < B) w0 w) (hB : B ≤ w.heap.size) :
    ∀ w', SameOn (fun k => k < B ∨ k = db ∨ k = fb ∨ k = ib) w w' → w.heap.size ≤ w'.heap.size → Calls Tryz.prog 20 #[.pointer (some ⟨db, 0, none⟩), .pointer (some ⟨fb, 0, none⟩), .pointer (some ⟨ib, 0, none⟩)] w' fun e w'' => Below w'.heap.size w' w'' ∧ ∃ f F D, e = .returned f ∧ SK κ F D w'' f ∧ (∀ k, F k → (k < B ∨ k = db ∨ k = fb ∨ k = ib) ∨ w'.heap.size ≤ k) ∧ (∀ k, D k → w'.heap.size ≤ k) := by
  intro w' hs' hl
  refine (start1_ok hI hdd (hd.same (hs' _ (by simp))) (hf.same (hs' _ (by simp))) (hi.same (hs' _ (by simp))) hO hS hg (hs.trans (fun k hk => hs' k (.inl hk))) (Nat.le_trans hB hl)).mono ?_
  rintro e w'' ⟨k1, n, K, cap, hn, rfl, F, D, hsk, hF, hD⟩
  refine ⟨k1, _, F, D, rfl, hsk, ?_, fun k hk => Nat.le_trans hn (hD k hk)⟩
  intro k hk
  rcases hF k hk with h | h
  · exact .inl (.inl h)
  · exact .inr (Nat.le_trans hn h)

set_option maxHeartbeats 2000000 in
theorem Start_ok (hI : ParsesInt) {κ : Kd} (hok : κ.ok) {d : Int} (hdd : d = 0 ∨ d = 50) {B : Nat} {w0 w : World} {T T1 b1 : Nat} {u : Value} (hO : OpensQ B w0 (.iface T1 (.pointer (some ⟨b1, 0, none⟩))) (T, u) (GoodK κ B)) (hS : SignsIn w0) (hg : 0 < B) (hs : SameOn (· < B) w0 w) (hB : B ≤ w.heap.size) :
    Calls Tryz.prog 10 #[.iface T1 (.pointer (some ⟨b1, 0, none⟩)), .iface T u, .int .i64 d] w fun e w' => Below w.heap.size w w' ∧ ∃ sb f F D, e = .returned (.pointer (some ⟨sb, 0, none⟩)) ∧ StreamBox w' sb f ∧ SK κ F D w' f ∧ (∀ k, F k → k < B ∨ w.heap.size ≤ k) ∧ (∀ k, D k → w.heap.size ≤ k) ∧ ¬ F sb ∧ w.heap.size ≤ sb := by
  have k3 := below_alloc3 w (.cells #[.iface T1 (.pointer (some ⟨b1, 0, none⟩))] 37) (.cells #[.iface T u] 32) (.cells #[.int .i64 d] 3)
  have x0 : Box _ w.heap.size _ 37 := heap_at1 w (.cells #[.iface T1 (.pointer (some ⟨b1, 0, none⟩))] 37) (.cells #[.iface T u] 32) (.cells #[.int .i64 d] 3)
  have x1 : Box _ (w.heap.size + 1) _ 32 := heap_at2 w (.cells #[.iface T1 (.pointer (some ⟨b1, 0, none⟩))] 37) (.cells #[.iface T u] 32) (.cells #[.int .i64 d] 3)
  have x2 : Box _ (w.heap.size + 1 + 1) _ 3 := heap_new3 w (.cells #[.iface T1 (.pointer (some ⟨b1, 0, none⟩))] 37) (.cells #[.iface T u] 32) (.cells #[.int .i64 d] 3)
  have hsec := start_sec hI hdd x2 x0 x1 hO hS hg (hs.trans (fun k hk => k3.block k (Nat.lt_of_lt_of_le hk hB))) (Nat.le_trans hB k3.size)
  have hbe := behindK hok enters_start1 (fun k hk => by have := x0.lt; have := x1.lt; have := x2.lt; rcases hk with h | h | h | h <;> omega) hsec
  clear hsec x0 x1 x2
  go_enter Tryz.func10, Tryz.ntmps10
  go_wp2_with (go_at_call 18; refine hbe.mono ?_; rintro e w1 ⟨k1, r, F, D, rfl, hsk, hF, hD⟩; obtain ⟨K, cap, rfl⟩ := hsk.shape)
  have k1s := k1.size
  go_ret
  refine ⟨(k3.trans (k1.mono k3.size)).alloc (by have := k3.size; omega) _, _, _, F, D, rfl, heap_new w1 _, hsk.move (fun k hk => (below_alloc w1 _).block k (hsk.lt k hk)) (by simp), ?_, ?_, ?_, by have := k3.size; omega⟩
  · intro k hk
    rcases hF k hk with (h | h | h | h) | h
    · exact .inl h
    · exact .inr (by omega)
    · exact .inr (by omega)
    · exact .inr (by omega)
    · exact .inr (by have := k3.size; omega)
  · intro k hk
    have := hD k hk
    have := k3.size
    omega
  · intro hk
    have := hsk.lt _ hk
    omega
end Go.Proofs.Tryz

namespace Go.Proofs.Tryz
open Go.RowKit
set_option maxRecDepth 10000

theorem row_cnt {w : World} {N e s n : Nat} {v : Value} {xs : List Value} (h : w.ownsRow N e s v n xs) : n ≤ 9223372036854775807 := by
  rcases h.2 with ⟨_, h0⟩ | ⟨g, cap, cur, _, _, _, hn, hm, _, _⟩
  · omega
  · have : cap ≤ 9223372036854775807 := by simpa [maxLen] using hm
    omega
theorem FOk.cnt {w : World} {W : Nat} {f : Fm} (h : FOk w W f) : f.texts.length ≤ 9223372036854775807 := by
  have h1 := h.1
  by_cases ho : f.obj = true
  · rw [if_pos ho] at h1
    rw [texts_len_obj ho]
    exact row_cnt h1.1
  · rw [if_neg ho] at h1
    rw [texts_len_arr (by simpa using ho)]
    exact row_cnt h1.1
theorem rest_pos (f : Fm) : 1 ≤ f.rest.length := by unfold Fm.rest; rw [List.length_append, List.length_singleton]; omega
theorem restAll_len (fs : List Fm) : fs.length ≤ (restAll fs).length := by
  induction fs with
  | nil => simp [restAll]
  | cons f fs ih =>
    have := rest_pos f
    simp only [restAll, List.reverse_cons, List.flatMap_append, List.length_append, List.length_cons, List.flatMap_cons, List.flatMap_nil, List.append_nil] at ih ⊢
    omega
theorem step_ok (hA : AppendsIntK) {w : World} {B W : Nat} {out : Bys} {fs : List Fm} (h : WS w B W out fs) (hne : fs ≠ []) (ho : out.length ≤ 8000000000) (hr : (restAll fs).length ≤ 1000000000) (ht : Lib.TabBelow Tryz.prog W w "internal/strconv.uint64pow10" .u64 Lib.pow10Tab) :
    Calls Tryz.prog 14 #[.pointer (some ⟨W, 0, none⟩)] w fun e w' => e = .returned (.tuple #[]) ∧ StepW B W out fs w w' := by
  obtain ⟨lo, f, rfl⟩ : ∃ lo f, fs = lo ++ [f] := ⟨fs.dropLast, fs.getLast hne, (List.dropLast_concat_getLast hne).symm⟩
  have hok := h.ok f (by simp)
  have hcnt := hok.cnt
  have hnx := hok.2.2
  rw [restAll_app, List.length_append] at hr
  have hlo := restAll_len lo
  by_cases hend : f.next = f.texts.length
  · cases hob : f.obj with
    | false => exact step_end_arr h hend hob (by omega) (by omega) hcnt
    | true => exact step_end_obj h hend hob (by omega) (by omega) hcnt
  · by_cases h0 : f.next = 0
    · cases hob : f.obj with
      | false => exact step_arr0 hA h (by omega) h0 hob (by omega) (by omega) hcnt ht
      | true => exact step_obj0 hA h (by omega) h0 hob (by omega) (by omega) hcnt (by omega) ht
    · cases hob : f.obj with
      | false => exact step_arrN hA h (by omega) (by omega) hob (by omega) (by omega) hcnt ht
      | true => exact step_objN hA h (by omega) (by omega) hob (by omega) (by omega) hcnt (by omega) ht

/-- What the writer has before it: this is still to be written. -/
def WrI (B W : Nat) (c : Bys) (w : World) (out : Bys) (fs : List Fm) : Prop := WS w B W out fs ∧ out ++ restAll fs = c
theorem WrI.len {B W : Nat} {c : Bys} {w : World} {out : Bys} {fs : List Fm} (h : WrI B W c w out fs) : out.length + (restAll fs).length = c.length := by
  rw [← h.2, List.length_append]
set_option maxHeartbeats 4000000 in
theorem Canonical_any (hA : AppendsIntK) {w : World} {v : IV} {c : Bys} (hv : Vl w (· < w.heap.size) v c) (hc : c.length ≤ 1000000000) (hne : c ≠ []) (ht : Lib.TabBelow Tryz.prog w.heap.size w "internal/strconv.uint64pow10" .u64 Lib.pow10Tab) :
    Calls Tryz.prog 8 #[iv v] w fun e w' => e = .returned (.string ⟨c.toArray⟩) ∧ Below w.heap.size w w' := by
  have hbA : Below w.heap.size w (w.alloc (.cells #[.slice none 0 0, .slice none 0 0] 53)) := below_alloc w _
  have hW0 : WS (w.alloc (.cells #[.slice none 0 0, .slice none 0 0] 53)) (w.heap.size + 1) w.heap.size [] [] := ⟨by omega, by simp, ⟨_, _, heap_new w _, World.ownsRow_nil _ _ _ _, World.ownsRow_nil _ _ _ _⟩, by simp⟩
  have hbe := wbegin_any hA (v := v) (c := c) (hv.mono (fun q hq => ⟨hq, hbA.block q hq⟩)) hW0 (by simp) (by simp) (fun w' h' => ht w' (hbA.trans (h'.mono (by omega))))
  obtain ⟨T, u⟩ := v
  have hst : ∀ w1, Fr (fun k => k = w.heap.size ∨ w.heap.size + 1 ≤ k) (w.alloc (.cells #[.slice none 0 0, .slice none 0 0] 53)) w1 → Below w.heap.size w w1 := fun w1 hf => hbA.trans ⟨hf.os, hf.tape, hf.output, hf.size, fun k hk => hf.block k (by simp; omega) (by rintro (e | e) <;> omega)⟩
  have hstep : ∀ w1 out fs, WrI (w.heap.size + 1) w.heap.size c w1 out fs → fs ≠ [] → Below w.heap.size w w1 → Calls Tryz.prog 14 #[.pointer (some ⟨w.heap.size, 0, none⟩)] w1 fun e w' => e = .returned (.tuple #[]) ∧ (∃ out' fs', WrI (w.heap.size + 1) w.heap.size c w' out' fs' ∧ out.length < out'.length) ∧ Fr (fun k => k = w.heap.size ∨ w.heap.size + 1 ≤ k) w1 w' := fun w1 out fs hI hne hb => by
    have hl := hI.len
    refine (step_ok hA hI.1 hne (by omega) (by omega) (fun w' h' => ht w' (hb.trans h'))).mono ?_
    rintro e w' ⟨rfl, ⟨out', fs', h1, h2, h3⟩, h4⟩
    exact ⟨rfl, ⟨out', fs', ⟨h1, h2.trans hI.2⟩, h3⟩, h4⟩
  have HST : Aside _ := hst
  have HSTEP : Aside _ := hstep
  have HBE : Aside _ := hbe
  clear hst hstep hbe hv ht hW0 hbA
  go_enter Tryz.func8, Tryz.ntmps8
  go_wp2_with fail
  refine Calls.mono HBE.out ?_
  rintro e w1 ⟨rfl, ⟨⟨out1, new1, hws1, hr1, _⟩, fr1⟩⟩
  have hI1 : WrI (w.heap.size + 1) w.heap.size c w1 out1 new1 := ⟨by simpa using hws1, by simpa [restAll] using hr1⟩
  have HI1 : Aside _ := hI1
  have FR1 : Aside _ := fr1
  clear hI1 fr1 hws1 hr1
  go_wp2_with fail
  go_loopg [9] c.length (fun k v9 wr => ∃ (out : Bys) (fs : List Fm), c.length ≤ out.length + k ∧ Aside (WrI (w.heap.size + 1) w.heap.size c wr out fs) ∧ Aside (Fr (fun k => k = w.heap.size ∨ w.heap.size + 1 ≤ k) (w.alloc (.cells #[.slice none 0 0, .slice none 0 0] 53)) wr))
  case atStart => exact ⟨out1, new1, by omega, HI1, FR1⟩
  case round =>
    obtain ⟨out, fs, hk, HI, HF⟩ := hrel
    obtain ⟨ov, pv, hb, hown, hpv⟩ := HI.out.1.has
    obtain ⟨c0, c1, c2, c3, c4⟩ := two_c0 hb
    have hlen := HI.out.len
    obtain ⟨ra, rc, rfl⟩ : ∃ ra rc, pv = .slice ra fs.length rc := by
      rcases hpv.2 with ⟨e, h0⟩ | ⟨g', c', cur, e, _⟩
      · exact ⟨none, 0, by rw [e, h0]⟩
      · exact ⟨_, _, e⟩
    obtain ⟨oa, ol, oc, rfl⟩ := owns_shape hown
    by_cases hfs : fs = []
    · subst hfs
      have hoc : out = c := by have := HI.out.2; simpa [restAll] using this
      subst hoc
      obtain ⟨g, cp, hge, hcb⟩ := owns_bytes hown hne
      cases hge
      have hcv := run_convert_bytes_back (P := Tryz.prog) wr 50 9 5 ⟨g, 0, none⟩ oc out Tryz.underlying50 Tryz.underlying5 Tryz.underlying9 hcb
      simp only [List.length_nil] at c1
      clear hcb hown hpv hb
      go_wp2_with fail
      go_ret
      exact ⟨rfl, HST.out _ HF.out⟩
    · obtain ⟨n, hn⟩ : ∃ n, fs.length = n := ⟨_, rfl⟩
      have hn0 : (0 : Int) < (n : Int) := by have := List.length_pos_iff.2 hfs; omega
      rw [hn] at c1
      have HS : Aside _ := HSTEP.out wr out fs HI.out hfs (HST.out _ HF.out)
      clear hown hpv hb hn
      go_wp2_with fail
      refine Calls.mono HS.out ?_
      rintro e w2 ⟨rfl, ⟨out', fs', hI', hlt'⟩, hf'⟩
      have hl' := hI'.len
      have HI' : Aside _ := hI'
      have HF' : Aside _ := hf'
      clear hI' hf'
      go_wp2_with fail
      go_roundg (c.length - out'.length)
      case measure => omega
      case rel => exact ⟨out', fs', by omega, HI', HF.out.trans HF'.out (fun _ _ e => e)⟩
end Go.Proofs.Tryz

namespace Go.Proofs.Tryz
open Go.RowKit
set_option maxRecDepth 10000

theorem enters_made1 : Enters Tryz.prog 123 := enters_of Tryz.func123 (by kernel_rfl) rfl
set_option maxHeartbeats 2000000 in
theorem made1_ok {B pb fb sb b T1 b1 : Nat} {w0 w : World} {kn : Option Addr} {d : Int} {x : IV} {L : List IV} (hp : PlaceBox w pb kn d) (hf : Box w fb (.pointer (some ⟨b, 0, none⟩)) 230) (hx : SpotBox w sb (iv x)) (hb : b < B) (c0 : w0.cell? ⟨b, 0, none⟩ = some (.iface T1 (.pointer (some ⟨b1, 0, none⟩)))) (hO : Opens B w0 (.iface T1 (.pointer (some ⟨b1, 0, none⟩))) x L .none) (hs : SameOn (· < B) w0 w) (hB : B ≤ w.heap.size) (hL : L ≠ []) (hL2 : L.length ≤ 1000) :
    Calls Tryz.prog 123 #[.pointer (some ⟨pb, 0, none⟩), .pointer (some ⟨fb, 0, none⟩), .pointer (some ⟨sb, 0, none⟩)] w fun e w' => Below w.heap.size w w' ∧ ∃ y, e = .returned (iv y) ∧ Arr w.heap.size L w' y := by
  have hc := fun w' (k : Below w.heap.size w w') => collect_ok (kn := kn) (d := d) hO (hs.trans (fun j hj => k.block j (Nat.lt_of_lt_of_le hj hB))) (Nat.le_trans hB k.size) hL hL2
  obtain ⟨T, u⟩ := x
  simp only [iv] at hx hc ⊢
  obtain ⟨x0, x1, _, _, x4⟩ := hx.facts
  obtain ⟨p0, p1, _, _, p4⟩ := PlaceBox.facts hp
  have f0 := hf.cell
  have f2 := hf.lt
  have n0 := hs.cell hb c0
  have n2 : b < w.heap.size := by omega
  go_enter Tryz.func123, Tryz.ntmps123
  have s0 := six ((Below.refl _ w).drew) p0 p1 f0 n0 x0 x1
  go_wp2_with fail
  go_region_held3 (fun w' => w'.cell? ⟨pb, 0, none⟩ = some (.pointer kn) ∧ w'.cell? ⟨pb, 1, none⟩ = some (.int .i64 d) ∧ w'.cell? ⟨fb, 0, none⟩ = some (.pointer (some ⟨b, 0, none⟩)) ∧ w'.cell? ⟨b, 0, none⟩ = some (.iface T1 (.pointer (some ⟨b1, 0, none⟩))) ∧ w'.cell? ⟨sb, 0, none⟩ = some (.iface T u) ∧ w'.cell? ⟨sb, 1, none⟩ = some (.pointer none)) (first | exact s0 | exact e4 | go_keep)
    (first | (go_at_call 124; refine (hc _ (Below.refl _ _).drew).mono ?_; rintro e w1 ⟨k1, ⟨Ty, uy⟩, rfl, ha⟩; have kX : Below w.heap.size w w1 := (Below.refl _ _).drew.trans (k1.mono (by simp)); have e4 := six kX p0 p1 f0 n0 x0 x1))
  all_goals
    go_wp2_with fail
    go_ret
    exact ⟨kX, (Ty, uy), rfl, ha⟩

theorem out_collect {B pb fb sb b T1 b1 : Nat} {w0 w : World} {kn : Option Addr} {d : Int} {x : IV} {L : List IV} (hp : PlaceBox w pb kn d) (hf : Box w fb (.pointer (some ⟨b, 0, none⟩)) 230) (hx : SpotBox w sb (iv x)) (hb : b < B) (c0 : w0.cell? ⟨b, 0, none⟩ = some (.iface T1 (.pointer (some ⟨b1, 0, none⟩)))) (hO : Opens B w0 (.iface T1 (.pointer (some ⟨b1, 0, none⟩))) x L .none) (hs : SameOn (· < B) w0 w) (hB : B ≤ w.heap.size) (hL : L ≠ []) (hL2 : L.length ≤ 1000) :
    OutArr (fun k => k < B ∨ k = pb ∨ k = fb ∨ k = sb) w (.func (.func 123) #[] #[.pointer (some ⟨pb, 0, none⟩), .pointer (some ⟨fb, 0, none⟩), .pointer (some ⟨sb, 0, none⟩)]) L := by
  refine ⟨_, _, rfl, enters_made1, ?_, ?_⟩
  · have := hp.lt; have := hf.lt; have := hx.lt
    rintro k (h | h | h | h) <;> omega
  · intro w' hs' hl
    exact made1_ok (hp.same (hs' _ (by simp))) (hf.same (hs' _ (by simp))) (hx.same (hs' _ (by simp))) hb c0 hO (hs.trans (fun k hk => hs' k (.inl hk))) (Nat.le_trans hB hl) hL hL2

set_option maxHeartbeats 2000000 in
theorem made_collect {B b T1 b1 : Nat} {w0 : World} {x : IV} {L : List IV} (hb : b < B) (c0 : w0.cell? ⟨b, 0, none⟩ = some (.iface T1 (.pointer (some ⟨b1, 0, none⟩)))) (hO : Opens B w0 (.iface T1 (.pointer (some ⟨b1, 0, none⟩))) x L .none) (hL : L ≠ []) (hL2 : L.length ≤ 1000) : Mades B w0 (.iface 230 (.pointer (some ⟨b, 0, none⟩))) x (GoodArr B L) := by
  intro w kn d hs hB
  have n0 := hs.cell hb c0
  have n2 : b < w.heap.size := by omega
  have m0 := missLiteral
  have m1 := missVariable
  have m2 := hitCollect
  obtain ⟨T, u⟩ := x
  simp only [iv]
  have k3 := below_alloc3 w (.cells #[.pointer kn, .int .i64 d] 71) (.cells #[.iface T u, .pointer none] 75) (.cells #[.pointer (some ⟨b, 0, none⟩)] 230)
  have y0 : PlaceBox _ w.heap.size kn d := heap_at1 w (.cells #[.pointer kn, .int .i64 d] 71) (.cells #[.iface T u, .pointer none] 75) (.cells #[.pointer (some ⟨b, 0, none⟩)] 230)
  have y1 : SpotBox _ (w.heap.size + 1) (iv (T, u)) := heap_at2 w (.cells #[.pointer kn, .int .i64 d] 71) (.cells #[.iface T u, .pointer none] 75) (.cells #[.pointer (some ⟨b, 0, none⟩)] 230)
  have y2 : Box _ (w.heap.size + 1 + 1) (.pointer (some ⟨b, 0, none⟩)) 230 := heap_new3 w (.cells #[.pointer kn, .int .i64 d] 71) (.cells #[.iface T u, .pointer none] 75) (.cells #[.pointer (some ⟨b, 0, none⟩)] 230)
  have hw := worked_ok (out_collect y0 y2 y1 hb c0 hO (hs.trans (fun k hk => k3.block k (Nat.lt_of_lt_of_le hk hB))) (Nat.le_trans hB k3.size) hL hL2)
  clear y0 y1 y2
  have hk3 := k3.size
  go_enter Tryz.func66, Tryz.ntmps66
  go_wp2_with (go_at_call 122; refine hw.mono ?_; rintro e w1 ⟨k1, r, F, D, rfl, hS, hF, hD⟩; obtain ⟨K, cap, rfl⟩ := hS.shape)
  go_ret
  refine ⟨k3.trans (k1.mono hk3), K, cap, rfl, F, D, hS, ?_, fun k hk => Nat.le_trans hk3 (hD k hk)⟩
  intro k hk
  rcases hF k hk with (h | h | h | h) | h
  · exact .inl h
  · exact .inr (by omega)
  · exact .inr (by omega)
  · exact .inr (by omega)
  · exact .inr (Nat.le_trans hk3 h)

/-- What a filter is opened as. -/
theorem opensQ_of {B : Nat} {w0 : World} {v : Value} {x : IV} {l : List IV} {E : Fin1} (h : Opens B w0 v x l E) : OpensQ B w0 v x (GoodK (.vals l E) B) := by
  intro w kn d hs hB
  refine (h w kn d hs hB).mono ?_
  rintro e w' ⟨k, f, F, D, rfl, hS, hF, hD⟩
  obtain ⟨K, cap, rfl⟩ := hS.shape
  exact ⟨k, K, cap, rfl, F, D, hS, hF, hD⟩
theorem opensQ_res {B : Nat} {w0 : World} {v : Value} {x : IV} {r : Res} (h : OpensR B w0 v x r) : OpensQ B w0 v x (GoodK (match r with | .ok y => .vals [y] .none | .error y => .vals [] (.some y)) B) := by
  intro w kn d hs hB
  refine (h w kn d hs hB).mono ?_
  rintro e w' ⟨k, f, F, D, rfl, hS, hF, hD⟩
  cases r with
  | ok y =>
    obtain ⟨K, cap, rfl⟩ := hS.shape
    exact ⟨k, K, cap, rfl, F, D, hS, hF, hD⟩
  | error y =>
    obtain ⟨K, cap, rfl⟩ := hS.shape
    exact ⟨k, K, cap, rfl, F, D, hS, hF, hD⟩
theorem opensQ_collect {B b T1 b1 : Nat} {w0 : World} {x : IV} {L : List IV} (hb : b < B) (c0 : w0.cell? ⟨b, 0, none⟩ = some (.iface T1 (.pointer (some ⟨b1, 0, none⟩)))) (hO : Opens B w0 (.iface T1 (.pointer (some ⟨b1, 0, none⟩))) x L .none) (hL : L ≠ []) (hL2 : L.length ≤ 1000) : OpensQ B w0 (.iface 230 (.pointer (some ⟨b, 0, none⟩))) x (GoodK (.arr L) B) := by
  intro w kn d hs hB
  refine (open_default (.inr rfl) (made_collect hb c0 hO hL hL2) w kn d hs hB).mono ?_
  rintro e w1 ⟨k1, K, cap, w2, n, rfl, hn, k2, F, D, hS, hF, hD⟩
  exact ⟨k1, K, cap, rfl, F, D, hS.move (fun k hk => k2.block k (hS.lt k hk)) k2.size, fun k hk => (hF k hk).elim .inl (fun h => .inr (Nat.le_trans hn h)), fun k hk => Nat.le_trans hn (hD k hk)⟩
end Go.Proofs.Tryz

namespace Go.Proofs.Tryz
open Go.RowKit
set_option maxRecDepth 100000

theorem Fr.belowN {D : Nat → Prop} {n : Nat} {a w w' : World} (h : Fr D w w') (hD : ∀ k, D k → n ≤ k) (hb : Below n a w) (hn : n ≤ w.heap.size) : Below n a w' :=
  hb.trans ⟨h.os, h.tape, h.output, h.size, fun k hk => h.block k (by omega) (fun e => by have := hD k e; omega)⟩
theorem four_facts {w : World} {b : Nat} {x y z v : Value} {t : TypeId} (h : w.heap[b]? = some (.cells #[x, y, z, v] t (0, 0))) : (w.cell? ⟨b, 0, none⟩ = some x ∧ w.cell? ⟨b, 1, none⟩ = some y ∧ w.cell? ⟨b, 2, none⟩ = some z ∧ w.cell? ⟨b, 3, none⟩ = some v) ∧ (w.frozen? ⟨b, 0, none⟩ = false ∧ w.frozen? ⟨b, 1, none⟩ = false ∧ w.frozen? ⟨b, 2, none⟩ = false ∧ w.frozen? ⟨b, 3, none⟩ = false) ∧ b < w.heap.size := by
  refine ⟨⟨?_, ?_, ?_, ?_⟩, ⟨?_, ?_, ?_, ?_⟩, lt_of_block h⟩ <;> simp [World.cell?, World.frozen?, h]
def resV (st : Int) (o : Value) (e : ByteArray) : Value := .agg #[.int .u8 st, o, .string e, .int .i64 0]

/-- . -/
def fDot : ByteArray := ⟨#[46]⟩
theorem readsDot : readAs fDot = some .ident := by kernel_rfl

/-- What the proof asks of the library's functions, at a world and all that come of it. -/
structure Asks (w : World) : Prop where
  cmp : ComparesStr
  rune : AppendsRune
  int : ParsesInt
  app : AppendsIntK
  parse : ∀ w', Below w.heap.size w w' → ParsesAt w'
  signs : SignsIn w
  tab : Lib.TabBelow Tryz.prog w.heap.size w "internal/strconv.uint64pow10" .u64 Lib.pow10Tab
theorem Asks.below {w w' : World} (h : Asks w) (k : Below w.heap.size w w') : Asks w' :=
  ⟨h.cmp, h.rune, h.int, h.app, fun w2 k2 => h.parse w2 (k.trans (k2.mono k.size)), h.signs.below k, tab_up h.tab k k.size⟩

/-- value.Read, where the text is one. -/
theorem read_some {w : World} (h : Asks w) {s : ByteArray} {c : Bys} {p : Nat} (hm : s.size ≤ 10000000) (hr : readL s = (some c, p)) :
    Calls Tryz.prog 7 #[.string s] w fun e w' => (∃ T u, e = .returned (.tuple #[.iface T u, .int .i64 0, .bool true]) ∧ Vl w' (· < w'.heap.size) (T, u) c) ∧ Below w.heap.size w w' := by
  refine (read_any h.cmp h.rune h.parse hm).mono ?_
  rintro e w' ⟨hp, k⟩
  rw [hr] at hp
  obtain ⟨⟨T, u⟩, he, hv⟩ := hp
  exact ⟨⟨T, u, he, hv.mono (fun g hg => ⟨hg.2, rfl⟩)⟩, k⟩
/-- value.Read, where it isn't. -/
theorem read_none {w : World} (h : Asks w) {s : ByteArray} {p : Nat} (hm : s.size ≤ 10000000) (hr : readL s = (none, p)) :
    Calls Tryz.prog 7 #[.string s] w fun e w' => e = .returned (.tuple #[.nilIface, .int .i64 p, .bool false]) ∧ Below w.heap.size w w' := by
  refine (read_any h.cmp h.rune h.parse hm).mono ?_
  rintro e w' ⟨hp, k⟩
  rw [hr] at hp
  exact ⟨hp, k⟩
theorem canon_at {w : World} (h : Asks w) {x : IV} {c : Bys} (hv : Vl w (· < w.heap.size) x c) (hc : c.length ≤ 1000000000) (hne : c ≠ []) : CanonAt w x ⟨c.toArray⟩ := fun w' k =>
  Canonical_any h.app (hv.mono (fun q hq => ⟨Nat.lt_of_lt_of_le hq k.size, k.block q hq⟩)) hc hne (h.below k).tab

set_option maxHeartbeats 8000000 in
theorem run_dot {w : World} (h : Asks w) {s : ByteArray} {c : Bys} {p : Nat} (hm : s.size ≤ 10000000) (hr : readL s = (some c, p)) :
    Calls Tryz.prog 6 #[.string fDot, .string s, .int .i64 2, .int .i64 50] w fun e w' => Below w.heap.size w w' ∧ ∃ g cap, e = .returned (resV 0 (.slice (some ⟨g, 0, none⟩) 1 cap) ⟨#[]⟩) ∧ w'.cell? ⟨g, 0, none⟩ = some (.string ⟨c.toArray⟩) := by
  obtain ⟨i0, hi0, hz0, hz1, hz2⟩ := info_parts (show (Tryz.prog.info? 9).map (fun i => (i.zero, i.size, i.bytes)) = some (some (.string ⟨#[]⟩), 1, 16) by kernel_rfl)
  have hcn := read_in hr
  have hne : c ≠ [] := by
    obtain ⟨b, r, e, _⟩ := hcn.1.first
    rw [e]; simp
  have hcl : c.length ≤ 1000000000 := by have := hcn.2; omega
  obtain ⟨out, hout⟩ : ∃ out : ByteArray, (⟨c.toArray⟩ : ByteArray) = out := ⟨_, rfl⟩
  have hrd : ∀ w1, Below w.heap.size w w1 → Calls Tryz.prog 7 #[.string s] w1 fun e w' => (∃ T u, e = .returned (.tuple #[.iface T u, .int .i64 0, .bool true]) ∧ Vl w' (· < w'.heap.size) (T, u) c) ∧ Below w1.heap.size w1 w' := fun w1 k => read_some (h.below k) hm hr
  have hca : ∀ w1 x, Below w.heap.size w w1 → Vl w1 (· < w1.heap.size) x c → ∀ w', Below w1.heap.size w1 w' → CanonAt w' x out := fun w1 x k hv w' k' => by
    rw [← hout]
    exact canon_at ((h.below k).below k') (hv.mono (fun q hq => ⟨Nat.lt_of_lt_of_le hq k'.size, k'.block q hq⟩)) hcl hne
  have hI := h.int
  have hS := h.signs
  have hsg := hS.2
  rw [hout]
  have HRD : Aside _ := hrd
  have HCA : Aside _ := hca
  clear hrd hca h hcn hne hcl hout hr hm
  go_enter Tryz.func6, Tryz.ntmps6
  go_wp2_with (first
    | (go_at_call 9; refine (readAs_ok hI readsDot _ (by decide) (hS.below (below_alloc _ _))).mono ?_; rintro e w1 ⟨T, bb, rfl, k1, r1⟩; obtain ⟨b0, hb0⟩ := Rep.ident_of r1; cases hb0; have kA : Below w.heap.size w w1 := (below_alloc _ _).trans (k1.mono (by simp)))
    | (go_at_call 7; refine (HRD.out w1 kA).mono ?_; rintro e w2 ⟨⟨T, u, rfl, hv⟩, k2⟩; have HV : Aside _ := hv; clear hv; have kB : Below w.heap.size w w2 := kA.trans (k2.mono kA.size))
    | (go_at_call 10; refine (Start_ok hI (κ := .vals [(T, u)] .none) (.inl (by simp)) (.inr rfl) (opensQ_of (opens_ident (T, u))) (hS.below kB) (Nat.lt_of_lt_of_le hsg kB.size) (SameOn.refl _ _) (Nat.le_refl _)).mono ?_; rintro e w3 ⟨k3, sb, fv, F, D, rfl, hsb, hsk, hF, hD, hnF, hsbl⟩))
  have kC : Below w.heap.size w w3 := kB.trans (k3.mono kB.size)
  have nD : ¬ D sb := fun e => hnF (hsk.sub _ e)
  have hDw : ∀ k, D k → w.heap.size ≤ k := fun k hk => Nat.le_trans kB.size (hD k hk)
  have hsl := lt_of_block hsb
  have hw1 : w.heap.size < w1.heap.size := by have := k1.size; simp at this; omega
  have hw2 : w.heap.size < w2.heap.size := by have := k2.size; omega
  have hR3 := (k3.block w.heap.size hw2).trans ((k2.block w.heap.size hw1).trans ((k1.block w.heap.size (by simp)).trans (heap_new w _)))
  have hN := next_some hsb hsk nD (out := out) (fun w' fr => HCA.out w2 (T, u) kB HV.out w' (fr.belowN hD k3 k3.size))
  have HN : Aside _ := hN
  clear hN
  refine wp_loop_rounds 2 ?_
  rw [rounds_succ]
  go_wp2_with (first
    | (go_at_call 11; refine Calls.mono HN.out ?_; rintro e w4 ⟨fr4, rfl, hsb4, F', D', hF', hD', hS4⟩; simp only [ansV]; have hs4 := fr4.size)
    | (refine wpList_append_lies _ (by rfl) _ _ _ (by rfl) w.heap.size 9 i0 _ 1 16 Tryz.underlying26 hi0 hz0 hz1 hz2 rfl (by omega) _ 0 [] (by rfl) (World.ownsRow_nil _ _ _ _) ⟨w4.heap.size + 1, 0, none⟩ 1 1 [.string out] (by rfl) (by rfl) (World.news_of_block (cs := #[.string out]) (t := 9) (fr := (0, 0)) (heap_new2' w4 _ _)) (by simp [Value.oneCell']) (by omega) (by unfold maxLen; omega) (by omega) (by have := kC.size; simp; omega) (w4.heap.size + 2) (by simp) ?_; intro g5 cap5 w5 ow5 hgr5 hat5 hlt5))
  rw [rounds_succ]
  have b5 : Below w4.heap.size w4 w5 := (below_alloc2 w4 _ _).trans ((Below.of_grown hgr5).mono (by simp; omega))
  have hR5 := (b5.block w.heap.size (by have := k3.size; omega)).trans ((fr4.block w.heap.size (by have := k3.size; omega) (fun e => by have := hD _ e; omega)).trans hR3)
  have hb5 := b5.size
  have hk3s := k3.size
  have hsb5 : StreamBox w5 sb fv := hsb4.same (b5.block sb (by omega))
  have hS5 : Str [] .none F' D' w5 fv := hS4.move (fun k hk => b5.block k (hS4.lt k hk)) b5.size
  have nD' : ¬ D' sb := fun e => by
    rcases hD' _ e with h | h
    · exact nD h
    · omega
  go_wp2_with (go_at_call 11; refine (next_done hsb5 hS5 nD').mono ?_; rintro e w6 ⟨fr6, rfl⟩; simp only [ansV]; obtain ⟨⟨m0, m1, m2, m3⟩, ⟨p0, p1, p2, p3⟩, ml⟩ := four_facts ((fr6.block w.heap.size (by omega) (fun e => e.elim (fun e => (hD' _ e).elim (fun e => by have := hD _ e; omega) (fun e => by omega)) (fun e => by omega))).trans hR5))
  obtain rfl : g5 = w4.heap.size + 2 := by
    rcases hat5 with e | e
    · simp [Value.ownBlock] at e
    · exact e
  have hD'w : ∀ k, D' k ∨ k = sb → w.heap.size ≤ k := by
    rintro k (e | e)
    · rcases hD' k e with h | h
      · exact hDw k h
      · omega
    · omega
  have kD : Below w.heap.size w w4 := fr4.belowN hDw kC kC.size
  have kE : Below w.heap.size w w5 := kD.trans (b5.mono kD.size)
  have kF : Below w.heap.size w w6 := fr6.belowN hD'w kE kE.size
  have c5 : w5.cell? ⟨w4.heap.size + 2, 0, none⟩ = some (.string out) := by
    rcases ow5.2 with ⟨e, _⟩ | ⟨g', cap', cur, e, _, hb, _, _, _, ht⟩
    · cases e
    · cases e
      have e0 : cur.toList[0]? = some (.string out) := by rw [← List.getElem?_take_of_lt (show 0 < (0 + 1) * 1 by omega), ht]; rfl
      exact cells_cell hb (by simpa using e0)
  have c6 : w6.cell? ⟨w4.heap.size + 2, 0, none⟩ = some (.string out) := (World.cell?_of_block (w := w5) (fr6.block (w4.heap.size + 2) hlt5 (fun e => e.elim (fun e => by have := hS4.lt _ (hS4.sub _ e); omega) (fun e => by omega)))).trans c5
  refine bodyPost_ret (v := resV 0 (.slice (some ⟨w4.heap.size + 2, 0, none⟩) 1 cap5) ⟨#[]⟩) (by simp [results, Tryz.results6, go_sem, m0, m1, m2, m3, ml, resV]) rfl ⟨((((kF.setCell (p := ⟨w.heap.size, 0, none⟩) (Nat.le_refl _) _).setCell (p := ⟨w.heap.size, 1, none⟩) (Nat.le_refl _) _).setCell (p := ⟨w.heap.size, 2, none⟩) (Nat.le_refl _) _).setCell (p := ⟨w.heap.size, 3, none⟩) (Nat.le_refl _) _).alloc (by simp; omega) _, _, cap5, rfl, ?_⟩
  have c6l := lt_cell c6
  simp only at c6l
  rw [(below_alloc _ _).cell (p := ⟨w4.heap.size + 2, 0, none⟩) (by simpa using c6l)]
  rw [World.cell?_setCell_far _ _ _ _ (by simp; omega), World.cell?_setCell_far _ _ _ _ (by simp; omega), World.cell?_setCell_far _ _ _ _ (by simp; omega), World.cell?_setCell_far _ _ _ _ (by simp; omega)]
  exact c6

/-- Run, where the input is no text of a value. -/
def badV (p : Nat) : Value := .agg #[.int .u8 5, .slice none 0 0, .string ⟨#[]⟩, .int .i64 p]
set_option maxHeartbeats 8000000 in
theorem run_bad {w : World} (h : Asks w) {s : ByteArray} {p : Nat} (hm : s.size ≤ 10000000) (hr : readL s = (none, p)) :
    Calls Tryz.prog 6 #[.string fDot, .string s, .int .i64 1, .int .i64 0] w fun e w' => Below w.heap.size w w' ∧ e = .returned (badV p) := by
  have hrd : ∀ w1, Below w.heap.size w w1 → Calls Tryz.prog 7 #[.string s] w1 fun e w' => e = .returned (.tuple #[.nilIface, .int .i64 p, .bool false]) ∧ Below w1.heap.size w1 w' := fun w1 k => read_none (h.below k) hm hr
  have hI := h.int
  have hS := h.signs
  have HRD : Aside _ := hrd
  clear hrd h hr hm
  go_enter Tryz.func6, Tryz.ntmps6
  go_wp2_with (first
    | (go_at_call 9; refine (readAs_ok hI readsDot _ (by decide) (hS.below (below_alloc _ _))).mono ?_; rintro e w1 ⟨T, bb, rfl, k1, r1⟩; obtain ⟨b0, hb0⟩ := Rep.ident_of r1; cases hb0; have kA : Below w.heap.size w w1 := (below_alloc _ _).trans (k1.mono (by simp)))
    | (go_at_call 7; refine (HRD.out w1 kA).mono ?_; rintro e w2 ⟨rfl, k2⟩; have kB : Below w.heap.size w w2 := kA.trans (k2.mono kA.size); have hw1 : w.heap.size < w1.heap.size := (by have := k1.size; simp at this; omega); obtain ⟨⟨m0, m1, m2, m3⟩, ⟨p0, p1, p2, p3⟩, ml⟩ := four_facts ((k2.block w.heap.size hw1).trans ((k1.block w.heap.size (by simp)).trans (heap_new w _)))))
  exact bodyPost_ret (v := badV p) (by simp [results, Tryz.results6, go_sem, m0, m1, m2, m3, ml, badV]) rfl ⟨((((kB.setCell (p := ⟨w.heap.size, 0, none⟩) (Nat.le_refl _) _).setCell (p := ⟨w.heap.size, 1, none⟩) (Nat.le_refl _) _).setCell (p := ⟨w.heap.size, 2, none⟩) (Nat.le_refl _) _).setCell (p := ⟨w.heap.size, 3, none⟩) (Nat.le_refl _) _), rfl⟩
end Go.Proofs.Tryz

namespace Go.Proofs.Tryz
open Go.RowKit
set_option maxRecDepth 10000

set_option maxHeartbeats 4000000 in
theorem Canon_some {w : World} (h : Asks w) {s : ByteArray} {c : Bys} {p : Nat} (hm : s.size ≤ 10000000) (hr : readL s = (some c, p)) :
    Calls Tryz.prog 5 #[.string s] w fun e w' => e = .returned (.tuple #[.string ⟨c.toArray⟩, .int .i64 0, .int .i64 0]) ∧ Below w.heap.size w w' := by
  have hcn := read_in hr
  have hne : c ≠ [] := by
    obtain ⟨b, r, e, _⟩ := hcn.1.first
    rw [e]; simp
  have hcl : c.length ≤ 1000000000 := by have := hcn.2; omega
  obtain ⟨out, hout⟩ : ∃ out : ByteArray, (⟨c.toArray⟩ : ByteArray) = out := ⟨_, rfl⟩
  have hrd := read_some h hm hr
  have hca : ∀ w1 T u, Below w.heap.size w w1 → Vl w1 (· < w1.heap.size) (T, u) c → Calls Tryz.prog 8 #[.iface T u] w1 fun e w' => e = .returned (.string out) ∧ Below w1.heap.size w1 w' := fun w1 T u k hv => by
    have hq := Canonical_any (v := (T, u)) h.app hv hcl hne (h.below k).tab
    rw [hout] at hq
    exact hq
  rw [hout]
  have HRD : Aside _ := hrd
  have HCA : Aside _ := hca
  clear hrd hca h hcn hne hcl hout hr hm
  go_enter Tryz.func5, Tryz.ntmps5
  go_wp2_with (first
    | (go_at_call 7; refine Calls.mono HRD.out ?_; rintro e w1 ⟨⟨T, u, rfl, hv⟩, k1⟩; have HV : Aside _ := hv; clear hv)
    | (go_at_call 8; refine (HCA.out w1 T u k1 HV.out).mono ?_; rintro e w2 ⟨rfl, k2⟩))
  exact bodyPost_ret (v := .tuple #[.string out, .int .i64 0, .int .i64 0]) (by simp [results, Tryz.results5, go_sem]) rfl ⟨rfl, k1.trans (k2.mono k1.size)⟩
set_option maxHeartbeats 4000000 in
theorem Canon_none {w : World} (h : Asks w) {s : ByteArray} {p : Nat} (hm : s.size ≤ 10000000) (hr : readL s = (none, p)) :
    Calls Tryz.prog 5 #[.string s] w fun e w' => e = .returned (.tuple #[.string ⟨#[]⟩, .int .i64 1, .int .i64 p]) ∧ Below w.heap.size w w' := by
  have hrd := read_none h hm hr
  have HRD : Aside _ := hrd
  clear hrd h hr hm
  go_enter Tryz.func5, Tryz.ntmps5
  go_wp2_with (go_at_call 7; refine Calls.mono HRD.out ?_; rintro e w1 ⟨rfl, k1⟩)
  exact bodyPost_ret (v := .tuple #[.string ⟨#[]⟩, .int .i64 1, .int .i64 p]) (by simp [results, Tryz.results5, go_sem]) rfl ⟨rfl, k1⟩

set_option maxHeartbeats 4000000 in
theorem gives_dot {w : World} (h : Asks w) {s : ByteArray} {c : Bys} {p : Nat} (hm : s.size ≤ 10000000) (hr : readL s = (some c, p)) :
    Calls Tryz.prog 4 #[.string fDot, .string s, .string ⟨c.toArray⟩] w fun e w' => e = .returned (.bool true) ∧ Below w.heap.size w w' := by
  have hrun := run_dot h hm hr
  obtain ⟨want, hw⟩ : ∃ want : ByteArray, (⟨c.toArray⟩ : ByteArray) = want := ⟨_, rfl⟩
  rw [hw] at hrun ⊢
  have HRUN : Aside _ := hrun
  clear hrun h hm hr hw
  go_enter Tryz.func4, Tryz.ntmps4
  go_wp2_with (go_at_call 6; refine Calls.mono HRUN.out ?_; rintro e w1 ⟨k1, g, c, rfl, cA⟩; simp only [resV]; have hgl : g < w1.heap.size := lt_cell cA)
  go_ret
  exact ⟨rfl, k1.alloc k1.size _⟩

/- The place of what goes wrong lies in the text. -/
theorem num_le {s : ByteArray} {p : Nat} (hp : p ≤ s.size) : (numL s p).2 ≤ s.size := by
  unfold numL
  obtain ⟨b, hb⟩ : ∃ b, (if byteAt s p = 45 then p + 1 else p) = b := ⟨_, rfl⟩
  have hbs : b ≤ s.size := by
    rw [← hb]
    split
    · rename_i h45
      have : p < s.size := byte_pos (by rw [h45]; omega)
      omega
    · exact hp
  rw [hb]
  unfold numAt
  split
  · rename_i hd
    have := numEnd_range hd
    cases parsedV (s.extract p (numEnd s b)).data.toList with
    | some m => exact this.2
    | none => exact hp
  · exact hbs
theorem beg_le {s : ByteArray} {a n : Nat} (ha : a ≤ s.size) : (begL s a n).1 ≤ s.size := by
  cases hR : begL s a n with
  | mk p x =>
    cases x with
    | some x => exact (begL_go ha hR).2
    | none =>
      have h1 := blk_le ha
      unfold begL at hR
      obtain ⟨q, hq⟩ : ∃ q, blk s a = q := ⟨_, rfl⟩
      rw [hq] at hR h1
      have hlt : byteAt s q ≠ 0 → q < s.size := byte_pos
      have wd : ∀ (wd : ByteArray) (t : Bys), (∀ i, i < wd.size → byteAt wd i ≠ 0) → wdL s wd q t = (p, none) → p ≤ s.size := fun wd t hz e => by
        unfold wdL at e
        split at e
        · cases e
        · cases e
          exact word_le (s := s) hz wd.size 0 q (by omega) h1.2
      have nm : numB s q = (p, none) → p ≤ s.size := fun e => by
        unfold numB at e
        have := num_le h1.2
        split at e
        · cases e
        · cases e; exact this
      have hol : ∀ obj, q < s.size → bhL s q n obj = (p, none) → p ≤ s.size := fun obj hl e => by
        have h2 := blk_le (s := s) (a := q + 1) (by omega)
        unfold bhL at e
        split at e
        · cases e; omega
        · split at e
          · cases e
          · split at e
            · split at e
              · cases e
              · cases e; exact keyAt_le h2.2
            · cases e
      unfold begC at hR
      split at hR
      · exact wd _ _ (by decide) hR
      · split at hR
        · exact wd _ _ (by decide) hR
        · split at hR
          · exact wd _ _ (by decide) hR
          · split at hR
            · rename_i hc
              unfold strB at hR
              split at hR
              · cases hR
              · cases hR; exact strAt_le (hlt (by rw [hc]; omega))
            · split at hR
              · rename_i hc
                exact hol _ (hlt (by rw [hc]; omega)) hR
              · split at hR
                · rename_i hc
                  exact hol _ (hlt (by rw [hc]; omega)) hR
                · split at hR
                  · exact nm hR
                  · split at hR
                    · exact nm hR
                    · cases hR; exact h1.2
theorem run_le {s : ByteArray} : ∀ (k : Nat) (hand : Option Bys) (a : Nat) (st : List HL), a ≤ s.size → (runL s k hand a st).2 ≤ s.size
  | 0, _, a, _, ha => by rw [runL]; exact ha
  | k + 1, none, a, st, ha => by
    have hb := beg_le (n := st.length) ha
    rw [runL]
    cases hR : begL s a st.length with
    | mk q x =>
      rw [hR] at hb
      cases x with
      | none => exact hb
      | some x =>
        cases x with
        | inl t => exact run_le k _ _ _ hb
        | inr l => exact run_le k _ _ _ hb
  | k + 1, some t, a, [], ha => by rw [runL]; exact (blk_le ha).2
  | k + 1, some t, a, l :: st, ha => by
    have h1 := blk_le ha
    rw [runL]
    split
    · rename_i h44
      have hlt : blk s a < s.size := byte_pos (by rw [h44]; omega)
      have h3 := keyAt_le (s := s) (a := blk s a + 1) (by omega)
      split
      · split
        · exact run_le k _ _ _ h3
        · exact h3
      · exact run_le k _ _ _ (by omega)
    · split
      · rename_i hcl
        have hlt : blk s a < s.size := byte_pos (by rw [hcl]; unfold clB; split <;> omega)
        exact run_le k _ _ _ (by omega)
      · exact h1.2
theorem read_le {s : ByteArray} {o : Option Bys} {p : Nat} (h : readL s = (o, p)) : p ≤ s.size := by
  have := run_le (s := s) (s.size + 1) none 0 [] (by omega)
  unfold readL at h
  rw [h] at this
  exact this
end Go.Proofs.Tryz

namespace Go.Proofs.Tryz
open Go.RowKit
set_option maxRecDepth 100000

def preB : ByteArray := ⟨#[32, 9]⟩
def postB : ByteArray := ⟨#[10, 13, 32]⟩
theorem around_list (s : ByteArray) : (preB ++ s ++ postB).data.toList = 32 :: 9 :: (s.data.toList ++ [10, 13, 32]) := by
  simp [preB, postB]
theorem around_blanks (s : ByteArray) : Around s (preB ++ s ++ postB) 2 := by
  have hl := around_list s
  have hsz : (preB ++ s ++ postB).size = s.size + 5 := by
    rw [← size_list, hl]
    simp
  refine ⟨fun i hi => ?_, by omega, fun i h1 h2 => ?_, fun a n h => ?_⟩
  · unfold byteAt
    rw [hl]
    simp only [List.getElem?_cons_succ]
    rw [List.getElem?_append_left (by rw [size_list]; exact hi)]
  · unfold byteAt
    rw [hl]
    obtain ⟨j, rfl⟩ : ∃ j, i = s.size + j + 2 := ⟨i - s.size - 2, by omega⟩
    simp only [List.getElem?_cons_succ]
    rw [List.getElem?_append_right (by rw [size_list]; omega), size_list, Nat.add_sub_cancel_left]
    have : j = 0 ∨ j = 1 ∨ j = 2 := by omega
    rcases this with rfl | rfl | rfl <;> rfl
  · rw [hl]
    simp only [List.drop_succ_cons]
    rw [List.drop_append_of_le_length (by rw [size_list]; omega), List.take_append_of_le_length (by rw [List.length_drop, size_list]; omega)]
theorem read_blanks {s : ByteArray} {c : Bys} {p : Nat} (h : readL s = (some c, p)) : ∃ p', readL (preB ++ s ++ postB) = (some c, p') := by
  refine read_around (around_blanks s) (fun i hi => ?_) h
  unfold byteAt
  rw [around_list]
  have : i = 0 ∨ i = 1 := by omega
  rcases this with rfl | rfl <;> rfl
def objB : ByteArray := ⟨#[123, 125]⟩
theorem read_obj : readL objB = (some [123, 125], 2) := by decide +kernel

set_option maxHeartbeats 8000000 in
theorem Fixed_none {w : World} (h : Asks w) {s : ByteArray} {p : Nat} (hm : s.size ≤ 1600000) (hr : readL s = (none, p)) :
    Calls Tryz.prog 3 #[.string s] w fun e w' => e = .returned (.bool true) ∧ Below w.heap.size w w' := by
  have hle := read_le hr
  have z0 : (0 : Int) ≤ (p : Int) := by omega
  have z1 : (p : Int) ≤ (s.size : Int) := by omega
  have g0 : Calls Tryz.prog 4 #[.string fDot, .string objB, .string objB] w fun e w' => e = .returned (.bool true) ∧ Below w.heap.size w w' := gives_dot h (by decide) read_obj
  have g1 : ∀ w1, Below w.heap.size w w1 → _ := fun w1 k => Canon_none (h.below k) (by omega) hr
  have g2 : ∀ w1, Below w.heap.size w w1 → _ := fun w1 k => run_bad (h.below k) (by omega) hr
  have G0 : Aside _ := g0
  have G1 : Aside _ := g1
  have G2 : Aside _ := g2
  clear g0 g1 g2 h hr hle
  go_enter Tryz.func3, Tryz.ntmps3
  go_wp2_with (first
    | (go_at_call 4; refine Calls.mono G0.out ?_; rintro e w1 ⟨rfl, k1⟩)
    | (go_at_call 5; refine Calls.mono (G1.out w1 k1) ?_; rintro e w2 ⟨rfl, k2⟩; have kB : Below w.heap.size w w2 := k1.trans (k2.mono k1.size))
    | (go_at_call 6; refine Calls.mono (G2.out w2 kB) ?_; rintro e w3 ⟨k3, rfl⟩; simp only [badV]))
  go_ret
  have kC : Below w.heap.size w w3 := kB.trans (k3.mono kB.size)
  exact ⟨rfl, kC.alloc kC.size _⟩
set_option maxHeartbeats 8000000 in
theorem Fixed_some {w : World} (h : Asks w) {s : ByteArray} {c : Bys} {p : Nat} (hm : s.size ≤ 1600000) (hr : readL s = (some c, p)) :
    Calls Tryz.prog 3 #[.string s] w fun e w' => e = .returned (.bool true) ∧ Below w.heap.size w w' := by
  have hin := read_in hr
  have htw := read_twice hr
  obtain ⟨p', har⟩ := read_blanks hr
  have hts : (preB ++ s ++ postB).size ≤ 10000000 := by
    rw [← size_list, around_list]
    simp
    omega
  have hcs : (ByteArray.mk c.toArray).size ≤ 10000000 := by
    have := hin.2
    simp only [ByteArray.size, List.size_toArray]
    omega
  have g0 : Calls Tryz.prog 4 #[.string fDot, .string objB, .string objB] w fun e w' => e = .returned (.bool true) ∧ Below w.heap.size w w' := gives_dot h (by decide) read_obj
  have g1 : ∀ w1, Below w.heap.size w w1 → _ := fun w1 k => Canon_some (h.below k) (by omega) hr
  have g2 : ∀ w1, Below w.heap.size w w1 → _ := fun w1 k => Canon_some (h.below k) hcs htw
  have g3 : ∀ w1, Below w.heap.size w w1 → _ := fun w1 k => Canon_some (h.below k) hts har
  have g4 : ∀ w1, Below w.heap.size w w1 → _ := fun w1 k => gives_dot (h.below k) (by omega) hr
  obtain ⟨out, hout⟩ : ∃ out : ByteArray, (⟨c.toArray⟩ : ByteArray) = out := ⟨_, rfl⟩
  simp only [hout] at g1 g2 g3 g4
  have G0 : Aside _ := g0
  have G1 : Aside _ := g1
  have G2 : Aside _ := g2
  have G3 : Aside _ := g3
  have G4 : Aside _ := g4
  clear g0 g1 g2 g3 g4 h hr hin htw har hts hcs hout
  go_enter Tryz.func3, Tryz.ntmps3
  go_wp2_with (go_at_call 4; refine Calls.mono G0.out ?_; rintro e w1 ⟨rfl, k1⟩)
  refine Calls.mono (G1.out w1 k1) ?_
  rintro e w2 ⟨rfl, k2⟩
  have kB : Below w.heap.size w w2 := k1.trans (k2.mono k1.size)
  go_wp2_with fail
  refine Calls.mono (G2.out w2 kB) ?_
  rintro e w3 ⟨rfl, k3⟩
  have kC : Below w.heap.size w w3 := kB.trans (k3.mono kB.size)
  go_wp2_with fail
  refine Calls.mono (G3.out w3 kC) ?_
  rintro e w4 ⟨rfl, k4⟩
  have kD : Below w.heap.size w w4 := kC.trans (k4.mono kC.size)
  go_wp2_with fail
  refine Calls.mono (G4.out w4 kD) ?_
  rintro e w5 ⟨rfl, k5⟩
  have kE : Below w.heap.size w w5 := kD.trans (k5.mono kD.size)
  go_wp2_with fail
  go_ret
  exact ⟨rfl, kE⟩
theorem Fixed_ok {w : World} (h : Asks w) {s : ByteArray} (hm : s.size ≤ 1600000) :
    Calls Tryz.prog 3 #[.string s] w fun e w' => e = .returned (.bool true) ∧ Below w.heap.size w w' := by
  cases hr : readL s with
  | mk o p =>
    cases o with
    | none => exact Fixed_none h hm hr
    | some c => exact Fixed_some h hm hr
end Go.Proofs.Tryz

