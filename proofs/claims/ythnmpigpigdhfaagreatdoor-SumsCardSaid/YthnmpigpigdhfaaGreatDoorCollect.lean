import Derived.Test.YthnmpigpigdhfaaGreatDoorStep8
import Derived.Test.YthnmpigpigdhfaaGreatDoorOpen6
import Derived.RangeFuncNested
import Derived.RangeFuncBound
import Derived.RangeFuncCalls
import Derived.RangeFuncLeaves
import Derived.Shelf.RegionOpen
import Derived.OwnWalkIn
import Derived.TacticsInMore
import Derived.LoopNIn
import Derived.LoopIn
import Derived.Sort.LoopGhostIn
import Derived.Sort.QuietIn
import Derived.Deep.AppendLies
set_option linter.all false
namespace Go.Proofs.Tryz
open Go.RowKit Go.Shelf
set_option maxRecDepth 100000
attribute [local go_sem] Oper.semAt_some

set_option maxHeartbeats 4000000 in
/-- Whoever goes through a stream: its values one after the other, each handed on; then done. -/
theorem all_in (n l K : Nat) (cap : Array Value) (J : List IV → World → Prop) (J1 : IV → List IV → World → Prop) (JE : World → Prop) (hE : Enters Tryz.prog K)
    (h1 : ∀ x rest W, J (x :: rest) W → Calls Tryz.prog K cap W fun e W' => e = .returned (.tuple #[.agg #[iv x, .pointer none], .bool true]) ∧ J1 x rest W')
    (h1a : ∀ x rest W o, J1 x rest W → J1 x rest (W.alloc o))
    (h2 : ∀ x rest W, J1 x rest W → YieldAt Fence.wide (n - 1) Tryz.prog l #[.agg #[iv x, .pointer none]] W fun e W' => e = .returned (.bool true) ∧ J rest W')
    (h3 : ∀ W, J [] W → Calls Tryz.prog K cap W fun e W' => e = .returned (.tuple #[.agg #[.nilIface, .pointer none], .bool false]) ∧ JE W')
    (h3a : ∀ W o, JE W → JE (W.alloc o))
    (L : List IV) (W : World) (h0 : J L W) :
    CallsIn Fence.wide n Tryz.prog 111 #[.func (.func K) #[] cap, .func (.yield l) #[] #[]] W fun e W' => (∃ v, e = .returned v) ∧ JE W' := by
  have hE' : ∀ (args : Array Value) (w : World), (callFunc K args).run Tryz.prog w = .ok (.enter K args) w := hE
  refine callsIn_of_wp Tryz.func111 rfl trivial ?_ rfl
  simp only [Tryz.ntmps111, List.size_toArray, List.length_cons, List.length_nil, Nat.reduceAdd, Nat.reduceSub, Array.replicate_succ, Array.replicate_zero, List.push_toArray, List.append_toArray, List.nil_append, List.cons_append]
  gi_wp2
  gi_loopg [5] L.length (fun k v wr => ∃ rest, rest.length = k ∧ J rest wr)
  case atStart => exact ⟨L, rfl, h0⟩
  case round =>
    obtain ⟨rest, hk, hJ⟩ := hrel
    cases rest with
    | nil =>
      have hc := h3 _ hJ
      gi_wp2
      refine ⟨trivial, fun h => (by cases h), (callsIn_wide.2 hc).mono ?_⟩
      rintro e W1 ⟨rfl, hJE⟩
      gi_wp2
      refine ⟨fun _ h => (by cases h), ?_⟩
      gi_wp2
      exact bodyPost_ret (v := .tuple #[]) (by simp [results, Tryz.results111, go_sem]) rfl ⟨⟨_, rfl⟩, h3a _ _ hJE⟩
    | cons x rest =>
      have hc := h1 _ _ _ hJ
      obtain ⟨T, u⟩ := x
      simp only [iv] at hc h2
      gi_wp2
      refine ⟨trivial, fun h => (by cases h), (callsIn_wide.2 hc).mono ?_⟩
      rintro e W1 ⟨rfl, hJ1⟩
      obtain ⟨fn, tmps, assign, body, hy, hR⟩ := h2 _ _ _ (h1a _ _ _ (.cells #[.iface T u, .pointer none] 71) hJ1)
      gi_wp2
      refine ⟨fun h => (by cases h), hR.mono ?_⟩
      rintro e W2 ⟨rfl, hJ2⟩
      gi_wp2
      gi_roundg rest.length
      case measure => simp at hk; omega
      case rel => exact ⟨rest, rfl, hJ2⟩
end Go.Proofs.Tryz

namespace Go.Proofs.Tryz
open Go.RowKit Go.Shelf
set_option maxRecDepth 100000
attribute [local go_sem] Oper.semAt_some

/-- What is appended to a row of one's own, inside a fence: where the row lies then. -/
theorem wpListIn_append_lies {F : Fence} {n : Nat} {P : Program} (w : World) {ops : Array Oper} {rest : List Oper} {o : Oper} {a : Act} {Q : Exit → Act → World → Prop}
    (hg : o.guard = none) (s x : Operand) (t : TypeId) (hop : o.op = Op.call { callee := Callee.builtin Builtin.append, args := #[s, x], argTypes := #[t, t] })
    (base : Nat) (e : TypeId) (i : TypeInfo) (z : Value) (size bytes : Nat) (h1 : P.underlying t = some (.slice e)) (h2 : P.info? e = some i) (h3 : i.zero = some z) (h4 : i.size = size) (h5 : i.bytes = bytes) (h6 : z.cells.size = size) (h7 : 0 < size)
    (v : Value) (k : Nat) (xs : List Value) (hs : a.eval s = v) (hown : w.ownsRow base e size v k xs) (ad : Addr) (m c : Nat) (news : List Value) (hx : a.eval x = .slice (some ad) m c) (hn : news.length = m * size)
    (hc : ∀ j u, news[j]? = some u → w.cell? (ad.add j) = some u) (h1c : ∀ u ∈ news, u.oneCell' = true) (hm : 0 < m) (b1 : k + m ≤ maxLen) (b2 : (k + m) * bytes ≤ 140737488355328) (b3 : base ≤ w.heap.size) (H : Nat) (hH : w.heap.size = H)
    (hK : ∀ g cap w', w'.ownsRow base e size (.slice (some ⟨g, 0, none⟩) (k + m) cap) (k + m) (xs ++ news) → w.grownBy w' v.ownBlock → (v.ownBlock = some g ∨ g = H) → g < w'.heap.size → wpListIn F n P ops Q rest (a.put o.dst (.slice (some ⟨g, 0, none⟩) (k + m) cap)) w') :
    wpListIn F n P ops Q (o :: rest) a w := by
  refine wpListIn_plain hg fun K hK' => ?_
  obtain ⟨g, cap, w', hrun, r1, r2, r3, r4⟩ := run_append_lies (P := P) w t o.type base e i z size bytes h1 h2 h3 h4 h5 h6 h7 v k xs hown ad m c news hn hc h1c hm b1 b2 b3 H hH
  unfold Oper.wpIn
  refine ⟨?_, ?_⟩
  · simp [Oper.about, hop, resolve, Target.leads, Sem.run_pure]
  · rw [Oper.semAt_plain F _ _ (by rw [hop]; intro c hc'; cases hc')]
    simp [execOp, hop, resolve, invoke, builtin, hs, hx, hrun, Result.andThen]
    exact hK' _ _ (hK g cap w' r1 r2 r3 r4)

/-- What belongs to whoever collects: the box of the items at N + 2, the row of what has come, the loop's record and the block for deferred calls; the stream's blocks F are others. -/
def CS (w : World) (N dB lB : Nat) (rc : Loop) (F : Nat → Prop) (pre : List IV) (W : World) : Prop :=
  N = w.heap.size ∧ N + 2 < dB ∧ dB < lB ∧ ∃ v, Box W (N + 2) v 101 ∧ W.ownsRow N 37 1 v pre.length (pre.map iv) ∧ W.heap[lB]? = some (.loop rc) ∧ W.heap[dB]? = some (.deferred (some [])) ∧ Below N w W ∧ (∀ k, F k → k ≠ N + 2 ∧ k ≠ dB ∧ k ≠ lB ∧ some k ≠ v.ownBlock)

theorem CS.fr {w : World} {N dB lB : Nat} {rc : Loop} {F F' D : Nat → Prop} {pre : List IV} {W W' : World} (h : CS w N dB lB rc F pre W) (k : Fr D W W') (hD : ∀ k, D k → F k) (hN : ∀ k, D k → N ≤ k) (hF' : ∀ k, F' k → F k ∨ W.heap.size ≤ k) : CS w N dB lB rc F' pre W' := by
  obtain ⟨hNw, o1, o2, v, b, ow, hl, hd, hb, hf⟩ := h
  have lb := b.lt
  have ll := lt_of_block hl
  have ld := lt_of_block hd
  have hsz := hb.size
  refine ⟨hNw, o1, o2, v, b.same (k.block _ lb (fun e => (hf _ (hD _ e)).1 rfl)), owns_same ow (fun q hq => k.block q (ow.lt q hq).2 (fun e => (hf _ (hD _ e)).2.2.2 hq.symm)), (k.block _ ll (fun e => (hf _ (hD _ e)).2.2.1 rfl)).trans hl, (k.block _ ld (fun e => (hf _ (hD _ e)).2.1 rfl)).trans hd, hb.trans ⟨k.os, k.tape, k.output, k.size, fun j hj => k.block j (by omega) (fun e => by have := hN _ e; omega)⟩, ?_⟩
  intro j hj
  rcases hF' j hj with e | e
  · exact hf j e
  · refine ⟨by omega, by omega, by omega, fun q => ?_⟩
    have := (ow.lt j q.symm).2
    omega
theorem CS.alloc {w : World} {N dB lB : Nat} {rc : Loop} {F : Nat → Prop} {pre : List IV} {W : World} (h : CS w N dB lB rc F pre W) (o : Obj) : CS w N dB lB rc F pre (W.alloc o) :=
  h.fr (D := fun _ => False) ((Fr.refl _ _).alloc _) (fun _ e => e.elim) (fun _ e => e.elim) (fun _ e => .inl e)
theorem CS.put {w : World} {N dB lB : Nat} {rc rc' : Loop} {F : Nat → Prop} {pre : List IV} {W : World} (h : CS w N dB lB rc F pre W) : CS w N dB lB rc' F pre (W.putObj lB (.loop rc')) := by
  obtain ⟨hNw, o1, o2, v, b, ow, hl, hd, hb, hf⟩ := h
  have ll := lt_of_block hl
  have hsz := hb.size
  have ht : ∀ k, k ≠ lB → (W.putObj lB (.loop rc')).heap[k]? = W.heap[k]? := fun k hk => World.putObj_heap_other hk
  refine ⟨hNw, o1, o2, v, b.same (ht _ (by omega)), owns_same ow (fun q hq => ht q ?_), World.putObj_heap_same ll, (ht _ (by omega)).trans hd, hb.trans ⟨rfl, rfl, rfl, by simp [World.putObj], fun k hk => ht k (by omega)⟩, hf⟩
  intro e
  subst e
  rcases ow.2 with ⟨rfl, _⟩ | ⟨g, cap, cur, rfl, _, hg, _⟩
  · simp [Value.ownBlock] at hq
  · simp [Value.ownBlock] at hq
    subst hq
    rw [hg] at hl
    cases hl

/-- One more has come. -/
theorem CS.came {w : World} {N dB lB : Nat} {rc : Loop} {F : Nat → Prop} {pre : List IV} {W W1 : World} {x : IV} {v : Value} {g cap : Nat} {o : Obj} (hNw : N = w.heap.size) (o1 : N + 2 < dB) (o2 : dB < lB) (b : Box W (N + 2) v 101) (ow : W.ownsRow N 37 1 v pre.length (pre.map iv)) (hl : W.heap[lB]? = some (.loop rc)) (hd : W.heap[dB]? = some (.deferred (some []))) (hb : Below N w W) (hf : ∀ k, F k → k ≠ N + 2 ∧ k ≠ dB ∧ k ≠ lB ∧ some k ≠ v.ownBlock) (hF : ∀ k, F k → k < W.heap.size)
    (ow1 : W1.ownsRow N 37 1 (.slice (some ⟨g, 0, none⟩) (pre.length + 1) cap) (pre.length + 1) (pre.map iv ++ [iv x])) (hgr : (W.alloc o).grownBy W1 v.ownBlock) (hat : v.ownBlock = some g ∨ g = W.heap.size + 1) :
    CS w N dB lB rc F (pre ++ [x]) (W1.setCell ⟨N + 2, 0, none⟩ (.slice (some ⟨g, 0, none⟩) (pre.length + 1) cap)) ∧ Fr (fun k => k = N + 2 ∨ some k = v.ownBlock) W (W1.setCell ⟨N + 2, 0, none⟩ (.slice (some ⟨g, 0, none⟩) (pre.length + 1) cap)) := by
  have hsz := hb.size
  have lb := b.lt
  have ll := lt_of_block hl
  have ld := lt_of_block hd
  have own_ne : ∀ k o', W.heap[k]? = some o' → (∀ cs, o' ≠ .cells cs 37 (0, 0)) → some k ≠ v.ownBlock := by
    intro k o' hk ho e
    rcases ow.2 with ⟨rfl, _⟩ | ⟨g', cap', cur, rfl, _, hg, _⟩
    · simp [Value.ownBlock] at e
    · simp [Value.ownBlock] at e
      subst e
      rw [hk] at hg
      exact ho _ (Option.some.inj hg)
  have n1 := own_ne _ _ b (fun cs e => by simp at e)
  have n2 := own_ne _ _ hl (fun cs e => by cases e)
  have n3 := own_ne _ _ hd (fun cs e => by cases e)
  have hg1 : ∀ k, k < W.heap.size → some k ≠ v.ownBlock → W1.heap[k]? = W.heap[k]? := fun k hk e => (hgr.block k (by simp; omega) e).trans ((below_alloc W o).block k hk)
  have hgs := hgr.size
  simp at hgs
  have gN : N + 2 ≠ g := by
    rcases hat with h | h
    · intro e; subst e; exact n1 h.symm
    · omega
  have hset : ∀ k, k ≠ N + 2 → (W1.setCell ⟨N + 2, 0, none⟩ (.slice (some ⟨g, 0, none⟩) (pre.length + 1) cap)).heap[k]? = W1.heap[k]? := fun k hk => Below.heap_setCell _ _ _ _ (by simpa using hk)
  have fr0 : Fr (fun k => some k = v.ownBlock) W W1 := ((Fr.refl _ W).alloc o).trans (E := fun k => some k = v.ownBlock) ⟨hgr.os, hgr.tape, hgr.output, hgr.size, fun k hk e => hgr.block k hk e⟩ (fun _ _ e => e)
  have fr1 : Fr (fun k => k = N + 2 ∨ some k = v.ownBlock) W (W1.setCell ⟨N + 2, 0, none⟩ (.slice (some ⟨g, 0, none⟩) (pre.length + 1) cap)) := (fr0.mono (fun _ e => .inr e)).setCell _ (.inl (.inl rfl))
  refine ⟨⟨hNw, o1, o2, _, (b.same (hg1 _ lb n1)).set _, ?_, (hset _ (by omega)).trans ((hg1 _ ll n2).trans hl), (hset _ (by omega)).trans ((hg1 _ ld n3).trans hd), ?_, ?_⟩, fr1⟩
  · rw [List.length_append, List.length_singleton, List.map_append]
    exact owns_same ow1 (fun q hq => hset q (by simp [Value.ownBlock] at hq; omega))
  · refine hb.trans ⟨fr1.os, fr1.tape, fr1.output, fr1.size, fun k hk => fr1.block k (by omega) ?_⟩
    rintro (e | e)
    · omega
    · have := (ow.lt k e.symm).1
      omega
  · intro k hk
    obtain ⟨f1, f2, f3, f4⟩ := hf k hk
    refine ⟨f1, f2, f3, fun e => ?_⟩
    simp [Value.ownBlock] at e
    subst e
    rcases hat with h | h
    · exact f4 h.symm
    · have := hF _ hk; omega
end Go.Proofs.Tryz

