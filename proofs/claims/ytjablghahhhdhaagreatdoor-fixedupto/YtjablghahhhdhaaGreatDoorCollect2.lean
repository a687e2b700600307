import Derived.Test.YtjablghahhhdhaaGreatDoorStep8
import Derived.Test.YtjablghahhhdhaaGreatDoorOpen6
import Derived.RangeFuncNested
import Derived.RangeFuncBound
import Derived.RangeFuncCalls
import Derived.RangeFuncLeaves
import Derived.Shelf.RegionOpen
import Derived.OwnWalkIn
import Derived.TacticsInMore
import Derived.LoopNIn
import Derived.LoopIn
import Derived.Sort.LoopGhostIn
import Derived.Sort.QuietIn
import Derived.Deep.AppendLies
set_option linter.all false
namespace Go.Proofs.Tryz
open Go.RowKit Go.Shelf
set_option maxRecDepth 100000
attribute [local go_sem] Oper.semAt_some

set_option maxHeartbeats 4000000 in
/-- Whoever goes through a stream: its values one after the other, each handed on; then done. -/
theorem all_in (n l K : Nat) (cap : Array Value) (J : List IV → World → Prop) (J1 : IV → List IV → World → Prop) (JE : World → Prop) (hE : Enters Tryz.prog K)
    (h1 : ∀ x rest W, J (x :: rest) W → Calls Tryz.prog K cap W fun e W' => e = .returned (.tuple #[.agg #[iv x, .pointer none], .bool true]) ∧ J1 x rest W')
    (h1a : ∀ x rest W o, J1 x rest W → J1 x rest (W.alloc o))
    (h2 : ∀ x rest W, J1 x rest W → YieldAt Fence.wide (n - 1) Tryz.prog l #[.agg #[iv x, .pointer none]] W fun e W' => e = .returned (.bool true) ∧ J rest W')
    (h3 : ∀ W, J [] W → Calls Tryz.prog K cap W fun e W' => e = .returned (.tuple #[.agg #[.nilIface, .pointer none], .bool false]) ∧ JE W')
    (h3a : ∀ W o, JE W → JE (W.alloc o))
    (L : List IV) (W : World) (h0 : J L W) :
    CallsIn Fence.wide n Tryz.prog 105 #[.func (.func K) #[] cap, .func (.yield l) #[] #[]] W fun e W' => (∃ v, e = .returned v) ∧ JE W' := by
  have hE' : ∀ (args : Array Value) (w : World), (callFunc K args).run Tryz.prog w = .ok (.enter K args) w := hE
  refine callsIn_of_wp Tryz.func105 rfl trivial ?_ rfl
  simp only [Tryz.ntmps105, List.size_toArray, List.length_cons, List.length_nil, Nat.reduceAdd, Nat.reduceSub, Array.replicate_succ, Array.replicate_zero, List.push_toArray, List.append_toArray, List.nil_append, List.cons_append]
  gi_wp2
  gi_loopg [5] L.length (fun k v wr => ∃ rest, rest.length = k ∧ J rest wr)
  case atStart => exact ⟨L, rfl, h0⟩
  case round =>
    obtain ⟨rest, hk, hJ⟩ := hrel
    cases rest with
    | nil =>
      have hc := h3 _ hJ
      gi_wp2
      refine ⟨trivial, fun h => (by cases h), (callsIn_wide.2 hc).mono ?_⟩
      rintro e W1 ⟨rfl, hJE⟩
      gi_wp2
      refine ⟨fun _ h => (by cases h), ?_⟩
      gi_wp2
      exact bodyPost_ret (v := .tuple #[]) (by simp [results, Tryz.results105, go_sem]) rfl ⟨⟨_, rfl⟩, h3a _ _ hJE⟩
    | cons x rest =>
      have hc := h1 _ _ _ hJ
      obtain ⟨T, u⟩ := x
      simp only [iv] at hc h2
      gi_wp2
      refine ⟨trivial, fun h => (by cases h), (callsIn_wide.2 hc).mono ?_⟩
      rintro e W1 ⟨rfl, hJ1⟩
      obtain ⟨fn, tmps, assign, body, hy, hR⟩ := h2 _ _ _ (h1a _ _ _ (.cells #[.iface T u, .pointer none] 75) hJ1)
      gi_wp2
      refine ⟨fun h => (by cases h), hR.mono ?_⟩
      rintro e W2 ⟨rfl, hJ2⟩
      gi_wp2
      gi_roundg rest.length
      case measure => simp at hk; omega
      case rel => exact ⟨rest, rfl, hJ2⟩
end Go.Proofs.Tryz

namespace Go.Proofs.Tryz
open Go.RowKit Go.Shelf
set_option maxRecDepth 100000
attribute [local go_sem] Oper.semAt_some

/-- What is appended to a row of one's own, inside a fence: where the row lies then. -/
theorem wpListIn_append_lies {F : Fence} {n : Nat} {P : Program} (w : World) {ops : Array Oper} {rest : List Oper} {o : Oper} {a : Act} {Q : Exit → Act → World → Prop}
    (hg : o.guard = none) (s x : Operand) (t : TypeId) (hop : o.op = Op.call { callee := Callee.builtin Builtin.append, args := #[s, x], argTypes := #[t, t] })
    (base : Nat) (e : TypeId) (i : TypeInfo) (z : Value) (size bytes : Nat) (h1 : P.underlying t = some (.slice e)) (h2 : P.info? e = some i) (h3 : i.zero = some z) (h4 : i.size = size) (h5 : i.bytes = bytes) (h6 : z.cells.size = size) (h7 : 0 < size)
    (v : Value) (k : Nat) (xs : List Value) (hs : a.eval s = v) (hown : w.ownsRow base e size v k xs) (ad : Addr) (m c : Nat) (news : List Value) (hx : a.eval x = .slice (some ad) m c) (hn : news.length = m * size)
    (hc : ∀ j u, news[j]? = some u → w.cell? (ad.add j) = some u) (h1c : ∀ u ∈ news, u.oneCell' = true) (hm : 0 < m) (b1 : k + m ≤ maxLen) (b2 : (k + m) * bytes ≤ 140737488355328) (b3 : base ≤ w.heap.size) (H : Nat) (hH : w.heap.size = H)
    (hK : ∀ g cap w', w'.ownsRow base e size (.slice (some ⟨g, 0, none⟩) (k + m) cap) (k + m) (xs ++ news) → w.grownBy w' v.ownBlock → (v.ownBlock = some g ∨ g = H) → g < w'.heap.size → wpListIn F n P ops Q rest (a.put o.dst (.slice (some ⟨g, 0, none⟩) (k + m) cap)) w') :
    wpListIn F n P ops Q (o :: rest) a w := by
  refine wpListIn_plain hg fun K hK' => ?_
  obtain ⟨g, cap, w', hrun, r1, r2, r3, r4⟩ := run_append_lies (P := P) w t o.type base e i z size bytes h1 h2 h3 h4 h5 h6 h7 v k xs hown ad m c news hn hc h1c hm b1 b2 b3 H hH
  unfold Oper.wpIn
  refine ⟨?_, ?_⟩
  · simp [Oper.about, hop, resolve, Target.leads, Sem.run_pure]
  · rw [Oper.semAt_plain F _ _ (by rw [hop]; intro c hc'; cases hc')]
    simp [execOp, hop, resolve, invoke, builtin, hs, hx, hrun, Result.andThen]
    exact hK' _ _ (hK g cap w' r1 r2 r3 r4)

/-- What belongs to whoever collects: the box of the items at N + 2, the row of what has come, the loop's record and the block for deferred calls; the stream's blocks F are others. -/
def CS (w : World) (N dB lB : Nat) (rc : Loop) (F : Nat → Prop) (pre : List IV) (W : World) : Prop :=
  N = w.heap.size ∧ N + 2 < dB ∧ dB < lB ∧ ∃ v, Box W (N + 2) v 86 ∧ W.ownsRow N 32 1 v pre.length (pre.map iv) ∧ W.heap[lB]? = some (.loop rc) ∧ W.heap[dB]? = some (.deferred (some [])) ∧ Below N w W ∧ (∀ k, F k → k ≠ N + 2 ∧ k ≠ dB ∧ k ≠ lB ∧ some k ≠ v.ownBlock)

theorem CS.fr {w : World} {N dB lB : Nat} {rc : Loop} {F F' D : Nat → Prop} {pre : List IV} {W W' : World} (h : CS w N dB lB rc F pre W) (k : Fr D W W') (hD : ∀ k, D k → F k) (hN : ∀ k, D k → N ≤ k) (hF' : ∀ k, F' k → F k ∨ W.heap.size ≤ k) : CS w N dB lB rc F' pre W' := by
  obtain ⟨hNw, o1, o2, v, b, ow, hl, hd, hb, hf⟩ := h
  have lb := b.lt
  have ll := lt_of_block hl
  have ld := lt_of_block hd
  have hsz := hb.size
  refine ⟨hNw, o1, o2, v, b.same (k.block _ lb (fun e => (hf _ (hD _ e)).1 rfl)), owns_same ow (fun q hq => k.block q (ow.lt q hq).2 (fun e => (hf _ (hD _ e)).2.2.2 hq.symm)), (k.block _ ll (fun e => (hf _ (hD _ e)).2.2.1 rfl)).trans hl, (k.block _ ld (fun e => (hf _ (hD _ e)).2.1 rfl)).trans hd, hb.trans ⟨k.os, k.tape, k.output, k.size, fun j hj => k.block j (by omega) (fun e => by have := hN _ e; omega)⟩, ?_⟩
  intro j hj
  rcases hF' j hj with e | e
  · exact hf j e
  · refine ⟨by omega, by omega, by omega, fun q => ?_⟩
    have := (ow.lt j q.symm).2
    omega
theorem CS.alloc {w : World} {N dB lB : Nat} {rc : Loop} {F : Nat → Prop} {pre : List IV} {W : World} (h : CS w N dB lB rc F pre W) (o : Obj) : CS w N dB lB rc F pre (W.alloc o) :=
  h.fr (D := fun _ => False) ((Fr.refl _ _).alloc _) (fun _ e => e.elim) (fun _ e => e.elim) (fun _ e => .inl e)
theorem CS.put {w : World} {N dB lB : Nat} {rc rc' : Loop} {F : Nat → Prop} {pre : List IV} {W : World} (h : CS w N dB lB rc F pre W) : CS w N dB lB rc' F pre (W.putObj lB (.loop rc')) := by
  obtain ⟨hNw, o1, o2, v, b, ow, hl, hd, hb, hf⟩ := h
  have ll := lt_of_block hl
  have hsz := hb.size
  have ht : ∀ k, k ≠ lB → (W.putObj lB (.loop rc')).heap[k]? = W.heap[k]? := fun k hk => World.putObj_heap_other hk
  refine ⟨hNw, o1, o2, v, b.same (ht _ (by omega)), owns_same ow (fun q hq => ht q ?_), World.putObj_heap_same ll, (ht _ (by omega)).trans hd, hb.trans ⟨rfl, rfl, rfl, by simp [World.putObj], fun k hk => ht k (by omega)⟩, hf⟩
  intro e
  subst e
  rcases ow.2 with ⟨rfl, _⟩ | ⟨g, cap, cur, rfl, _, hg, _⟩
  · simp [Value.ownBlock] at hq
  · simp [Value.ownBlock] at hq
    subst hq
    rw [hg] at hl
    cases hl

/-- One more has come. -/
theorem CS.came {w : World} {N dB lB : Nat} {rc : Loop} {F : Nat → Prop} {pre : List IV} {W W1 : World} {x : IV} {v : Value} {g cap : Nat} {o : Obj} (hNw : N = w.heap.size) (o1 : N + 2 < dB) (o2 : dB < lB) (b : Box W (N + 2) v 86) (ow : W.ownsRow N 32 1 v pre.length (pre.map iv)) (hl : W.heap[lB]? = some (.loop rc)) (hd : W.heap[dB]? = some (.deferred (some []))) (hb : Below N w W) (hf : ∀ k, F k → k ≠ N + 2 ∧ k ≠ dB ∧ k ≠ lB ∧ some k ≠ v.ownBlock) (hF : ∀ k, F k → k < W.heap.size)
    (ow1 : W1.ownsRow N 32 1 (.slice (some ⟨g, 0, none⟩) (pre.length + 1) cap) (pre.length + 1) (pre.map iv ++ [iv x])) (hgr : (W.alloc o).grownBy W1 v.ownBlock) (hat : v.ownBlock = some g ∨ g = W.heap.size + 1) :
    CS w N dB lB rc F (pre ++ [x]) (W1.setCell ⟨N + 2, 0, none⟩ (.slice (some ⟨g, 0, none⟩) (pre.length + 1) cap)) ∧ Fr (fun k => k = N + 2 ∨ some k = v.ownBlock) W (W1.setCell ⟨N + 2, 0, none⟩ (.slice (some ⟨g, 0, none⟩) (pre.length + 1) cap)) := by
  have hsz := hb.size
  have lb := b.lt
  have ll := lt_of_block hl
  have ld := lt_of_block hd
  have own_ne : ∀ k o', W.heap[k]? = some o' → (∀ cs, o' ≠ .cells cs 32 (0, 0)) → some k ≠ v.ownBlock := by
    intro k o' hk ho e
    rcases ow.2 with ⟨rfl, _⟩ | ⟨g', cap', cur, rfl, _, hg, _⟩
    · simp [Value.ownBlock] at e
    · simp [Value.ownBlock] at e
      subst e
      rw [hk] at hg
      exact ho _ (Option.some.inj hg)
  have n1 := own_ne _ _ b (fun cs e => by simp at e)
  have n2 := own_ne _ _ hl (fun cs e => by cases e)
  have n3 := own_ne _ _ hd (fun cs e => by cases e)
  have hg1 : ∀ k, k < W.heap.size → some k ≠ v.ownBlock → W1.heap[k]? = W.heap[k]? := fun k hk e => (hgr.block k (by simp; omega) e).trans ((below_alloc W o).block k hk)
  have hgs := hgr.size
  simp at hgs
  have gN : N + 2 ≠ g := by
    rcases hat with h | h
    · intro e; subst e; exact n1 h.symm
    · omega
  have hset : ∀ k, k ≠ N + 2 → (W1.setCell ⟨N + 2, 0, none⟩ (.slice (some ⟨g, 0, none⟩) (pre.length + 1) cap)).heap[k]? = W1.heap[k]? := fun k hk => Below.heap_setCell _ _ _ _ (by simpa using hk)
  have fr0 : Fr (fun k => some k = v.ownBlock) W W1 := ((Fr.refl _ W).alloc o).trans (E := fun k => some k = v.ownBlock) ⟨hgr.os, hgr.tape, hgr.output, hgr.size, fun k hk e => hgr.block k hk e⟩ (fun _ _ e => e)
  have fr1 : Fr (fun k => k = N + 2 ∨ some k = v.ownBlock) W (W1.setCell ⟨N + 2, 0, none⟩ (.slice (some ⟨g, 0, none⟩) (pre.length + 1) cap)) := (fr0.mono (fun _ e => .inr e)).setCell _ (.inl (.inl rfl))
  refine ⟨⟨hNw, o1, o2, _, (b.same (hg1 _ lb n1)).set _, ?_, (hset _ (by omega)).trans ((hg1 _ ll n2).trans hl), (hset _ (by omega)).trans ((hg1 _ ld n3).trans hd), ?_, ?_⟩, fr1⟩
  · rw [List.length_append, List.length_singleton, List.map_append]
    exact owns_same ow1 (fun q hq => hset q (by simp [Value.ownBlock] at hq; omega))
  · refine hb.trans ⟨fr1.os, fr1.tape, fr1.output, fr1.size, fun k hk => fr1.block k (by omega) ?_⟩
    rintro (e | e)
    · omega
    · have := (ow.lt k e.symm).1
      omega
  · intro k hk
    obtain ⟨f1, f2, f3, f4⟩ := hf k hk
    refine ⟨f1, f2, f3, fun e => ?_⟩
    simp [Value.ownBlock] at e
    subst e
    rcases hat with h | h
    · exact f4 h.symm
    · have := hF _ hk; omega
end Go.Proofs.Tryz

namespace Go.Proofs.Tryz
open Go.RowKit Go.Shelf
set_option maxRecDepth 100000
attribute [local go_sem] Oper.semAt_some

/-- A range over a method value, at the wide fence. -/
theorem range_method {n : Nat} {P : Program} {g : Operand} {ps : Array Tmp} {assign body : Code} {Q : Exit → Act → World → Prop} {a : Act} {w : World} {gf : Nat} {recv : Value} (h1 : 1 ≤ n) (hg : a.eval g = .func (.func gf) #[recv] #[]) (eg : ∀ args w, (callFunc gf args).run P w = .ok (.enter gf args) w)
    (h : ∀ fn, CallsIn Fence.wide (n - 1) P gf #[recv, .func (.yield (w.heap.size + 1)) #[] #[]] ((w.alloc (.deferred (some []))).alloc (.loop { state := .ready, pending := none, fn, tmps := a.tmps, params := ps, assign, body, defers := w.heap.size }))
      (rangePost Fence.wide n P (w.heap.size + 1) Q { a with defers := [{ target := .collected w.heap.size, args := #[] }] ++ a.defers })) :
    (Code.rangeFunc g ps assign body).wpIn Fence.wide n P Q a w := by
  refine wpIn_rangeFunc ?_
  intro fn _
  refine ⟨w.heap.size + 1, [{ target := .collected w.heap.size, args := #[] }], _, { target := .fn (.func gf) #[], args := #[recv, .func (.yield (w.heap.size + 1)) #[] #[]] }, (w.alloc (.deferred (some []))).alloc (.loop { state := .ready, pending := none, fn, tmps := a.tmps, params := ps, assign, body, defers := w.heap.size }), gf,
    #[recv, .func (.yield (w.heap.size + 1)) #[] #[]], (w.alloc (.deferred (some []))).alloc (.loop { state := .ready, pending := none, fn, tmps := a.tmps, params := ps, assign, body, defers := w.heap.size }), run_enterLoop_outer _ _ _ _ _, ?_, ?_, ?_, fun _ => h1, h fn⟩
  · simp only [resolve, hg]
    simp [go_sem]
  · intro f' hf'; trivial
  · simp [invoke, go_sem, eg]

theorem collect_iter {w w1 : World} {N K : Nat} {cap : Array Value} {L : List IV} {F D : Nat → Prop} (rc : Loop) (hNw : N = w.heap.size) (o1 : N + 2 < w1.heap.size) (b : Box w1 (N + 2) (.slice none 0 0) 86) (hb : Below N w w1) (hS : Str L .none F D w1 (.func (.func K) #[] cap)) (hF2 : ∀ k, F k → k ≠ N + 2) (hDN : ∀ k, D k → N ≤ k)
    (hround : ∀ (pre : List IV) (x : IV) (W : World) (v : Value) (F : Nat → Prop), pre.length < L.length → N = w.heap.size → Box W (N + 2) v 86 → W.ownsRow N 32 1 v pre.length (pre.map iv) → W.heap[w1.heap.size + 1]? = some (.loop rc) → W.heap[w1.heap.size]? = some (.deferred (some [])) → Below N w W → (∀ k, F k → k ≠ N + 2 ∧ k ≠ w1.heap.size ∧ k ≠ w1.heap.size + 1 ∧ some k ≠ v.ownBlock) → (∀ k, F k → k < W.heap.size) →
      YieldAt Fence.wide (3 - 1) Tryz.prog (w1.heap.size + 1) #[.agg #[iv x, .pointer none]] W fun e W' => e = .returned (.bool true) ∧ CS w N w1.heap.size (w1.heap.size + 1) rc F (pre ++ [x]) W' ∧ Fr (fun k => k = N + 2 ∨ k = w1.heap.size + 1 ∨ some k = v.ownBlock) W W') :
    CallsIn Fence.wide 3 Tryz.prog 105 #[.func (.func K) #[] cap, .func (.yield (w1.heap.size + 1)) #[] #[]] ((w1.alloc (.deferred (some []))).alloc (.loop rc)) fun e W' => (∃ v, e = .returned v) ∧ CS w N w1.heap.size (w1.heap.size + 1) rc (fun _ => False) L W' := by
  obtain ⟨hE, hFl⟩ : Enters Tryz.prog K ∧ ∀ k, F k → k < w1.heap.size := by
    refine ⟨?_, hS.lt⟩
    cases L <;> (obtain ⟨K', cap', he, hE, _⟩ := hS; cases he; exact hE)
  refine all_in 3 (w1.heap.size + 1) K cap
    (fun rest W => ∃ pre F D, pre ++ rest = L ∧ CS w N w1.heap.size (w1.heap.size + 1) rc F pre W ∧ Str rest .none F D W (.func (.func K) #[] cap) ∧ (∀ k, D k → N ≤ k))
    (fun x rest W => ∃ pre F D, pre ++ x :: rest = L ∧ CS w N w1.heap.size (w1.heap.size + 1) rc F pre W ∧ Str rest .none F D W (.func (.func K) #[] cap) ∧ (∀ k, D k → N ≤ k))
    (fun W => CS w N w1.heap.size (w1.heap.size + 1) rc (fun _ => False) L W) hE ?_ ?_ ?_ ?_ ?_ L _ ?_
  · rintro x rest W ⟨pre, F, D, he, hc, hs, hd⟩
    have hsub := hs.sub
    obtain ⟨K', cap', e', _, hF, hD, h⟩ := hs
    cases e'
    refine (h W (SameOn.refl _ _) (Nat.le_refl _)).mono ?_
    rintro e W' ⟨fr, rfl, F', D', hF', hD', hS'⟩
    have hsz : N ≤ W.heap.size := by obtain ⟨hN, _, _, _, _, _, _, _, hb, _⟩ := hc; rw [hN]; exact hb.size
    refine ⟨rfl, pre, F', D', he, hc.fr fr hD hd hF', hS', ?_⟩
    intro k hk
    rcases hD' k hk with h | h
    · exact hd k h
    · omega
  · rintro x rest W o ⟨pre, F, D, he, hc, hs, hd⟩
    exact ⟨pre, F, D, he, hc.alloc o, hs.move (fun k hk => (below_alloc W o).block k (hs.lt k hk)) (by simp), hd⟩
  · rintro x rest W ⟨pre, F, D, he, ⟨hN, p1, p2, v, bx, ow, hl, hdf, hbl, hf⟩, hs, hd⟩
    obtain ⟨fn, tmps, assign, body, hy, hR⟩ := hround pre x W v F (by rw [← he]; simp) hN bx ow hl hdf hbl hf hs.lt
    refine ⟨fn, tmps, assign, body, hy, hR.mono ?_⟩
    rintro e W' ⟨rfl, hc', fr'⟩
    refine ⟨rfl, pre ++ [x], F, D, by rw [← he]; simp, hc', hs.after fr' ?_, hd⟩
    rintro k hk (e | e | e)
    · exact (hf k hk).1 e
    · exact (hf k hk).2.2.1 e
    · exact (hf k hk).2.2.2 e
  · rintro W ⟨pre, F, D, he, hc, hs, hd⟩
    obtain ⟨K', cap', e', _, hF, hD, h⟩ := hs
    cases e'
    refine (h W (SameOn.refl _ _) (Nat.le_refl _)).mono ?_
    rintro e W' ⟨fr, rfl⟩
    simp only [List.append_nil] at he
    subst he
    exact ⟨rfl, hc.fr fr hD hd (fun _ e => e.elim)⟩
  · exact fun W o h => h.alloc o
  · have bl := below_alloc2 w1 (.deferred (some [])) (.loop rc)
    refine ⟨[], F, D, rfl, ⟨hNw, by omega, by omega, .slice none 0 0, b.same (bl.block _ b.lt), World.ownsRow_nil _ _ _ _, heap_new2' w1 _ _, (Below.heap_alloc _ _ _ (by simp)).trans (heap_new w1 _), hb.trans (bl.mono (by have := hb.size; omega)), ?_⟩, hS.move (fun k hk => bl.block k (hFl k hk)) bl.size, hDN⟩
    intro k hk
    have := hFl k hk
    exact ⟨hF2 k hk, by omega, by omega, by simp [Value.ownBlock]⟩

theorem owns_shape1 {w : World} {B e n : Nat} {v : Value} {xs : List Value} (h : w.ownsRow B e 1 v n xs) : ∃ a l c, v = .slice a l c := by
  rcases h.2 with ⟨rfl, _⟩ | ⟨g, cap, cur, rfl, _⟩
  · exact ⟨_, _, _, rfl⟩
  · exact ⟨_, _, _, rfl⟩
theorem own_other {W : World} {N n k : Nat} {v : Value} {xs : List Value} {o : Obj} (ow : W.ownsRow N 32 1 v n xs) (hk : W.heap[k]? = some o) (ho : ∀ cs, o ≠ .cells cs 32 (0, 0)) : some k ≠ v.ownBlock := by
  intro e
  rcases ow.2 with ⟨rfl, _⟩ | ⟨g', cap', cur, rfl, _, hg, _⟩
  · simp [Value.ownBlock] at e
  · simp [Value.ownBlock] at e
    subst e
    rw [hk] at hg
    exact ho _ (Option.some.inj hg)

theorem begun_round {w W : World} {N dB lB : Nat} {rc : Loop} {pre : List IV} {v : Value} (x : IV) (hst : rc.state = .ready) (hN : N = w.heap.size) (o1 : N + 2 < dB) (o2 : dB < lB) (b : Box W (N + 2) v 86) (ow : W.ownsRow N 32 1 v pre.length (pre.map iv)) (hl : W.heap[lB]? = some (.loop rc)) (hd : W.heap[dB]? = some (.deferred (some []))) (hb : Below N w W) :
    ∃ Wb, (Instr.beginRound lB).run Tryz.prog (W.alloc (.cells #[iv x, .pointer none] 75)) = .ok () Wb ∧ Box Wb (N + 2) v 86 ∧ Wb.ownsRow N 32 1 v pre.length (pre.map iv) ∧ Wb.heap[lB]? = some (.loop { rc with state := .busy }) ∧ Wb.heap[dB]? = some (.deferred (some [])) ∧ Below N w Wb ∧ SpotBox Wb W.heap.size (iv x) ∧ Wb.heap.size = W.heap.size + 1 ∧ Fr (· = lB) W Wb := by
  have hl1 : (W.alloc (.cells #[iv x, .pointer none] 75)).heap[lB]? = some (.loop rc) := (Below.heap_alloc _ _ _ (lt_of_block hl)).trans hl
  have ll := lt_of_block hl
  have ld := lt_of_block hd
  have hsz := hb.size
  have ht : ∀ k, k ≠ lB → ((W.alloc (.cells #[iv x, .pointer none] 75)).putObj lB (.loop { rc with state := .busy })).heap[k]? = (W.alloc (.cells #[iv x, .pointer none] 75)).heap[k]? := fun k hk => World.putObj_heap_other hk
  have ht2 : ∀ k, k < W.heap.size → k ≠ lB → ((W.alloc (.cells #[iv x, .pointer none] 75)).putObj lB (.loop { rc with state := .busy })).heap[k]? = W.heap[k]? := fun k h hk => (ht k hk).trans (Below.heap_alloc _ _ _ h)
  have fr : Fr (· = lB) W ((W.alloc (.cells #[iv x, .pointer none] 75)).putObj lB (.loop { rc with state := .busy })) := ⟨rfl, rfl, rfl, by simp [World.putObj], fun k hk e => ht2 k hk e⟩
  refine ⟨_, run_beginRound hl1 hst, b.same (ht2 _ b.lt (by omega)), owns_same ow (fun q hq => ht2 q (ow.lt q hq).2 (fun e => own_other ow hl (fun cs h => by cases h) (by rw [← e]; exact hq.symm))), World.putObj_heap_same (by simp; omega), (ht2 _ ld (by omega)).trans hd, hb.trans ⟨rfl, rfl, rfl, by simp [World.putObj], fun k hk => ht2 k (by omega) (by omega)⟩, (ht _ (by omega)).trans (heap_new W _), by simp [World.putObj], fr⟩

theorem arr_of_owns {W : World} {N : Nat} {L : List IV} {v : Value} (hL : L ≠ []) (h : W.ownsRow N 32 1 v L.length (L.map iv)) : Arr N L W (86, v) := by
  rcases h.2 with ⟨rfl, h0⟩ | ⟨g, cap, cur, rfl, hg, hb, hn, hm, hs, ht⟩
  · exact absurd (List.length_eq_zero_iff.1 h0) hL
  · refine ⟨g, cap, hg, lt_of_block hb, hn, hm, rfl, ?_⟩
    intro i hi
    have e : cur[i]? = some (iv L[i]) := by
      have : (cur.toList.take (L.length * 1))[i]? = (L.map iv)[i]? := by rw [ht]
      rw [List.getElem?_take_of_lt (by omega)] at this
      simp [hi] at this
      rw [this]
    simp [World.cell?, hb, e]

set_option maxHeartbeats 8000000 in
theorem collect_ok {B : Nat} {w0 w : World} {T1 b1 : Nat} {kn : Option Addr} {d : Int} {x : IV} {L : List IV} (hO : Opens B w0 (.iface T1 (.pointer (some ⟨b1, 0, none⟩))) x L .none) (hs : SameOn (· < B) w0 w) (hB : B ≤ w.heap.size) (hL : L ≠ []) (hL2 : L.length ≤ 1000) :
    Calls Tryz.prog 124 #[.agg #[.pointer kn, .int .i64 d], .iface T1 (.pointer (some ⟨b1, 0, none⟩)), .agg #[iv x, .pointer none]] w fun e w' => Below w.heap.size w w' ∧ ∃ y, e = .returned (iv y) ∧ Arr w.heap.size L w' y := by
  obtain ⟨T, u⟩ := x
  obtain ⟨i0, hi0, hz0, hz1, hz2⟩ := info_parts (show (Tryz.prog.info? 32).map (fun i => (i.zero, i.size, i.bytes)) = some (some .nilIface, 1, 16) by kernel_rfl)
  simp only [Opens] at hO
  have k3 := below_alloc3 w (.cells #[.pointer kn, .int .i64 d] 71) (.cells #[.iface T u, .pointer none] 75) (.cells #[.slice none 0 0] 86)
  have x2 : Box _ (w.heap.size + 2) (.slice none 0 0) 86 := heap_new3 w (.cells #[.pointer kn, .int .i64 d] 71) (.cells #[.iface T u, .pointer none] 75) (.cells #[.slice none 0 0] 86)
  have hO3 := hO _ kn d (hs.trans (fun k hk => k3.block k (Nat.lt_of_lt_of_le hk hB))) (Nat.le_trans hB k3.size)
  clear hO
  simp only [iv] at hO3 ⊢
  refine (callsIn_wide (n := 4)).1 ?_
  refine callsIn_of_wp_marks Tryz.func124 rfl trivial ?_ rfl
  simp only [Tryz.ntmps124, List.size_toArray, List.length_cons, List.length_nil, Nat.reduceAdd, Nat.reduceSub, Array.replicate_succ, Array.replicate_zero, List.push_toArray, List.append_toArray, List.nil_append, List.cons_append]
  gi_wp2
  refine ⟨trivial, (callsIn_wide.2 hO3).mono ?_⟩
  rintro e w1 ⟨k1, f, F, D, rfl, hS, hF, hD⟩
  obtain ⟨K, cap, rfl⟩ := hS.shape
  gi_wp2
  have hk1 := k1.size
  simp at hk1
  refine range_method (by omega) rfl (enters_of Tryz.func105 (by kernel_rfl) rfl) ?_
  intro fn
  · refine (collect_iter _ rfl (by omega) (x2.same (k1.block _ (by simp))) (k3.trans (k1.mono (by simp; omega))) hS (fun k hk => ?_) (fun k hk => ?_) ?_).mono ?_
    · rcases hF k hk with h | h
      · omega
      · simp at h; omega
    · have := hD k hk
      simp at this
      omega
    · intro pre x W v F' hlen hN bx ow hl hdf hbl hf hFl
      obtain ⟨va, vl, vc, rfl⟩ := owns_shape1 ow
      obtain ⟨Wb, hbr, b1, ow1, hl1, hd1, hbl1, hsp, hsz, fr1⟩ := begun_round x rfl hN (by omega) (by omega) bx ow hl hdf hbl
      obtain ⟨Tx, ux⟩ := x
      simp only [iv] at hbr hsp
      show YieldAt Fence.wide (3 - 1) Tryz.prog (w1.heap.size + 1) #[.agg #[.iface Tx ux, .pointer none]] W _
      refine ⟨fn, _, _, _, run_yield hl rfl, roundIn_of_wpIn trivial ?_⟩
      clear hl
      have HS : Hid _ := hsz
      clear hsz
      gi_wp2
      refine ⟨Wb, hbr, ?_⟩
      have c0 := b1.cell
      have c1 := b1.free
      have c2 := b1.lt
      obtain ⟨s0, s1, _, _, s4⟩ := hsp.facts
      gi_wp2_with (gi_at_builtin; refine wpListIn_append_lies _ rfl _ _ 86 rfl w.heap.size 32 i0 _ 1 16 Tryz.underlying86 hi0 hz0 hz1 hz2 rfl (by omega) _ pre.length (pre.map iv) rfl (ow1.alloc _) ⟨Wb.heap.size, 0, none⟩ 1 1 [.iface Tx ux] rfl rfl (World.news_of_block (cs := #[.iface Tx ux]) (t := 32) (fr := (0, 0)) (heap_new Wb _)) (by simp [Value.oneCell']) (by omega) (by unfold maxLen; omega) (by omega) (by have := hbl1.size; simp; omega) (Wb.heap.size + 1) (by simp) ?_; intro g2 cap2 w2 ow2 hgr hat hlt2; have b2 := b1.same ((hgr.block _ (by simp; omega) (own_other ow1 b1 (fun cs h => by simp at h))).trans ((below_alloc Wb _).block _ c2)); have d0 := b2.cell; have d1 := b2.free; have d2 := b2.lt)
      obtain ⟨hC, fr2⟩ := CS.came (x := (Tx, ux)) rfl (by omega) (by omega) b1 ow1 hl1 hd1 hbl1 hf (fun k hk => by have := hFl k hk; have := HS.out; omega) ow2 hgr hat
      have hl3 : _ = some (Obj.loop _) := hC.2.2.2.choose_spec.2.2.1
      have frA : Fr (fun k => k = w.heap.size + 2 ∨ k = w1.heap.size + 1 ∨ some k = (Value.slice va vl vc).ownBlock) W _ := (fr1.mono (E := fun k => k = w.heap.size + 2 ∨ k = w1.heap.size + 1 ∨ some k = (Value.slice va vl vc).ownBlock) (fun _ e => .inr (.inl e))).trans fr2 (fun _ _ e => e.elim .inl (fun h => .inr (.inr h)))
      refine ⟨_, _, run_endRound none hl3, rfl, hC.put, ?_⟩
      exact ⟨frA.os, frA.tape, frA.output, by have := frA.size; simpa [World.putObj] using this, fun k hk e => (World.putObj_heap_other (fun h => e (.inr (.inl h)))).trans (frA.block k hk e)⟩
    · rintro e W2 ⟨⟨v, rfl⟩, hC⟩
      obtain ⟨-, -, -, v2, bv, ov, hl, hd, hb2, -⟩ := hC
      obtain ⟨va, vl, vc, rfl⟩ := owns_shape1 ov
      have p0 : ∀ o, (W2.putObj (w1.heap.size + 1) o).cell? ⟨w.heap.size + 1 + 1, 0, none⟩ = some (.slice va vl vc) := fun o => Box.cell (bv.same (World.putObj_heap_other (by omega)))
      have p1 : ∀ o, (W2.putObj (w1.heap.size + 1) o).heap[w1.heap.size]? = some (.deferred (some [])) := fun o => (World.putObj_heap_other (by omega)).trans hd
      have p2 : ∀ o, Below w.heap.size w (W2.putObj (w1.heap.size + 1) o) := fun o => hb2.trans ⟨rfl, rfl, rfl, by simp [World.putObj], fun k hk => World.putObj_heap_other (by omega)⟩
      have p3 : ∀ o, (W2.putObj (w1.heap.size + 1) o).ownsRow w.heap.size 32 1 (.slice va vl vc) L.length (L.map iv) := fun o => owns_same ov (fun q hq => World.putObj_heap_other (fun e => own_other ov hl (fun cs h => by cases h) (by rw [← e]; exact hq.symm)))
      have nD := own_other ov hd (fun cs h => by cases h)
      refine ⟨none, _, run_endLoop hl (by simp), ?_⟩
      gi_wp2
      refine ⟨by simp, .inl ⟨_, _, rfl, run_takeDeferred (p1 _), ?_⟩⟩
      refine ⟨_, results_tmp rfl _ _ _, (p2 _).trans ⟨rfl, rfl, rfl, by simp [World.putObj], fun k hk => World.putObj_heap_other (by omega)⟩, (86, .slice va vl vc), rfl, arr_of_owns hL (owns_same (p3 _) (fun q hq => World.putObj_heap_other (fun e => nD (by rw [← e]; exact hq.symm))))⟩
end Go.Proofs.Tryz

