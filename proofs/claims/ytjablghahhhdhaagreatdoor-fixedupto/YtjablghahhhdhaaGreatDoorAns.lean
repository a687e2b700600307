import Derived.Test.YtjablghahhhdhaaGreatDoorPull
set_option linter.all false
namespace Go.Proofs.Tryz
open Go.RowKit
set_option maxRecDepth 10000

/-- The canonical text of a value, in a world and in whatever lies behind it. -/
def CanonAt (w : World) (y : IV) (out : ByteArray) : Prop := ∀ w', Below w.heap.size w w' → Calls Tryz.prog 8 #[iv y] w' fun e w'' => e = .returned (.string out) ∧ Below w'.heap.size w' w''

theorem two_facts {w : World} {b : Nat} {x y : Value} {t : TypeId} (h : w.heap[b]? = some (.cells #[x, y] t (0, 0))) : w.cell? ⟨b, 0, none⟩ = some x ∧ w.cell? ⟨b, 1, none⟩ = some y ∧ w.frozen? ⟨b, 0, none⟩ = false ∧ w.frozen? ⟨b, 1, none⟩ = false ∧ b < w.heap.size := by
  refine ⟨?_, ?_, ?_, ?_, lt_of_block h⟩ <;> simp [World.cell?, World.frozen?, h]
def ansV (s : Int) (t : ByteArray) : Value := .agg #[.int .u8 s, .string t]

set_option maxHeartbeats 1000000 in
theorem answer_some {w : World} {y : IV} {out : ByteArray} (h : CanonAt w y out) :
    Calls Tryz.prog 23 #[.agg #[iv y, .pointer none], .bool true, .pointer none] w fun e w' => e = .returned (ansV 1 out) ∧ Below w.heap.size w w' := by
  obtain ⟨T, u⟩ := y
  simp only [CanonAt, iv] at h ⊢
  go_enter Tryz.func23, Tryz.ntmps23
  go_wp2_with (go_at_call 8; refine (h _ (below_alloc2 w _ _)).mono ?_; rintro e w1 ⟨rfl, k1⟩; obtain ⟨q0, q1, q2, q3, q4⟩ := two_facts ((k1.block (w.heap.size + 1) (by simp)).trans (heap_new2' w _ _)))
  exact bodyPost_ret (v := ansV 1 out) (by simp [results, Tryz.results23, go_sem, q4, q0, q1, ansV]) rfl ⟨rfl, (((below_alloc2 w _ _).trans (k1.mono (by simp; omega))).setCell (by simp) _).setCell (by simp) _⟩

set_option maxHeartbeats 1000000 in
theorem answer_done {w : World} :
    Calls Tryz.prog 23 #[.agg #[.nilIface, .pointer none], .bool false, .pointer none] w fun e w' => e = .returned (ansV 0 ⟨#[]⟩) ∧ Below w.heap.size w w' := by
  go_enter Tryz.func23, Tryz.ntmps23
  go_wp2
  exact bodyPost_ret (v := ansV 0 ⟨#[]⟩) (by simp [results, Tryz.results23, go_sem, ansV]) rfl ⟨rfl, below_alloc2 w _ _⟩

set_option maxHeartbeats 1000000 in
theorem answer_failed {w : World} {b : Nat} {v : IV} {out : ByteArray} (hb : w.heap[b]? = some (.cells #[.int .u8 0, iv v, .pointer none] 157 (0, 0))) (h : CanonAt w v out) :
    Calls Tryz.prog 23 #[.agg #[.nilIface, .pointer none], .bool false, .pointer (some ⟨b, 0, none⟩)] w fun e w' => e = .returned (ansV 2 out) ∧ Below w.heap.size w w' := by
  obtain ⟨T, u⟩ := v
  simp only [CanonAt, iv] at h hb ⊢
  have c0 : w.cell? ⟨b, 0, none⟩ = some (.int .u8 0) := by simp [World.cell?, hb]
  have c1 : w.cell? ⟨b, 1, none⟩ = some (.iface T u) := by simp [World.cell?, hb]
  have hl := lt_of_block hb
  go_enter Tryz.func23, Tryz.ntmps23
  go_wp2_with (go_at_call 8; refine (h _ (below_alloc2 w _ _)).mono ?_; rintro e w1 ⟨rfl, k1⟩; obtain ⟨q0, q1, q2, q3, q4⟩ := two_facts ((k1.block (w.heap.size + 1) (by simp)).trans (heap_new2' w _ _)))
  exact bodyPost_ret (v := ansV 2 out) (by simp [results, Tryz.results23, go_sem, q4, q0, q1, ansV]) rfl ⟨rfl, (((below_alloc2 w _ _).trans (k1.mono (by simp; omega))).setCell (by simp) _).setCell (by simp) _⟩
end Go.Proofs.Tryz

