import Derived.Test.YtjablghahhhdhaaGreatDoorNames3
set_option linter.all false
namespace Go.Proofs.Tryz
open Go.RowKit
set_option maxRecDepth 10000

set_option maxHeartbeats 2000000 in
theorem one_ite {cb b : Nat} {s : Option Addr} {w : World} {x y z : Value} (c0 : w.cell? ⟨b, 0, none⟩ = some x) (c1 : w.cell? ⟨b, 1, none⟩ = some y) (c2 : w.cell? ⟨b, 2, none⟩ = some z)
    (hx : ∃ T b, x = .iface T (.pointer (some ⟨b, 0, none⟩))) (hy : ∃ T b, y = .iface T (.pointer (some ⟨b, 0, none⟩))) (hz : ∃ T b, z = .iface T (.pointer (some ⟨b, 0, none⟩))) (h1 : Fine cb s w x) (h2 : Fine cb s w y) (h3 : Fine cb s w z) : FineAt cb s w (.iface 158 (.pointer (some ⟨b, 0, none⟩))) := by
  unfold FineAt
  obtain ⟨T1, b1, rfl⟩ := hx
  obtain ⟨T2, b2, rfl⟩ := hy
  obtain ⟨T3, b3, rfl⟩ := hz
  have hb := cell_lt c0
  have a0 := missVariable; have a1 := missBreak; have a2 := missCall; have a3 := missField; have a4 := missIndex; have a5 := missEach; have a6 := missOptional; have a7 := missCollect; have a8 := missBuild; have a9 := missBinary; have a10 := missMinus; have a11 := missTry; have a12 := hitIf
  go_enter Tryz.func89, Tryz.ntmps89
  go_wp2_with fail
  go_region_held3 (fun w' => w'.cell? ⟨b, 0, none⟩ = some (.iface T1 (.pointer (some ⟨b1, 0, none⟩))) ∧ w'.cell? ⟨b, 1, none⟩ = some (.iface T2 (.pointer (some ⟨b2, 0, none⟩))) ∧ w'.cell? ⟨b, 2, none⟩ = some (.iface T3 (.pointer (some ⟨b3, 0, none⟩)))) (first | exact ⟨e0, e1, e2⟩ | go_keep)
    (first | (go_at_call 40; refine (check3 (heap_newd w _) ⟨_, _, rfl⟩ ⟨_, _, rfl⟩ ⟨_, _, rfl⟩ (h1.below (below_alloc _ _).drew) (h2.below (below_alloc _ _).drew) (h3.below (below_alloc _ _).drew)).mono ?_; rintro e w1 ⟨rfl, k1⟩; have e0 : w1.cell? ⟨b, 0, none⟩ = some (.iface T1 (.pointer (some ⟨b1, 0, none⟩))) := (k1.cell (p := ⟨b, 0, none⟩) (by simp; omega)).trans (((below_alloc w _).drew.cell (p := ⟨b, 0, none⟩) hb).trans c0); have e1 : w1.cell? ⟨b, 1, none⟩ = some (.iface T2 (.pointer (some ⟨b2, 0, none⟩))) := (k1.cell (p := ⟨b, 1, none⟩) (by simp; omega)).trans (((below_alloc w _).drew.cell (p := ⟨b, 1, none⟩) hb).trans c1); have e2 : w1.cell? ⟨b, 2, none⟩ = some (.iface T3 (.pointer (some ⟨b3, 0, none⟩))) := (k1.cell (p := ⟨b, 2, none⟩) (by simp; omega)).trans (((below_alloc w _).drew.cell (p := ⟨b, 2, none⟩) hb).trans c2)))
  go_wp2_with fail
  go_end0
  exact ⟨rfl, (below_alloc _ _).drew.trans (k1.mono (by simp))⟩

theorem below_drewN (w : World) (m : Nat) : Below w.heap.size w (w.drewN m) := ⟨rfl, rfl, rfl, Nat.le_refl _, fun _ _ => rfl⟩
theorem Scope.drewN {w : World} {v : Value} {env : Env} (h : Scope w v env) (m : Nat) : Scope (w.drewN m) v env := h.below (below_drewN w m)
theorem has_yes (v : Value) (env : Env) (u : Int) (n : ByteArray) (k : Int) (w : World) (h : Scope w v env) (ho : hasB env u n k = true) :
    Calls Tryz.prog 141 #[v, .int .u8 u, .string n, .int .i64 k] w fun e w' => e = .returned (.bool true) ∧ w' = w := by
  have h1 := has_any v env u n k w h
  rw [ho] at h1; exact h1

set_option maxHeartbeats 2000000 in
/-- A call whose name is known; its arguments are looked at. -/
theorem one_callN {cb b : Nat} {s : Option Addr} {w : World} {n : ByteArray} {env : Env} {a : Option Addr} {k cap : Nat} (c0 : w.cell? ⟨b, 0, none⟩ = some (.string n)) (c1 : w.cell? ⟨b, 1, none⟩ = some (.slice a k cap)) (hk : k ≤ 2) (hs : Scope w (.pointer s) env) (ho : hasB env 2 n k = true)
    (hc : ∀ w', Below w.heap.size w w' → Calls Tryz.prog 40 #[.pointer (some ⟨cb, 0, none⟩), .pointer s, .slice a k cap] w' fun e w'' => e = .returned (.tuple #[]) ∧ Below w'.heap.size w' w'') :
    FineAt cb s w (.iface 169 (.pointer (some ⟨b, 0, none⟩))) := by
  unfold FineAt
  have hb := cell_lt c0
  have a0 := missVariable; have a1 := missBreak; have a2 := hitCall
  go_enter Tryz.func89, Tryz.ntmps89
  go_wp2_with fail
  go_quiet ((go_at_call 141; exact Calls.quiet_of_same (has_yes _ env _ _ _ _ (hs.drewN _) ho)))
  go_wp2_with (go_at_call 40; refine (hc _ (below_drewN _ _)).mono ?_; rintro e w1 ⟨rfl, k1⟩)
  go_end0
  exact ⟨rfl, (below_drewN _ _).trans k1⟩

end Go.Proofs.Tryz

