import Derived.Test.YtjablghahhhdhaaGreatDoorLex3
import Derived.Test.YtjablghahhhdhaaGreatDoorNames4
set_option linter.all false
namespace Go.Proofs.Tryz
open Go.RowKit
set_option maxRecDepth 10000

/-- The reader of values at block vb stands at the place a of the text s. -/
structure VAt (w : World) (vb : Nat) (s : ByteArray) (a : Nat) : Prop where
  text : w.cell? ⟨vb, 0, none⟩ = some (.string s)
  pos : w.cell? ⟨vb, 1, none⟩ = some (.int .i64 a)
  free : w.frozen? ⟨vb, 1, none⟩ = false
  le : a ≤ s.size
  max : s.size ≤ 100000

theorem drewN_two (w : World) (a b : Nat) : (w.drewN a).drewN b = w.drewN (a + b) := by
  simp [World.drewN, Nat.add_assoc]

/-- The byte at hand, or 0. -/
def byteAt (s : ByteArray) (a : Nat) : Int := match s.data.toList[a]? with
  | some c => c.toNat
  | none => 0

set_option maxHeartbeats 1000000 in
theorem next_ok {w : World} {vb a : Nat} {s : ByteArray} (h : VAt w vb s a) :
    Calls Tryz.prog 28 #[.pointer (some ⟨vb, 0, none⟩)] w fun e w' => e = .returned (.int .u8 (byteAt s a)) ∧ ∃ n, w' = w.drewN n := by
  obtain ⟨h0, h1, _, hle, hmax⟩ := h
  by_cases hlt : a < s.size
  · have e : byteAt s a = (s[a].toNat : Int) := by simp only [byteAt, at_list s a hlt]
    rw [e]
    clear e
    have hne : ¬ (a : Int) = (s.size : Int) := by omega
    have hl' : (a : Int) < (s.size : Int) := by omega
    have ha0 : (0 : Int) ≤ (a : Int) := by omega
    go_enter Tryz.func28, Tryz.ntmps28
    go_wp2_with fail
    go_quiet (fail)
    go_wp2_with fail
    go_quiet (fail)
    go_wp2_with fail
    go_ret
    exact ⟨rfl, _, drewN_two _ _ _⟩
  · have he : a = s.size := by omega
    have e : byteAt s a = 0 := by simp only [byteAt, List.getElem?_eq_none (show s.data.toList.length ≤ a by rw [size_list]; omega)]
    rw [e]
    clear e
    have hq : (a : Int) = (s.size : Int) := by omega
    subst he
    clear hq hlt
    go_enter Tryz.func28, Tryz.ntmps28
    go_wp2_with fail
    go_quiet (fail)
    go_wp2_with fail
    go_ret
    exact ⟨rfl, _, rfl⟩

theorem VAt.drewN {w : World} {vb a : Nat} {s : ByteArray} (h : VAt w vb s a) (n : Nat) : VAt (w.drewN n) vb s a := ⟨h.text, h.pos, h.free, h.le, h.max⟩

/-- No blank. -/
def noBlank (c : Int) : Prop := ¬ c = 32 ∧ ¬ c = 9 ∧ ¬ c = 10 ∧ ¬ c = 13

set_option maxHeartbeats 1000000 in
theorem skip_none {w : World} {vb a : Nat} {s : ByteArray} (h : VAt w vb s a) (hb : noBlank (byteAt s a)) :
    Calls Tryz.prog 26 #[.pointer (some ⟨vb, 0, none⟩)] w fun e w' => e = .returned (.tuple #[]) ∧ ∃ n, w' = w.drewN n := by
  obtain ⟨b1, b2, b3, b4⟩ := hb
  go_enter Tryz.func26, Tryz.ntmps26
  go_wp2_with fail
  refine wp_loop_rounds 1 ?_
  rw [rounds_succ]
  go_wp2_with (go_at_call 28; refine (next_ok h).mono ?_; rintro e w1 ⟨rfl, n, rfl⟩)
  exact bodyPost_ret (v := .tuple #[]) (by simp [results, Tryz.results26, go_sem]) rfl ⟨rfl, _, rfl⟩

set_option maxHeartbeats 400000 in
theorem vIsDigit_any (c : Int) (w : World) : Calls Tryz.prog 71 #[.int .u8 c] w fun e w' => e = .returned (.bool (decide (48 ≤ c) && decide (c ≤ 57))) ∧ w' = w := by
  go_enter Tryz.func71, Tryz.ntmps71
  by_cases h : 48 ≤ c
  · go_wp2
    go_ret
    exact ⟨ret_bool (by simp [h]), rfl⟩
  · go_wp2
    go_ret
    exact ⟨ret_bool (by rw [decide_eq_false (by omega : ¬ 48 ≤ c)]; rfl), rfl⟩

end Go.Proofs.Tryz

