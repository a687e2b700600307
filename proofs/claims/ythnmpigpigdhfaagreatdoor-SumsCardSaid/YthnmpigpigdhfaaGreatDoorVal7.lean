import Derived.Test.YthnmpigpigdhfaaGreatDoorCollect2
import Derived.Test.YthnmpigpigdhfaaGreatDoorCollect
import Derived.Test.YthnmpigpigdhfaaGreatDoorVal3
import Derived.Test.YthnmpigpigdhfaaGreatDoorStr1
import Derived.Test.YthnmpigpigdhfaaGreatDoorCanon5
import Derived.Test.YthnmpigpigdhfaaGreatDoorLex3
import Derived.Test.YthnmpigpigdhfaaGreatDoorNames4
import Derived.Lib.ParseIntB
import Derived.Deep.LoopGhost
import Derived.Lib.ItoaMem
set_option linter.all false
namespace Go.Proofs.Tryz
open Go.RowKit
set_option maxRecDepth 10000

/-- The reader of values at block vb stands at the place a of the text s. -/
structure VAt (w : World) (vb : Nat) (s : ByteArray) (a : Nat) : Prop where
  text : w.cell? ⟨vb, 0, none⟩ = some (.string s)
  pos : w.cell? ⟨vb, 1, none⟩ = some (.int .i64 a)
  free : w.frozen? ⟨vb, 1, none⟩ = false
  le : a ≤ s.size
  max : s.size ≤ 100000

theorem drewN_two (w : World) (a b : Nat) : (w.drewN a).drewN b = w.drewN (a + b) := by
  simp [World.drewN, Nat.add_assoc]

/-- The byte at hand, or 0. -/
def byteAt (s : ByteArray) (a : Nat) : Int := match s.data.toList[a]? with
  | some c => c.toNat
  | none => 0

set_option maxHeartbeats 1000000 in
theorem next_ok {w : World} {vb a : Nat} {s : ByteArray} (h : VAt w vb s a) :
    Calls Tryz.prog 40 #[.pointer (some ⟨vb, 0, none⟩)] w fun e w' => e = .returned (.int .u8 (byteAt s a)) ∧ ∃ n, w' = w.drewN n := by
  obtain ⟨h0, h1, _, hle, hmax⟩ := h
  by_cases hlt : a < s.size
  · have e : byteAt s a = (s[a].toNat : Int) := by simp only [byteAt, at_list s a hlt]
    rw [e]
    clear e
    have hne : ¬ (a : Int) = (s.size : Int) := by omega
    have hl' : (a : Int) < (s.size : Int) := by omega
    have ha0 : (0 : Int) ≤ (a : Int) := by omega
    go_enter Tryz.func40, Tryz.ntmps40
    go_wp2_with fail
    go_quiet (fail)
    go_wp2_with fail
    go_quiet (fail)
    go_wp2_with fail
    go_ret
    exact ⟨rfl, _, drewN_two _ _ _⟩
  · have he : a = s.size := by omega
    have e : byteAt s a = 0 := by simp only [byteAt, List.getElem?_eq_none (show s.data.toList.length ≤ a by rw [size_list]; omega)]
    rw [e]
    clear e
    have hq : (a : Int) = (s.size : Int) := by omega
    subst he
    clear hq hlt
    go_enter Tryz.func40, Tryz.ntmps40
    go_wp2_with fail
    go_quiet (fail)
    go_wp2_with fail
    go_ret
    exact ⟨rfl, _, rfl⟩

theorem VAt.drewN {w : World} {vb a : Nat} {s : ByteArray} (h : VAt w vb s a) (n : Nat) : VAt (w.drewN n) vb s a := ⟨h.text, h.pos, h.free, h.le, h.max⟩

/-- No blank. -/
def noBlank (c : Int) : Prop := ¬ c = 32 ∧ ¬ c = 9 ∧ ¬ c = 10 ∧ ¬ c = 13

set_option maxHeartbeats 1000000 in
theorem skip_none {w : World} {vb a : Nat} {s : ByteArray} (h : VAt w vb s a) (hb : noBlank (byteAt s a)) :
    Calls Tryz.prog 38 #[.pointer (some ⟨vb, 0, none⟩)] w fun e w' => e = .returned (.tuple #[]) ∧ ∃ n, w' = w.drewN n := by
  obtain ⟨b1, b2, b3, b4⟩ := hb
  go_enter Tryz.func38, Tryz.ntmps38
  go_wp2_with fail
  refine wp_loop_rounds 1 ?_
  rw [rounds_succ]
  go_wp2_with (go_at_call 40; refine (next_ok h).mono ?_; rintro e w1 ⟨rfl, n, rfl⟩)
  exact bodyPost_ret (v := .tuple #[]) (by simp [results, Tryz.results38, go_sem]) rfl ⟨rfl, _, rfl⟩

set_option maxHeartbeats 400000 in
theorem vIsDigit_any (c : Int) (w : World) : Calls Tryz.prog 93 #[.int .u8 c] w fun e w' => e = .returned (.bool (decide (48 ≤ c) && decide (c ≤ 57))) ∧ w' = w := by
  go_enter Tryz.func93, Tryz.ntmps93
  by_cases h : 48 ≤ c
  · go_wp2
    go_ret
    exact ⟨ret_bool (by simp [h]), rfl⟩
  · go_wp2
    go_ret
    exact ⟨ret_bool (by rw [decide_eq_false (by omega : ¬ 48 ≤ c)]; rfl), rfl⟩

end Go.Proofs.Tryz

namespace Go.Proofs.Tryz
open Go.RowKit
set_option maxRecDepth 10000

/-- strconv.ParseInt at base 10 and 64 bits: what the library's contract says of it. -/
def ParsesAll : Prop := ∀ (s : ByteArray) (v : Int) (w : World), s.size ≤ 100000 → Lib.parseIntB 64 s.data.toList = .ok v →
  Calls Tryz.prog 152 #[.string s, .int .i64 10, .int .i64 64] w fun e w' => e = .returned (.tuple #[.int .i64 v, .nilIface]) ∧ Below w.heap.size w w'

/-- The reader's block. -/
def VBlk (w : World) (vb : Nat) (s : ByteArray) (a : Nat) (ov : Value) : Prop := w.heap[vb]? = some (.cells #[.string s, .int .i64 a, ov] 58 (0, 0))

theorem three_facts' {w : World} {b : Nat} {x y z : Value} {t : TypeId} (h : w.heap[b]? = some (.cells #[x, y, z] t (0, 0))) : w.cell? ⟨b, 0, none⟩ = some x ∧ w.cell? ⟨b, 1, none⟩ = some y ∧ w.cell? ⟨b, 2, none⟩ = some z ∧ w.frozen? ⟨b, 0, none⟩ = false ∧ w.frozen? ⟨b, 1, none⟩ = false ∧ w.frozen? ⟨b, 2, none⟩ = false ∧ b < w.heap.size := by
  refine ⟨?_, ?_, ?_, ?_, ?_, ?_, lt_of_block h⟩ <;> simp [World.cell?, World.frozen?, h]
theorem VBlk.at {w : World} {vb a : Nat} {s : ByteArray} {ov : Value} (h : VBlk w vb s a ov) (hle : a ≤ s.size) (hm : s.size ≤ 100000) : VAt w vb s a := by
  obtain ⟨c0, c1, c2, f0, f1, f2, hl⟩ := three_facts' h
  exact ⟨c0, c1, f1, hle, hm⟩
theorem VBlk.set {w : World} {vb a b : Nat} {s : ByteArray} {ov : Value} (h : VBlk w vb s a ov) : VBlk (w.setCell ⟨vb, 1, none⟩ (.int .i64 b)) vb s b ov := cells_set h
theorem VBlk.drewN {w : World} {vb a : Nat} {s : ByteArray} {ov : Value} (h : VBlk w vb s a ov) (n : Nat) : VBlk (w.drewN n) vb s a ov := h
theorem VBlk.same {w w' : World} {vb a : Nat} {s : ByteArray} {ov : Value} (h : VBlk w vb s a ov) (e : w'.heap[vb]? = w.heap[vb]?) : VBlk w' vb s a ov := e.trans h

def digI (c : Int) : Prop := 48 ≤ c ∧ c ≤ 57

set_option maxHeartbeats 4000000 in
theorem number_pos (hI : ParsesAll) {w : World} {vb a q : Nat} {s : ByteArray} {ov : Value} {n : Int} (h : VBlk w vb s a ov) (hm : s.size ≤ 100000) (hq : a < q) (hqs : q ≤ s.size) (hd0 : digI (byteAt s a)) (hdig : ∀ i, a < i → i < q → digI (byteAt s i)) (hlead : byteAt s a = 48 → q = a + 1) (hend : ¬ digI (byteAt s q)) (hp : Lib.parseIntB 64 (s.extract a q).data.toList = .ok n) :
    Calls Tryz.prog 94 #[.pointer (some ⟨vb, 0, none⟩)] w fun e w' => e = .returned (.tuple #[numV n, .bool true]) ∧ VBlk w' vb s q ov ∧ Fr (· = vb) w w' := by
  obtain ⟨c0, c1, c2, f0, f1, f2, hl⟩ := three_facts' h
  have h0 := h.at (by omega) hm
  obtain ⟨d1, d2⟩ := hd0
  have n45 : (byteAt s a == 45) = false := by simp; omega
  go_enter Tryz.func94, Tryz.ntmps94
  go_wp2_with (first
    | (go_at_call 40; refine (next_ok (by first | exact h0 | exact h0.drewN _)).mono ?_; rintro e w1 ⟨rfl, m, rfl⟩)
    | (go_at_call 93; refine (vIsDigit_any _ _).mono ?_; rintro e w1 ⟨rfl, hw⟩; subst hw))
  go_loopg [41] (q - (a + 1)) (fun k v wr => ∃ j : Nat, a < j ∧ j + k = q ∧ VBlk wr vb s j ov ∧ Fr (· = vb) w wr)
  case atStart => exact ⟨a + 1, by omega, by omega, (h.drewN _).set, ((Fr.refl _ w).drewN _).setCell _ (.inl rfl)⟩
  case round =>
    obtain ⟨j, hj1, hj2, hv, hfr⟩ := hrel
    obtain ⟨v0, v1, v2, g0, g1, g2, vl⟩ := three_facts' hv
    have hvA := hv.at (by omega) hm
    by_cases hjq : j < q
    · have n48 : (byteAt s a != 48) = true := by
        have : byteAt s a ≠ 48 := fun e => by have := hlead e; omega
        simpa using this
      obtain ⟨e1, e2⟩ := hdig j hj1 hjq
      go_wp2_with (first
        | (go_at_call 40; refine (next_ok hvA).mono ?_; rintro e w1 ⟨rfl, m, rfl⟩)
        | (go_at_call 93; refine (vIsDigit_any _ _).mono ?_; rintro e w1 ⟨rfl, hw⟩; subst hw))
      go_roundg (gk - 1)
      case measure => omega
      case rel => exact ⟨j + 1, by omega, by omega, (hv.drewN _).set, (hfr.drewN _).setCell _ (.inl rfl)⟩
    · obtain rfl : j = q := by omega
      have q0 : (0 : Int) ≤ (a : Int) := by omega
      have q1 : (a : Int) ≤ (j : Int) := by omega
      have q2 : (j : Int) ≤ (s.size : Int) := by omega
      have hes : (s.extract a j).size ≤ 100000 := by simp [ByteArray.size_extract]; omega
      have nd : (decide (48 ≤ byteAt s j) && decide (byteAt s j ≤ 57)) = false := by
        cases hh : (decide (48 ≤ byteAt s j) && decide (byteAt s j ≤ 57)) with
        | false => rfl
        | true => simp at hh; exact absurd hh hend
      clear hlead hdig hend
      by_cases h48 : byteAt s a = 48
      · have n48 : (byteAt s a != 48) = false := by simpa using h48
        go_wp2_with fail
        go_region_held3 (fun w' => w'.cell? ⟨vb, 0, none⟩ = some (.string s) ∧ w'.cell? ⟨vb, 1, none⟩ = some (.int .i64 j)) (first | exact e4 | go_keep)
          (first | (go_at_call 152; refine (hI _ _ _ hes hp).mono ?_; rintro e w1 ⟨rfl, k1⟩; have e4 : w1.cell? ⟨vb, 0, none⟩ = some (.string s) ∧ w1.cell? ⟨vb, 1, none⟩ = some (.int .i64 j) := ⟨(k1.cell (p := ⟨vb, 0, none⟩) (by simpa using vl)).trans (by simpa using v0), (k1.cell (p := ⟨vb, 1, none⟩) (by simpa using vl)).trans (by simpa using v1)⟩))
        go_wp2_with fail
        exact bodyPost_ret (v := .tuple #[numV n, .bool true]) (by simp [results, Tryz.results94, go_sem]) rfl ⟨rfl, hv.same (k1.block _ (by simpa using vl)), (hfr.drewN _).trans (Fr.of_below (D := (· = vb)) k1) (fun _ _ e => e)⟩
      · have n48 : (byteAt s a != 48) = true := by simpa using h48
        go_wp2_with (first
          | (go_at_call 40; refine (next_ok hvA).mono ?_; rintro e w1 ⟨rfl, m, rfl⟩)
          | (go_at_call 93; refine (vIsDigit_any _ _).mono ?_; rintro e w1 ⟨rfl, hw⟩; subst hw; rw [nd]))
        go_region_held3 (fun w' => w'.cell? ⟨vb, 0, none⟩ = some (.string s) ∧ w'.cell? ⟨vb, 1, none⟩ = some (.int .i64 j)) (first | exact e4 | go_keep)
          (first | (go_at_call 152; refine (hI _ _ _ hes hp).mono ?_; rintro e w1 ⟨rfl, k1⟩; have e4 : w1.cell? ⟨vb, 0, none⟩ = some (.string s) ∧ w1.cell? ⟨vb, 1, none⟩ = some (.int .i64 j) := ⟨(k1.cell (p := ⟨vb, 0, none⟩) (by simpa using vl)).trans (by simpa using v0), (k1.cell (p := ⟨vb, 1, none⟩) (by simpa using vl)).trans (by simpa using v1)⟩))
        go_wp2_with fail
        exact bodyPost_ret (v := .tuple #[numV n, .bool true]) (by simp [results, Tryz.results94, go_sem]) rfl ⟨rfl, hv.same (k1.block _ (by simpa using vl)), (hfr.drewN _).trans (Fr.of_below (D := (· = vb)) k1) (fun _ _ e => e)⟩
end Go.Proofs.Tryz

namespace Go.Proofs.Tryz
open Go.RowKit
set_option maxRecDepth 10000

set_option maxHeartbeats 4000000 in
theorem number_neg (hI : ParsesAll) {w : World} {vb a q : Nat} {s : ByteArray} {ov : Value} {n : Int} (h : VBlk w vb s a ov) (hm : s.size ≤ 100000) (hq : a + 1 < q) (hqs : q ≤ s.size) (hs45 : byteAt s a = 45) (hd0 : digI (byteAt s (a + 1))) (hdig : ∀ i, a + 1 < i → i < q → digI (byteAt s i)) (hlead : byteAt s (a + 1) = 48 → q = a + 2) (hend : ¬ digI (byteAt s q)) (hp : Lib.parseIntB 64 (s.extract a q).data.toList = .ok n) :
    Calls Tryz.prog 94 #[.pointer (some ⟨vb, 0, none⟩)] w fun e w' => e = .returned (.tuple #[numV n, .bool true]) ∧ VBlk w' vb s q ov ∧ Fr (· = vb) w w' := by
  obtain ⟨c0, c1, c2, f0, f1, f2, hl⟩ := three_facts' h
  have h0 := h.at (by omega) hm
  obtain ⟨d1, d2⟩ := hd0
  have vs : ∀ m m', VAt (((w.drewN m).setCell ⟨vb, 1, none⟩ (.int .i64 ((a : Int) + 1))).drewN m') vb s (a + 1) := fun m m' => VBlk.at (a := a + 1) (((h.drewN m).set (b := a + 1)).drewN m') (by omega) hm
  have vs0 : ∀ m, VAt ((w.drewN m).setCell ⟨vb, 1, none⟩ (.int .i64 ((a : Int) + 1))) vb s (a + 1) := fun m => VBlk.at (a := a + 1) ((h.drewN m).set (b := a + 1)) (by omega) hm
  obtain ⟨B1, hB1⟩ : ∃ B1, byteAt s (a + 1) = B1 := ⟨_, rfl⟩
  rw [hB1] at d1 d2 hlead
  have H1 : Hid _ := hB1
  clear hB1
  go_enter Tryz.func94, Tryz.ntmps94
  go_wp2_with (first
    | (go_at_call 40; refine (next_ok h0).mono ?_; rintro e w1 ⟨rfl, m, rfl⟩; rw [hs45])
    | (go_at_call 40; refine (next_ok (a := a + 1) (by first | exact vs0 _ | exact vs _ _)).mono ?_; rintro e w1 ⟨rfl, m, rfl⟩; rw [H1.out])
    | (go_at_call 93; refine (vIsDigit_any _ _).mono ?_; rintro e w1 ⟨rfl, hw⟩; subst hw))
  go_loopg [41] (q - (a + 2)) (fun k v wr => ∃ j : Nat, a + 1 < j ∧ j + k = q ∧ VBlk wr vb s j ov ∧ Fr (· = vb) w wr)
  case atStart => exact ⟨a + 2, by omega, by omega, ((h.drewN _).set (b := a + 1)).drewN _ |>.set, ((((Fr.refl (· = vb) w).drewN _).setCell _ (.inl rfl)).drewN _).setCell _ (.inl rfl)⟩
  case round =>
    obtain ⟨j, hj1, hj2, hv, hfr⟩ := hrel
    obtain ⟨v0, v1, v2, g0, g1, g2, vl⟩ := three_facts' hv
    have hvA := hv.at (by omega) hm
    by_cases hjq : j < q
    · have n48 : (B1 != 48) = true := by
        have : B1 ≠ 48 := fun e => by have := hlead e; omega
        simpa using this
      obtain ⟨e1, e2⟩ := hdig j hj1 hjq
      go_wp2_with (first
        | (go_at_call 40; refine (next_ok hvA).mono ?_; rintro e w1 ⟨rfl, m, rfl⟩)
        | (go_at_call 93; refine (vIsDigit_any _ _).mono ?_; rintro e w1 ⟨rfl, hw⟩; subst hw))
      go_roundg (gk - 1)
      case measure => omega
      case rel => exact ⟨j + 1, by omega, by omega, (hv.drewN _).set, (hfr.drewN _).setCell _ (.inl rfl)⟩
    · obtain rfl : j = q := by omega
      have q0 : (0 : Int) ≤ (a : Int) := by omega
      have q1 : (a : Int) ≤ (j : Int) := by omega
      have q2 : (j : Int) ≤ (s.size : Int) := by omega
      have hes : (s.extract a j).size ≤ 100000 := by simp [ByteArray.size_extract]; omega
      have nd : (decide (48 ≤ byteAt s j) && decide (byteAt s j ≤ 57)) = false := by
        cases hh : (decide (48 ≤ byteAt s j) && decide (byteAt s j ≤ 57)) with
        | false => rfl
        | true => simp at hh; exact absurd hh hend
      clear hlead hdig hend
      by_cases h48 : B1 = 48
      · have n48 : (B1 != 48) = false := by simpa using h48
        go_wp2_with fail
        go_region_held3 (fun w' => w'.cell? ⟨vb, 0, none⟩ = some (.string s) ∧ w'.cell? ⟨vb, 1, none⟩ = some (.int .i64 j)) (first | exact e4 | go_keep)
          (first | (go_at_call 152; refine (hI _ _ _ hes hp).mono ?_; rintro e w1 ⟨rfl, k1⟩; have e4 : w1.cell? ⟨vb, 0, none⟩ = some (.string s) ∧ w1.cell? ⟨vb, 1, none⟩ = some (.int .i64 j) := ⟨(k1.cell (p := ⟨vb, 0, none⟩) (by simpa using vl)).trans (by simpa using v0), (k1.cell (p := ⟨vb, 1, none⟩) (by simpa using vl)).trans (by simpa using v1)⟩))
        go_wp2_with fail
        exact bodyPost_ret (v := .tuple #[numV n, .bool true]) (by simp [results, Tryz.results94, go_sem]) rfl ⟨rfl, hv.same (k1.block _ (by simpa using vl)), (hfr.drewN _).trans (Fr.of_below (D := (· = vb)) k1) (fun _ _ e => e)⟩
      · have n48 : (B1 != 48) = true := by simpa using h48
        go_wp2_with (first
          | (go_at_call 40; refine (next_ok hvA).mono ?_; rintro e w1 ⟨rfl, m, rfl⟩)
          | (go_at_call 93; refine (vIsDigit_any _ _).mono ?_; rintro e w1 ⟨rfl, hw⟩; subst hw; rw [nd]))
        go_region_held3 (fun w' => w'.cell? ⟨vb, 0, none⟩ = some (.string s) ∧ w'.cell? ⟨vb, 1, none⟩ = some (.int .i64 j)) (first | exact e4 | go_keep)
          (first | (go_at_call 152; refine (hI _ _ _ hes hp).mono ?_; rintro e w1 ⟨rfl, k1⟩; have e4 : w1.cell? ⟨vb, 0, none⟩ = some (.string s) ∧ w1.cell? ⟨vb, 1, none⟩ = some (.int .i64 j) := ⟨(k1.cell (p := ⟨vb, 0, none⟩) (by simpa using vl)).trans (by simpa using v0), (k1.cell (p := ⟨vb, 1, none⟩) (by simpa using vl)).trans (by simpa using v1)⟩))
        go_wp2_with fail
        exact bodyPost_ret (v := .tuple #[numV n, .bool true]) (by simp [results, Tryz.results94, go_sem]) rfl ⟨rfl, hv.same (k1.block _ (by simpa using vl)), (hfr.drewN _).trans (Fr.of_below (D := (· = vb)) k1) (fun _ _ e => e)⟩
end Go.Proofs.Tryz

namespace Go.Proofs.Tryz
open Go.RowKit
set_option maxRecDepth 10000

theorem dec_small {u : Nat} (h : u < 10) : Lib.decDigits u = [UInt8.ofNat (48 + u)] := by rw [Lib.decDigits, dif_pos h]
theorem dec_big {u : Nat} (h : ¬ u < 10) : Lib.decDigits u = Lib.decDigits (u / 10) ++ [UInt8.ofNat (48 + u % 10)] := by rw [Lib.decDigits, dif_neg h]
theorem ofNat_dig {k : Nat} (h : k < 10) : (UInt8.ofNat (48 + k)).toNat = 48 + k := by
  simp [UInt8.toNat_ofNat']; omega
theorem dec_ne (u : Nat) : Lib.decDigits u ≠ [] := by
  by_cases h : u < 10
  · rw [dec_small h]; simp
  · rw [dec_big h]; simp
theorem dec_all (u : Nat) : ∀ c ∈ Lib.decDigits u, 48 ≤ c.toNat ∧ c.toNat ≤ 57 := by
  induction u using Nat.strongRecOn with
  | _ u ih =>
    intro c hc
    by_cases h : u < 10
    · rw [dec_small h] at hc
      simp only [List.mem_singleton] at hc
      subst hc
      rw [ofNat_dig h]; omega
    · rw [dec_big h, List.mem_append] at hc
      rcases hc with hc | hc
      · exact ih (u / 10) (by omega) c hc
      · simp only [List.mem_singleton] at hc
        subst hc
        rw [ofNat_dig (Nat.mod_lt _ (by omega))]; omega
theorem dec_lead (u : Nat) (h : 1 ≤ u) : ∀ c r, Lib.decDigits u = c :: r → c.toNat ≠ 48 := by
  induction u using Nat.strongRecOn with
  | _ u ih =>
    intro c r hc
    by_cases h10 : u < 10
    · rw [dec_small h10] at hc
      simp only [List.cons.injEq] at hc
      rw [← hc.1, ofNat_dig h10]; omega
    · rw [dec_big h10] at hc
      cases e : Lib.decDigits (u / 10) with
      | nil => exact absurd e (dec_ne _)
      | cons c' r' =>
        rw [e, List.cons_append] at hc
        simp only [List.cons.injEq] at hc
        rw [← hc.1]
        exact ih (u / 10) (by omega) (by omega) c' r' e
theorem dec_nought : Lib.decDigits 0 = [48] := by rw [dec_small (by omega)]; rfl

theorem parseM_snoc (M : Nat) : ∀ (l : List UInt8) (acc v : Nat) (c : UInt8), Lib.parseUintM M acc l = .ok v → Lib.parseUintM M acc (l ++ [c]) = Lib.parseUintM M v [c]
  | [], acc, v, c, h => by
    simp only [Lib.parseUintM] at h
    cases h
    rfl
  | d :: l, acc, v, c, h => by
    simp only [List.cons_append]
    rw [Lib.parseUintM] at h ⊢
    split
    · rename_i hd
      rw [if_pos hd] at h
      split
      · rename_i h1; rw [if_pos h1] at h; cases h
      · rename_i h1
        rw [if_neg h1] at h
        split
        · rename_i h2; rw [if_pos h2] at h; cases h
        · rename_i h2
          rw [if_neg h2] at h
          exact parseM_snoc M l _ v c h
    · rename_i hd
      rw [if_neg hd] at h
      cases h
theorem parse_dec (u : Nat) : u ≤ 18446744073709551615 → Lib.parseUintM 18446744073709551615 0 (Lib.decDigits u) = .ok u := by
  induction u using Nat.strongRecOn with
  | _ u ih =>
    intro hu
    by_cases h : u < 10
    · rw [dec_small h, Lib.parseUintM, if_pos (by rw [ofNat_dig h]; omega), if_neg (by omega), if_neg (by rw [ofNat_dig h]; omega), Lib.parseUintM, ofNat_dig h]
      congr 1; omega
    · have hd := ofNat_dig (Nat.mod_lt u (show 0 < 10 by omega))
      rw [dec_big h, parseM_snoc _ _ _ _ _ (ih (u / 10) (by omega) (by omega)), Lib.parseUintM, if_pos (by rw [hd]; omega), if_neg (by omega), if_neg (by rw [hd]; omega), Lib.parseUintM, hd]
      congr 1; omega

theorem parse_itoa (n : Int) (h0 : -9223372036854775808 ≤ n) (h1 : n ≤ 9223372036854775807) : Lib.parseIntB 64 (Lib.itoa n) = .ok n := by
  by_cases hn : n < 0
  · have e : Lib.itoa n = 45 :: Lib.decDigits n.natAbs := by unfold Lib.itoa; rw [if_pos hn]
    rw [e]
    have hp := parse_dec n.natAbs (by omega)
    simp only [Lib.parseIntB, Lib.parseUintB]
    simp [dec_ne, hp]
    rw [if_neg (by omega)]
    congr 1; omega
  · have e : Lib.itoa n = Lib.decDigits n.toNat := by unfold Lib.itoa; rw [if_neg hn]
    rw [e]
    have hp := parse_dec n.toNat (by omega)
    cases hd : Lib.decDigits n.toNat with
    | nil => exact absurd hd (dec_ne _)
    | cons c r =>
      have hc := dec_all n.toNat c (by rw [hd]; simp)
      rw [hd] at hp
      have q : ¬ (c.toNat = 43 ∨ c.toNat = 45) := by omega
      simp only [Lib.parseIntB, Lib.parseUintB, if_neg q]
      simp [hp]
      rw [if_neg (by omega), if_neg (by omega), if_neg (by omega)]
      congr 1; omega

theorem byteAt_drop {s : ByteArray} {a : Nat} {l : List UInt8} (h : s.data.toList.drop a = l) (k : Nat) {c : UInt8} (hc : l[k]? = some c) : byteAt s (a + k) = (c.toNat : Int) := by
  have : s.data.toList[a + k]? = some c := by rw [← List.getElem?_drop, h]; exact hc
  simp only [byteAt, this]

theorem number_itoa (hI : ParsesAll) {w : World} {vb a : Nat} {s : ByteArray} {ov : Value} {n : Int} (h0 : -9223372036854775808 ≤ n) (h1 : n ≤ 9223372036854775807) (h : VBlk w vb s a ov) (hm : s.size ≤ 100000) {c : UInt8} {rest : List UInt8} (hs : s.data.toList.drop a = Lib.itoa n ++ c :: rest) (hc : ¬ digI (c.toNat : Int)) :
    Calls Tryz.prog 94 #[.pointer (some ⟨vb, 0, none⟩)] w fun e w' => e = .returned (.tuple #[numV n, .bool true]) ∧ VBlk w' vb s (a + (Lib.itoa n).length) ov ∧ Fr (· = vb) w w' := by
  have hlen : (s.data.toList.drop a).length = (Lib.itoa n).length + (rest.length + 1) := by rw [hs]; simp
  rw [List.length_drop, size_list] at hlen
  have hpz := parse_itoa n h0 h1
  have hend : byteAt s (a + (Lib.itoa n).length) = (c.toNat : Int) := byteAt_drop hs _ (by rw [List.getElem?_append_right (Nat.le_refl _)]; simp)
  have hext : (s.extract a (a + (Lib.itoa n).length)).data.toList = Lib.itoa n := by
    rw [extract_list, hs, Nat.add_sub_cancel_left, List.take_left']
    rfl
  rw [← hext] at hpz
  have hdg : ∀ k d, (Lib.itoa n)[k]? = some d → byteAt s (a + k) = (d.toNat : Int) := fun k d hd => byteAt_drop hs k (by
    rw [List.getElem?_append_left ((List.getElem?_eq_some_iff.1 hd).1)]; exact hd)
  by_cases hn : n < 0
  · have e : Lib.itoa n = 45 :: Lib.decDigits n.natAbs := by unfold Lib.itoa; rw [if_pos hn]
    have hl : (Lib.itoa n).length = (Lib.decDigits n.natAbs).length + 1 := by rw [e]; simp
    cases hd : Lib.decDigits n.natAbs with
    | nil => exact absurd hd (dec_ne _)
    | cons d r =>
      rw [hd] at e hl
      simp only [List.length_cons] at hl
      have hall : ∀ i, a < i → i < a + (Lib.itoa n).length → digI (byteAt s i) := by
        intro i hi1 hi2
        obtain ⟨k, rfl⟩ : ∃ k, i = a + (k + 1) := ⟨i - a - 1, by omega⟩
        have hk : k < (Lib.decDigits n.natAbs).length := by rw [hd]; simp; omega
        rw [hdg (k + 1) (Lib.decDigits n.natAbs)[k] (by rw [e, ← hd]; simp [hk])]
        have := dec_all n.natAbs _ (List.getElem_mem hk)
        exact ⟨by omega, by omega⟩
      refine number_neg hI h hm (by omega) (by omega) ?_ (hall _ (by omega) (by omega)) (fun i hi => hall i (by omega)) ?_ (by rw [hend]; exact hc) hpz
      · have := hdg 0 45 (by rw [e]; rfl)
        simpa using this
      · intro h48
        have h2 := hdg 1 d (by rw [e]; rfl)
        rw [h2] at h48
        exact absurd (by omega) (dec_lead n.natAbs (by omega) d r hd)
  · have e : Lib.itoa n = Lib.decDigits n.toNat := by unfold Lib.itoa; rw [if_neg hn]
    cases hd : Lib.decDigits n.toNat with
    | nil => exact absurd hd (dec_ne _)
    | cons d r =>
      have hl : (Lib.itoa n).length = r.length + 1 := by rw [e, hd]; simp
      have hall : ∀ i, a ≤ i → i < a + (Lib.itoa n).length → digI (byteAt s i) := by
        intro i hi1 hi2
        obtain ⟨k, rfl⟩ : ∃ k, i = a + k := ⟨i - a, by omega⟩
        have hk : k < (Lib.decDigits n.toNat).length := by rw [hd]; simp; omega
        rw [hdg k (Lib.decDigits n.toNat)[k] (by rw [e]; simp [hk])]
        have := dec_all n.toNat _ (List.getElem_mem hk)
        exact ⟨by omega, by omega⟩
      refine number_pos hI h hm (by omega) (by omega) (hall _ (by omega) (by omega)) (fun i hi => hall i (by omega)) ?_ (by rw [hend]; exact hc) hpz
      intro h48
      have h2 := hdg 0 d (by rw [e, hd]; rfl)
      simp only [Nat.add_zero] at h2
      rw [h2] at h48
      by_cases hz : n.toNat = 0
      · rw [hz, dec_nought] at hd
        simp only [List.cons.injEq] at hd
        rw [hl, ← hd.2]; rfl
      · exact absurd (by omega) (dec_lead n.toNat (by omega) d r hd)
end Go.Proofs.Tryz

namespace Go.Proofs.Tryz
open Go.RowKit
set_option maxRecDepth 10000

/-- The block of a holder that is open: an array with these items. -/
def HBlk (w : World) (g : Nat) (items : Value) : Prop := ∃ cs : Array Value, w.heap[g]? = some (.cells cs 104 (0, 0)) ∧ cs[0]? = some (.int .u8 93) ∧ cs[1]? = some items ∧ cs[2]? = some (.slice none 0 0) ∧ cs[3]? = some (.string ⟨#[]⟩)
theorem HBlk.same {w w' : World} {g : Nat} {items : Value} (h : HBlk w g items) (e : w'.heap[g]? = w.heap[g]?) : HBlk w' g items := by
  obtain ⟨cs, h0, h⟩ := h; exact ⟨cs, e.trans h0, h⟩
theorem HBlk.lt {w : World} {g : Nat} {items : Value} (h : HBlk w g items) : g < w.heap.size := by obtain ⟨cs, h0, h⟩ := h; exact lt_of_block h0
theorem HBlk.facts {w : World} {g : Nat} {items : Value} (h : HBlk w g items) : w.cell? ⟨g, 0, none⟩ = some (.int .u8 93) ∧ w.cell? ⟨g, 1, none⟩ = some items ∧ w.cell? ⟨g, 2, none⟩ = some (.slice none 0 0) ∧ w.frozen? ⟨g, 1, none⟩ = false ∧ g < w.heap.size := by
  obtain ⟨cs, h0, s0, s1, s2, s3⟩ := h
  exact ⟨cells_cell h0 s0, cells_cell h0 s1, cells_cell h0 s2, cells_free h0, lt_of_block h0⟩
theorem HBlk.set {w : World} {g : Nat} {items : Value} (h : HBlk w g items) (u : Value) : HBlk (w.setCell ⟨g, 1, none⟩ u) g u := by
  obtain ⟨cs, h0, s0, s1, s2, s3⟩ := h
  have h1 : 1 < cs.size := (Array.getElem?_eq_some_iff.1 s1).1
  refine ⟨_, cells_set h0, ?_, ?_, ?_, ?_⟩
  · simpa [Array.getElem?_setIfInBounds] using s0
  · simp [h1]
  · simpa [Array.getElem?_setIfInBounds] using s2
  · simpa [Array.getElem?_setIfInBounds] using s3

theorem own_holder {w : World} {N n g : Nat} {v items : Value} {xs : List Value} (ow : w.ownsRow N 37 1 v n xs) (h : HBlk w g items) : some g ≠ v.ownBlock := by
  obtain ⟨cs, h0, _⟩ := h
  intro e
  rcases ow.2 with ⟨rfl, _⟩ | ⟨g', cap', cur, rfl, _, hg, _⟩
  · simp [Value.ownBlock] at e
  · simp [Value.ownBlock] at e
    subst e
    rw [h0] at hg
    simp at hg

set_option maxHeartbeats 4000000 in
theorem add_ok {w : World} {N g k T : Nat} {u items : Value} {xs : List Value} (hN : N ≤ w.heap.size) (h : HBlk w g items) (ow : w.ownsRow N 37 1 items k xs) (hk : k ≤ 100) :
    Calls Tryz.prog 39 #[.pointer (some ⟨g, 0, none⟩), .iface T u] w fun e w' => e = .returned (.tuple #[]) ∧ (∃ items', HBlk w' g items' ∧ w'.ownsRow N 37 1 items' (k + 1) (xs ++ [.iface T u]) ∧ (items'.ownBlock = items.ownBlock ∨ ∃ j, items'.ownBlock = some j ∧ w.heap.size ≤ j)) ∧ Fr (fun j => j = g ∨ some j = items.ownBlock) w w' := by
  obtain ⟨i0, hi0, hz0, hz1, hz2⟩ := info_parts (show (Tryz.prog.info? 37).map (fun i => (i.zero, i.size, i.bytes)) = some (some .nilIface, 1, 16) by kernel_rfl)
  obtain ⟨va, vl, vc, rfl⟩ : ∃ a l c, items = .slice a l c := by
    rcases ow.2 with ⟨rfl, _⟩ | ⟨g, cap, cur, rfl, _⟩
    · exact ⟨_, _, _, rfl⟩
    · exact ⟨_, _, _, rfl⟩
  obtain ⟨c0, c1, c2, c3, c4⟩ := h.facts
  have hne := own_holder ow h
  go_enter Tryz.func39, Tryz.ntmps39
  go_wp2_with (refine wpList_append_lies _ (by rfl) _ _ _ (by rfl) N 37 i0 _ 1 16 Tryz.underlying101 hi0 hz0 hz1 hz2 rfl (by omega) _ k xs (by rfl) (ow.alloc _) ⟨w.heap.size, 0, none⟩ 1 1 [.iface T u] (by rfl) (by rfl) (World.news_of_block (cs := #[.iface T u]) (t := 37) (fr := (0, 0)) (heap_new w _)) (by simp [Value.oneCell']) (by omega) (by unfold maxLen; omega) (by omega) (by simp; omega) (w.heap.size + 1) (by simp) ?_; intro g2 cap2 w2 ow2 hgr hat hlt2; have h2 : HBlk w2 g (.slice va vl vc) := h.same ((hgr.block _ (by simp; omega) hne).trans ((below_alloc w _).block _ c4)); obtain ⟨d0, d1, d2, d3, d4⟩ := h2.facts)
  go_end0
  have ngg : g2 ≠ g := by
    rcases hat with e | e
    · intro e2; subst e2; exact hne e.symm
    · omega
  refine ⟨rfl, ⟨_, h2.set _, owns_same ow2 (fun q hq => Below.heap_setCell _ _ _ _ (by simp [Value.ownBlock] at hq; simp; omega)), ?_⟩, ?_⟩
  · rcases hat with e | e
    · exact .inl e.symm
    · exact .inr ⟨g2, rfl, by omega⟩
  · exact ((((Fr.refl (fun j => j = g ∨ some j = (Value.slice va vl vc).ownBlock) w).alloc _).trans (E := fun j => some j = (Value.slice va vl vc).ownBlock) (Fr.of_grownBy hgr (fun k e => e)) (fun _ _ e => .inr e))).setCell _ (.inl (.inl rfl))

set_option maxHeartbeats 2000000 in
theorem hvalue_ok {w : World} {g : Nat} {va : Option Addr} {vl vc : Nat} (h : HBlk w g (.slice va vl vc)) :
    Calls Tryz.prog 95 #[.pointer (some ⟨g, 0, none⟩)] w fun e w' => e = .returned (.iface 101 (.slice va vl vc)) ∧ ∃ n, w' = w.drewN n := by
  obtain ⟨c0, c1, c2, c3, c4⟩ := h.facts
  go_enter Tryz.func95, Tryz.ntmps95
  go_wp2_with fail
  go_ret
  exact ⟨rfl, 0, rfl⟩

set_option maxHeartbeats 2000000 in
theorem close_ok {w : World} {vb g a c : Nat} {s : ByteArray} {va : Option Addr} {vl vc : Nat} (hv : VBlk w vb s a (.slice (some ⟨g, 0, none⟩) 1 c)) (h : HBlk w g (.slice va vl vc)) (hgv : g ≠ vb) (ha : a ≤ 100000) (hc : 1 ≤ c) :
    Calls Tryz.prog 42 #[.pointer (some ⟨vb, 0, none⟩)] w fun e w' => e = .returned (.iface 101 (.slice va vl vc)) ∧ VBlk w' vb s (a + 1) (.slice (some ⟨g, 0, none⟩) 0 c) ∧ Fr (· = vb) w w' := by
  obtain ⟨c0, c1, c2, c3, c4⟩ := h.facts
  obtain ⟨v0, v1, v2, g0, g1, g2, vl⟩ := three_facts' hv
  go_enter Tryz.func42, Tryz.ntmps42
  have hX : HBlk (w.setCell ⟨vb, 1, none⟩ (.int .i64 ((a : Int) + 1))) g (.slice va _ vc) := h.same (Below.heap_setCell _ _ _ _ (by simpa using hgv))
  go_wp2_with (go_at_call 95; refine (hvalue_ok hX).mono ?_; rintro e w1 ⟨rfl, n, rfl⟩)
  go_ret
  refine ⟨rfl, ?_, (((Fr.refl (· = vb) w).setCell _ (.inl rfl)).drewN _).setCell _ (.inl rfl)⟩
  exact cells_set (w := (w.setCell ⟨vb, 1, none⟩ (.int .i64 ((a : Int) + 1))).drewN n) (cells_set hv)

theorem VBlk.open {w : World} {vb a : Nat} {s : ByteArray} {ov : Value} (h : VBlk w vb s a ov) (u : Value) : VBlk (w.setCell ⟨vb, 2, none⟩ u) vb s a u := cells_set h

set_option maxHeartbeats 4000000 in
theorem beginHolder_ok {w : World} {vb a : Nat} {s : ByteArray} (hv : VBlk w vb s a (.slice none 0 0)) (hm : s.size ≤ 100000) (ha : a < s.size) (hnb : noBlank (byteAt s (a + 1))) (hn93 : ¬ byteAt s (a + 1) = 93) :
    Calls Tryz.prog 92 #[.pointer (some ⟨vb, 0, none⟩), .int .u8 93] w fun e w' => e = .returned (.tuple #[.nilIface, .bool true]) ∧ (∃ g cap, w.heap.size ≤ g ∧ 1 ≤ cap ∧ VBlk w' vb s (a + 1) (.slice (some ⟨g, 0, none⟩) 1 cap) ∧ HBlk w' g (.slice none 0 0)) ∧ Fr (· = vb) w w' := by
  obtain ⟨j0, hj0, hy0, hy1, hy2⟩ := info_parts (show (Tryz.prog.info? 104).map (fun i => (i.zero, i.size, i.bytes)) = some (some (.agg #[.int .u8 0, .slice none 0 0, .slice none 0 0, .string ⟨#[]⟩]), 4, 72) by kernel_rfl)
  obtain ⟨v0, v1, v2, g0, g1, g2, vl⟩ := three_facts' hv
  go_enter Tryz.func92, Tryz.ntmps92
  have b93 : (byteAt s (a + 1) == 93) = false := by simpa using hn93
  go_wp2_with (first
    | (refine wpList_append_lies _ (by rfl) _ _ _ (by rfl) w.heap.size 104 j0 _ 4 72 Tryz.underlying56 hj0 hy0 hy1 hy2 rfl (by omega) _ 0 [] (by rfl) (World.ownsRow_nil _ _ _ _) ⟨w.heap.size, 0, none⟩ 1 1 [.int .u8 93, .slice none 0 0, .slice none 0 0, .string ⟨#[]⟩] (by rfl) (by rfl) (World.news_of_block (cs := #[.int .u8 93, .slice none 0 0, .slice none 0 0, .string ⟨#[]⟩]) (t := 104) (fr := (0, 0)) (heap_new w _)) (by simp [Value.oneCell']) (by omega) (by unfold maxLen; omega) (by omega) (by simp) (w.heap.size + 1) (by simp) ?_; intro gb cap w1 hown hgr hat hlt; have hv1 : VBlk w1 vb s a (.slice none 0 0) := hv.same ((hgr.block vb (by simp; omega) (by simp [Value.ownBlock])).trans ((below_alloc w _).block vb vl)); obtain ⟨x0, x1, x2, y0, y1, y2, xl⟩ := three_facts' hv1)
    | (go_at_call 38; refine (skip_none (a := a + 1) (VBlk.at ((hv1.open _).set (b := a + 1)) (by omega) hm) hnb).mono ?_; rintro e w2 ⟨rfl, n1, rfl⟩)
    | (go_at_call 40; refine (next_ok (a := a + 1) (VAt.drewN (VBlk.at ((hv1.open _).set (b := a + 1)) (by omega) hm) _)).mono ?_; rintro e w3 ⟨rfl, n2, rfl⟩))
  obtain rfl : gb = w.heap.size + 1 := by
    rcases hat with e | e
    · simp [Value.ownBlock] at e
    · exact e
  obtain ⟨_, hh | ⟨g', c', cur, hvv, hg, hbk, hn2, hcap, hsz, htk⟩⟩ := hown
  · cases hh.1
  cases hvv
  have ht4 : ∀ (i : Nat) (v : Value), ([.int .u8 93, .slice none 0 0, .slice none 0 0, .string ⟨#[]⟩] : List Value)[i]? = some v → cur[i]? = some v := by
    intro i v hi
    have hi4 : i < 4 := by have := (List.getElem?_eq_some_iff.1 hi).1; simpa using this
    have h2 : cur.toList[i]? = some v := by
      rw [← List.getElem?_take_of_lt (show i < (0 + 1) * 4 by omega), htk]
      simpa using hi
    simpa using h2
  have fr1 : Fr (· = vb) w w1 := ((Fr.refl (· = vb) w).alloc _).trans (E := fun _ => False) (Fr.of_grownBy hgr (fun k e => by simp [Value.ownBlock] at e)) (fun _ _ e => e.elim)
  refine bodyPost_ret (v := .tuple #[.nilIface, .bool true]) (by simp [results, Tryz.results92, go_sem]) rfl ⟨rfl, ⟨w.heap.size + 1, cap, by omega, by omega, ((hv1.open _).set (b := a + 1)).drewN _, ⟨cur, ?_, ht4 0 _ rfl, ht4 1 _ rfl, ht4 2 _ rfl, ht4 3 _ rfl⟩⟩, ((fr1.setCell _ (.inl rfl)).setCell _ (.inl rfl)).drewN _⟩
  show ((w1.setCell ⟨vb, 2, none⟩ _).setCell ⟨vb, 1, none⟩ _).heap[w.heap.size + 1]? = _
  rw [Below.heap_setCell _ _ _ _ (by simp; omega), Below.heap_setCell _ _ _ _ (by simp; omega)]
  exact hbk
end Go.Proofs.Tryz

namespace Go.Proofs.Tryz
open Go.RowKit
set_option maxRecDepth 10000

theorem HBlk.drewN {w : World} {g : Nat} {items : Value} (h : HBlk w g items) (n : Nat) : HBlk (w.drewN n) g items := h

set_option maxHeartbeats 4000000 in
theorem begin_open {w : World} {vb a : Nat} {s : ByteArray} (hv : VBlk w vb s a (.slice none 0 0)) (hm : s.size ≤ 100000) (ha : a < s.size) (h91 : byteAt s a = 91) (hnb : noBlank (byteAt s (a + 1))) (hn93 : ¬ byteAt s (a + 1) = 93) :
    Calls Tryz.prog 37 #[.pointer (some ⟨vb, 0, none⟩)] w fun e w' => e = .returned (.tuple #[.nilIface, .bool true]) ∧ (∃ g cap, w.heap.size ≤ g ∧ 1 ≤ cap ∧ VBlk w' vb s (a + 1) (.slice (some ⟨g, 0, none⟩) 1 cap) ∧ HBlk w' g (.slice none 0 0)) ∧ Fr (· = vb) w w' := by
  have hA := hv.at (by omega) hm
  have hnb0 : noBlank (byteAt s a) := by rw [h91]; refine ⟨?_, ?_, ?_, ?_⟩ <;> omega
  go_enter Tryz.func37, Tryz.ntmps37
  go_wp2_with (first
    | (go_at_call 38; refine (skip_none hA hnb0).mono ?_; rintro e w2 ⟨rfl, n1, rfl⟩)
    | (go_at_call 40; refine (next_ok (hA.drewN _)).mono ?_; rintro e w3 ⟨rfl, n2, rfl⟩; rw [h91])
    | (go_at_call 92; refine (beginHolder_ok (hv.drewN _) hm ha hnb hn93).mono ?_; rintro e w4 ⟨rfl, ⟨g, cap, q1, q2, q3, q4⟩, fr⟩))
  exact bodyPost_ret (v := .tuple #[.nilIface, .bool true]) (by simp [results, Tryz.results37, go_sem]) rfl ⟨rfl, ⟨g, cap, by simpa using q1, q2, q3, q4⟩, ((Fr.refl (· = vb) w).drewN _).trans fr (fun _ _ e => e)⟩

set_option maxHeartbeats 4000000 in
theorem begin_number (hI : ParsesAll) {w : World} {vb a : Nat} {s : ByteArray} {ov : Value} {n : Int} (h0 : -9223372036854775808 ≤ n) (h1 : n ≤ 9223372036854775807) (h : VBlk w vb s a ov) (hm : s.size ≤ 100000) {c : UInt8} {rest : List UInt8} (hs : s.data.toList.drop a = Lib.itoa n ++ c :: rest) (hc : ¬ digI (c.toNat : Int)) (hfirst : byteAt s a = 45 ∨ digI (byteAt s a)) (ha : a ≤ s.size) :
    Calls Tryz.prog 37 #[.pointer (some ⟨vb, 0, none⟩)] w fun e w' => e = .returned (.tuple #[numV n, .bool true]) ∧ VBlk w' vb s (a + (Lib.itoa n).length) ov ∧ Fr (· = vb) w w' := by
  have hA := h.at ha hm
  obtain ⟨b, hb⟩ : ∃ b, byteAt s a = b := ⟨_, rfl⟩
  rw [hb] at hfirst
  have hnb0 : noBlank (byteAt s a) := by rw [hb]; rcases hfirst with rfl | ⟨q1, q2⟩ <;> (refine ⟨?_, ?_, ?_, ?_⟩ <;> omega)
  have k1 : (b == 110) = false := by rcases hfirst with rfl | ⟨q1, q2⟩ <;> simp <;> omega
  have k2 : (b == 102) = false := by rcases hfirst with rfl | ⟨q1, q2⟩ <;> simp <;> omega
  have k3 : (b == 116) = false := by rcases hfirst with rfl | ⟨q1, q2⟩ <;> simp <;> omega
  have k4 : (b == 34) = false := by rcases hfirst with rfl | ⟨q1, q2⟩ <;> simp <;> omega
  have k5 : (b == 91) = false := by rcases hfirst with rfl | ⟨q1, q2⟩ <;> simp <;> omega
  have k6 : (b == 123) = false := by rcases hfirst with rfl | ⟨q1, q2⟩ <;> simp <;> omega
  have HB : Hid _ := hb
  clear hb
  by_cases h45 : b = 45
  · have k7 : (b == 45) = true := by simpa using h45
    clear h45 hfirst
    go_enter Tryz.func37, Tryz.ntmps37
    go_wp2_with (first
      | (go_at_call 38; refine (skip_none hA hnb0).mono ?_; rintro e w2 ⟨rfl, n1, rfl⟩)
      | (go_at_call 40; refine (next_ok (hA.drewN _)).mono ?_; rintro e w3 ⟨rfl, n2, rfl⟩; rw [HB.out])
      | (go_at_call 94; refine (number_itoa hI h0 h1 (h.drewN _) hm hs hc).mono ?_; rintro e w4 ⟨rfl, q3, fr⟩))
    exact bodyPost_ret (v := .tuple #[numV n, .bool true]) (by simp [results, Tryz.results37, go_sem]) rfl ⟨rfl, q3, ((Fr.refl (· = vb) w).drewN _).trans fr (fun _ _ e => e)⟩
  · have k7 : (b == 45) = false := by simpa using h45
    have k8 : (decide (48 ≤ b) && decide (b ≤ 57)) = true := by
      rcases hfirst with e | ⟨q1, q2⟩
      · exact absurd e h45
      · simp [q1, q2]
    clear h45 hfirst
    go_enter Tryz.func37, Tryz.ntmps37
    go_wp2_with (first
      | (go_at_call 38; refine (skip_none hA hnb0).mono ?_; rintro e w2 ⟨rfl, n1, rfl⟩)
      | (go_at_call 40; refine (next_ok (hA.drewN _)).mono ?_; rintro e w3 ⟨rfl, n2, rfl⟩; rw [HB.out])
      | (go_at_call 93; refine (vIsDigit_any _ _).mono ?_; rintro e w3 ⟨rfl, hw⟩; subst hw; rw [k8])
      | (go_at_call 94; refine (number_itoa hI h0 h1 (h.drewN _) hm hs hc).mono ?_; rintro e w4 ⟨rfl, q3, fr⟩))
    exact bodyPost_ret (v := .tuple #[numV n, .bool true]) (by simp [results, Tryz.results37, go_sem]) rfl ⟨rfl, q3, ((Fr.refl (· = vb) w).drewN _).trans fr (fun _ _ e => e)⟩

theorem itoa_first (n : Int) : ∃ c r, Lib.itoa n = c :: r ∧ (c.toNat = 45 ∨ (48 ≤ c.toNat ∧ c.toNat ≤ 57)) := by
  by_cases hn : n < 0
  · exact ⟨45, Lib.decDigits n.natAbs, by unfold Lib.itoa; rw [if_pos hn], .inl rfl⟩
  · have e : Lib.itoa n = Lib.decDigits n.toNat := by unfold Lib.itoa; rw [if_neg hn]
    cases hd : Lib.decDigits n.toNat with
    | nil => exact absurd hd (dec_ne _)
    | cons c r => exact ⟨c, r, by rw [e, hd], .inr (dec_all n.toNat c (by rw [hd]; simp))⟩
theorem first_at {s : ByteArray} {a : Nat} {n : Int} {r : List UInt8} (h : s.data.toList.drop a = Lib.itoa n ++ r) : byteAt s a = 45 ∨ digI (byteAt s a) := by
  obtain ⟨c, l, e, hc⟩ := itoa_first n
  have := byteAt_drop h 0 (c := c) (by rw [e]; rfl)
  simp only [Nat.add_zero] at this
  rw [this]
  rcases hc with hc | hc
  · exact .inl (by omega)
  · exact .inr ⟨by omega, by omega⟩

/-- The text of an array of two numbers. -/
def pairB (a b : Int) : List UInt8 := 91 :: (Lib.itoa a ++ 44 :: (Lib.itoa b ++ [93]))

theorem two_of_owns {w : World} {N : Nat} {x y : Value} {ia : Option Addr} {il ic : Nat} (h : w.ownsRow N 37 1 (.slice ia il ic) (1 + 1) ([] ++ [x] ++ [y])) : ∃ g c, ia = some ⟨g, 0, none⟩ ∧ il = 2 ∧ ic = c ∧ N ≤ g ∧ g < w.heap.size ∧ w.cell? ⟨g, 0, none⟩ = some x ∧ w.cell? ⟨g, 1, none⟩ = some y := by
  rcases h.2 with ⟨_, h0⟩ | ⟨g, cap, cur, e, hg, hb, hn, hm, hs, ht⟩
  · omega
  · cases e
    have e0 : cur.toList[0]? = some x := by rw [← List.getElem?_take_of_lt (show 0 < (1 + 1) * 1 by omega), ht]; rfl
    have e1 : cur.toList[1]? = some y := by rw [← List.getElem?_take_of_lt (show 1 < (1 + 1) * 1 by omega), ht]; rfl
    exact ⟨g, _, rfl, rfl, rfl, hg, lt_of_block hb, cells_cell hb (by simpa using e0), cells_cell hb (by simpa using e1)⟩

set_option maxHeartbeats 8000000 in
theorem whole_pair (hI : ParsesAll) {w : World} {vb : Nat} {s : ByteArray} {a b : Int} (a0 : -9223372036854775808 ≤ a) (a1 : a ≤ 9223372036854775807) (b0 : -9223372036854775808 ≤ b) (b1 : b ≤ 9223372036854775807) (hs : s.data.toList = pairB a b) (hm : s.size ≤ 100000) (hv : VBlk w vb s 0 (.slice none 0 0)) :
    Calls Tryz.prog 18 #[.pointer (some ⟨vb, 0, none⟩)] w fun e w' => Fr (· = vb) w w' ∧ ∃ g c, e = .returned (.tuple #[arrV g 2 c, .bool true]) ∧ w.heap.size ≤ g ∧ w'.cell? ⟨g, 0, none⟩ = some (numV a) ∧ w'.cell? ⟨g, 1, none⟩ = some (numV b) := by
  have d1 : s.data.toList.drop 1 = Lib.itoa a ++ 44 :: (Lib.itoa b ++ [93]) := by rw [hs]; rfl
  have d2 : s.data.toList.drop (1 + (Lib.itoa a).length + 1) = Lib.itoa b ++ 93 :: [] := by
    rw [Nat.add_assoc, ← List.drop_drop, d1, ← List.drop_drop, List.drop_left]; rfl
  have z0 : byteAt s 0 = 91 := by simpa using byteAt_drop (s := s) (a := 0) (l := pairB a b) (by simpa using hs) 0 (c := 91) rfl
  have z1 : byteAt s (1 + (Lib.itoa a).length) = 44 := by
    have := byteAt_drop d1 (Lib.itoa a).length (c := 44) (by rw [List.getElem?_append_right (Nat.le_refl _)]; simp)
    simpa using this
  have z2 : byteAt s (1 + (Lib.itoa a).length + 1 + (Lib.itoa b).length) = 93 := by
    have := byteAt_drop d2 (Lib.itoa b).length (c := 93) (by rw [List.getElem?_append_right (Nat.le_refl _)]; simp)
    simpa using this
  have hsz : s.size = 1 + (Lib.itoa a).length + 1 + (Lib.itoa b).length + 1 := by
    rw [← size_list, hs]; simp [pairB]; omega
  have fa := first_at d1
  have fb := first_at d2
  have hvl := lt_of_block hv
  have hA0 := hv.at (Nat.zero_le _) hm
  obtain ⟨P1, hP1⟩ : ∃ P1, 1 + (Lib.itoa a).length = P1 := ⟨_, rfl⟩
  obtain ⟨P2, hP2⟩ : ∃ P2, P1 + 1 + (Lib.itoa b).length = P2 := ⟨_, rfl⟩
  rw [hP1] at z1 z2 d2 hsz fb
  rw [hP2] at z2 hsz
  have H1 : Hid _ := hP1
  have H2 : Hid _ := hP2
  have zE : byteAt s (P2 + 1) = 0 := by simp only [byteAt, List.getElem?_eq_none (show s.data.toList.length ≤ P2 + 1 by rw [size_list]; omega)]
  have nbE : noBlank (byteAt s (P2 + 1)) := by rw [zE]; refine ⟨?_, ?_, ?_, ?_⟩ <;> omega
  have nb1 : noBlank (byteAt s P1) := by rw [z1]; refine ⟨?_, ?_, ?_, ?_⟩ <;> omega
  have nb2 : noBlank (byteAt s P2) := by rw [z2]; refine ⟨?_, ?_, ?_, ?_⟩ <;> omega
  have nb0 : noBlank (byteAt s (0 + 1)) := by
    rw [Nat.zero_add]
    rcases fa with e | ⟨e1, e2⟩
    · rw [e]; refine ⟨?_, ?_, ?_, ?_⟩ <;> omega
    · refine ⟨?_, ?_, ?_, ?_⟩ <;> omega
  have n93 : ¬ byteAt s (0 + 1) = 93 := by
    rw [Nat.zero_add]
    rcases fa with e | ⟨e1, e2⟩ <;> omega
  have hlt0 : 0 < s.size := by omega
  have hp1s : P1 ≤ s.size := by omega
  have hp2s : P2 ≤ s.size := by omega
  have hszE : P2 + 1 = s.size := hsz.symm
  have HS : Hid (s.size = P2 + 1) := hsz
  clear hP1 hP2 hsz hszE
  go_enter Tryz.func18, Tryz.ntmps18
  go_wp2_with fail
  go_step3
  go_wp2_with fail
  go_step3
  go_wp2_with fail
  refine wp_loop_rounds 3 ?_
  rw [rounds_succ]
  go_wp2_with (go_at_call 37; refine (begin_open hv hm hlt0 z0 nb0 n93).mono ?_; rintro e w1 ⟨rfl, ⟨g, cap, q1, q2, q3, q4⟩, fr1⟩)
  rw [rounds_succ]
  have hgv : g ≠ vb := by omega
  go_wp2_with (go_at_call 37; refine (begin_number hI a0 a1 (a := 0 + 1) q3 hm d1 (by simp [digI]) fa (by omega)).mono ?_; rintro e w2 ⟨rfl, r1, fr2⟩; rw [Nat.zero_add, H1.out] at r1; have h2 : HBlk w2 g (.slice none 0 0) := q4.same (fr2.block g q4.lt hgv))
  obtain ⟨x0, x1, x2, y0, y1, y2, xl⟩ := three_facts' r1
  refine wp_loop_rounds 1 ?_
  rw [rounds_succ]
  go_wp2_with (go_at_call 38; refine (skip_none (r1.at hp1s hm) nb1).mono ?_; rintro e w3 ⟨rfl, n1, rfl⟩)
  go_quiet (fail)
  have hs2 : w.heap.size ≤ w2.heap.size := Nat.le_trans fr1.size fr2.size
  go_wp2_with (first
    | (go_at_call 39; refine (add_ok (N := w.heap.size) (g := g) (k := 0) (xs := []) (by simpa using hs2) (h2.drewN _) (World.ownsRow_nil _ _ _ _) (by omega)).mono ?_; rintro e w4 ⟨rfl, ⟨it1, h4, ow4, ho4⟩, fr4⟩; have r4 : VBlk w4 vb s P1 _ := VBlk.same (w := w2) r1 (fr4.block vb (by simpa using xl) (by simp [Value.ownBlock]; omega)); obtain ⟨s0, s1, s2, t0, t1, t2, sl⟩ := three_facts' r4; obtain ⟨u0, u1, u2, u3, u4⟩ := h4.facts)
    | (go_at_call 40; refine (next_ok (r4.at hp1s hm)).mono ?_; rintro e w5 ⟨rfl, n2, rfl⟩; rw [z1]))
  rw [rounds_succ]
  have hfr4 : w2.heap.size ≤ w4.heap.size := fr4.size
  have hW5 : VBlk ((w4.drewN n2).setCell ⟨vb, 1, none⟩ (.int .i64 ((P1 : Int) + 1))) vb s (P1 + 1) (.slice (some ⟨g, 0, none⟩) 1 cap) := (r4.drewN n2).set (b := P1 + 1)
  have f5 : ∀ k, k ≠ vb → ((w4.drewN n2).setCell ⟨vb, 1, none⟩ (.int .i64 ((P1 : Int) + 1))).heap[k]? = w4.heap[k]? := fun k hk => Below.heap_setCell _ _ _ _ (by simpa using hk)
  go_wp2_with (go_at_call 37; refine (begin_number hI b0 b1 (a := P1 + 1) hW5 hm d2 (by simp [digI]) fb (by have := HS.out; have := H2.out; omega)).mono ?_; rintro e w6 ⟨rfl, r6, fr6⟩; rw [H2.out] at r6; have h6 : HBlk w6 g it1 := (h4.same (f5 g hgv)).same (fr6.block g (by simpa using u4) hgv); have ow6 := owns_same ow4 (fun q hq => (fr6.block q (by simpa using (ow4.lt q hq).2) (fun e => by have := (ow4.lt q hq).1; omega)).trans (f5 q (fun e => by have := (ow4.lt q hq).1; omega))); obtain ⟨l0, l1, l2, o0, o1, o2, ll⟩ := three_facts' r6; have hs6 := fr6.size; simp at hs6)
  refine wp_loop_rounds 2 ?_
  rw [rounds_succ]
  go_wp2_with (go_at_call 38; refine (skip_none (r6.at hp2s hm) nb2).mono ?_; rintro e w7 ⟨rfl, n3, rfl⟩)
  go_quiet (fail)
  go_wp2_with (first
    | (go_at_call 39; refine (add_ok (N := w.heap.size) (g := g) (k := 1) (by simp; omega) (h6.drewN _) ow6 (by omega)).mono ?_; rintro e w8 ⟨rfl, ⟨it2, h8, ow8, ho8⟩, fr8⟩; have r8 : VBlk w8 vb s P2 _ := VBlk.same (w := w6) r6 (fr8.block vb (by simpa using ll) (fun e => e.elim (fun e => hgv e.symm) (fun e => by have := (ow6.lt _ e.symm).1; omega))); obtain ⟨s0, s1, s2, t0, t1, t2, sl⟩ := three_facts' r8; obtain ⟨u0, u1, u2, u3, u4⟩ := h8.facts; obtain ⟨ia, il, ic, rfl⟩ := owns_shape1 ow8)
    | (go_at_call 40; refine (next_ok (r8.at hp2s hm)).mono ?_; rintro e w9 ⟨rfl, n4, rfl⟩; rw [z2])
    | (go_at_call 42; refine (close_ok (r8.drewN _) (h8.drewN _) hgv (by omega) q2).mono ?_; rintro e w10 ⟨rfl, r10, fr10⟩; obtain ⟨k0, k1, k2, j0, j1, j2, kl⟩ := three_facts' r10))
  rw [rounds_succ]
  have hE : (P2 : Int) + 1 = (s.size : Int) := by have := HS.out; omega
  go_wp2_with (go_at_call 38; refine (skip_none (r10.at (by have := HS.out; omega) hm) nbE).mono ?_; rintro e w11 ⟨rfl, n5, rfl⟩)
  go_quiet (fail)
  go_wp2_with fail
  rw [Exit.noGoto_ret]
  have t2 : Fr (· = vb) w w2 := fr1.trans fr2 (fun _ _ e => e)
  have t4 : Fr (· = vb) w w4 := (t2.drewN _).trans fr4 (fun i hi e => by
    rcases e with e | e
    · omega
    · simp [Value.ownBlock] at e)
  have t6 : Fr (· = vb) w w6 := ((t4.drewN n2).setCell _ (.inl rfl)).trans fr6 (fun _ _ e => e)
  have t8 : Fr (· = vb) w w8 := (t6.drewN _).trans fr8 (fun i hi e => by
    rcases e with e | e
    · omega
    · have := (ow6.lt _ e.symm).1; omega)
  have t10 : Fr (· = vb) w w10 := (t8.drewN n4).trans fr10 (fun _ _ e => e)
  obtain ⟨g8, _, rfl, rfl, _, hg8, hg8l, cA, cB⟩ := two_of_owns ow8
  have e10 : w10.heap[g8]? = w8.heap[g8]? := fr10.block g8 (by simpa using hg8l) (by omega)
  exact bodyPost_ret (v := .tuple #[arrV g8 2 ic, .bool true]) (by simp [results, Tryz.results18, go_sem]) rfl ⟨(t10.drewN n5).drewN nq, g8, ic, rfl, hg8, (World.cell?_of_block (w := w8) e10).trans cA, (World.cell?_of_block (w := w8) e10).trans cB⟩

set_option maxHeartbeats 2000000 in
theorem Read_pair (hI : ParsesAll) {w : World} {s : ByteArray} {a b : Int} (a0 : -9223372036854775808 ≤ a) (a1 : a ≤ 9223372036854775807) (b0 : -9223372036854775808 ≤ b) (b1 : b ≤ 9223372036854775807) (hs : s.data.toList = pairB a b) (hm : s.size ≤ 100000) :
    Calls Tryz.prog 11 #[.string s] w fun e w' => Below w.heap.size w w' ∧ ∃ g c, e = .returned (.tuple #[arrV g 2 c, .int .i64 0, .bool true]) ∧ w.heap.size ≤ g ∧ w'.cell? ⟨g, 0, none⟩ = some (numV a) ∧ w'.cell? ⟨g, 1, none⟩ = some (numV b) := by
  have hw := whole_pair hI (w := w.alloc (.cells #[.string s, .int .i64 0, .slice none 0 0] 58)) (vb := w.heap.size) a0 a1 b0 b1 hs hm (heap_new w _)
  go_enter Tryz.func11, Tryz.ntmps11
  go_wp2_with (go_at_call 18; refine hw.mono ?_; rintro e w1 ⟨fr, g, c, rfl, hg, cA, cB⟩)
  have hB : Below w.heap.size w w1 := ⟨fr.os, fr.tape, fr.output, by have := fr.size; simp at this; omega, fun k hk => (fr.block k (by simp; omega) (by omega)).trans ((below_alloc w _).block k hk)⟩
  exact bodyPost_ret (v := .tuple #[arrV g 2 c, .int .i64 0, .bool true]) (by simp [results, Tryz.results11, go_sem]) rfl ⟨hB, g, c, rfl, by simp at hg; omega, cA, cB⟩
end Go.Proofs.Tryz

