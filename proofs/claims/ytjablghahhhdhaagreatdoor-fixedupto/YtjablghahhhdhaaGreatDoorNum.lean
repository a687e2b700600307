import Derived.Test.YtjablghahhhdhaaGreatDoorVal4
import Derived.Lib.ItoaMem
set_option linter.all false
namespace Go.Proofs.Tryz
open Go.RowKit
set_option maxRecDepth 10000

set_option maxHeartbeats 4000000 in
theorem number_neg (hI : ParsesAll) {w : World} {vb a q : Nat} {s : ByteArray} {ov : Value} {n : Int} (h : VBlk w vb s a ov) (hm : s.size ≤ 100000) (hq : a + 1 < q) (hqs : q ≤ s.size) (hs45 : byteAt s a = 45) (hd0 : digI (byteAt s (a + 1))) (hdig : ∀ i, a + 1 < i → i < q → digI (byteAt s i)) (hlead : byteAt s (a + 1) = 48 → q = a + 2) (hend : ¬ digI (byteAt s q)) (hp : Lib.parseIntB 64 (s.extract a q).data.toList = .ok n) :
    Calls Tryz.prog 72 #[.pointer (some ⟨vb, 0, none⟩)] w fun e w' => e = .returned (.tuple #[numV n, .bool true]) ∧ VBlk w' vb s q ov ∧ Fr (· = vb) w w' := by
  obtain ⟨c0, c1, c2, f0, f1, f2, hl⟩ := three_facts' h
  have h0 := h.at (by omega) hm
  obtain ⟨d1, d2⟩ := hd0
  have vs : ∀ m m', VAt (((w.drewN m).setCell ⟨vb, 1, none⟩ (.int .i64 ((a : Int) + 1))).drewN m') vb s (a + 1) := fun m m' => VBlk.at (a := a + 1) (((h.drewN m).set (b := a + 1)).drewN m') (by omega) hm
  have vs0 : ∀ m, VAt ((w.drewN m).setCell ⟨vb, 1, none⟩ (.int .i64 ((a : Int) + 1))) vb s (a + 1) := fun m => VBlk.at (a := a + 1) ((h.drewN m).set (b := a + 1)) (by omega) hm
  obtain ⟨B1, hB1⟩ : ∃ B1, byteAt s (a + 1) = B1 := ⟨_, rfl⟩
  rw [hB1] at d1 d2 hlead
  have H1 : Hid _ := hB1
  clear hB1
  go_enter Tryz.func72, Tryz.ntmps72
  go_wp2_with (first
    | (go_at_call 28; refine (next_ok h0).mono ?_; rintro e w1 ⟨rfl, m, rfl⟩; rw [hs45])
    | (go_at_call 28; refine (next_ok (a := a + 1) (by first | exact vs0 _ | exact vs _ _)).mono ?_; rintro e w1 ⟨rfl, m, rfl⟩; rw [H1.out])
    | (go_at_call 71; refine (vIsDigit_any _ _).mono ?_; rintro e w1 ⟨rfl, hw⟩; subst hw))
  go_loopg [41] (q - (a + 2)) (fun k v wr => ∃ j : Nat, a + 1 < j ∧ j + k = q ∧ VBlk wr vb s j ov ∧ Fr (· = vb) w wr)
  case atStart => exact ⟨a + 2, by omega, by omega, ((h.drewN _).set (b := a + 1)).drewN _ |>.set, ((((Fr.refl (· = vb) w).drewN _).setCell _ (.inl rfl)).drewN _).setCell _ (.inl rfl)⟩
  case round =>
    obtain ⟨j, hj1, hj2, hv, hfr⟩ := hrel
    obtain ⟨v0, v1, v2, g0, g1, g2, vl⟩ := three_facts' hv
    have hvA := hv.at (by omega) hm
    by_cases hjq : j < q
    · have n48 : (B1 != 48) = true := by
        have : B1 ≠ 48 := fun e => by have := hlead e; omega
        simpa using this
      obtain ⟨e1, e2⟩ := hdig j hj1 hjq
      go_wp2_with (first
        | (go_at_call 28; refine (next_ok hvA).mono ?_; rintro e w1 ⟨rfl, m, rfl⟩)
        | (go_at_call 71; refine (vIsDigit_any _ _).mono ?_; rintro e w1 ⟨rfl, hw⟩; subst hw))
      go_roundg (gk - 1)
      case measure => omega
      case rel => exact ⟨j + 1, by omega, by omega, (hv.drewN _).set, (hfr.drewN _).setCell _ (.inl rfl)⟩
    · obtain rfl : j = q := by omega
      have q0 : (0 : Int) ≤ (a : Int) := by omega
      have q1 : (a : Int) ≤ (j : Int) := by omega
      have q2 : (j : Int) ≤ (s.size : Int) := by omega
      have hes : (s.extract a j).size ≤ 100000 := by simp [ByteArray.size_extract]; omega
      have nd : (decide (48 ≤ byteAt s j) && decide (byteAt s j ≤ 57)) = false := by
        cases hh : (decide (48 ≤ byteAt s j) && decide (byteAt s j ≤ 57)) with
        | false => rfl
        | true => simp at hh; exact absurd hh hend
      clear hlead hdig hend
      by_cases h48 : B1 = 48
      · have n48 : (B1 != 48) = false := by simpa using h48
        go_wp2_with fail
        go_region_held3 (fun w' => w'.cell? ⟨vb, 0, none⟩ = some (.string s) ∧ w'.cell? ⟨vb, 1, none⟩ = some (.int .i64 j)) (first | exact e4 | go_keep)
          (first | (go_at_call 130; refine (hI _ _ _ hes hp).mono ?_; rintro e w1 ⟨rfl, k1⟩; have e4 : w1.cell? ⟨vb, 0, none⟩ = some (.string s) ∧ w1.cell? ⟨vb, 1, none⟩ = some (.int .i64 j) := ⟨(k1.cell (p := ⟨vb, 0, none⟩) (by simpa using vl)).trans (by simpa using v0), (k1.cell (p := ⟨vb, 1, none⟩) (by simpa using vl)).trans (by simpa using v1)⟩))
        go_wp2_with fail
        exact bodyPost_ret (v := .tuple #[numV n, .bool true]) (by simp [results, Tryz.results72, go_sem]) rfl ⟨rfl, hv.same (k1.block _ (by simpa using vl)), (hfr.drewN _).trans (Fr.of_below (D := (· = vb)) k1) (fun _ _ e => e)⟩
      · have n48 : (B1 != 48) = true := by simpa using h48
        go_wp2_with (first
          | (go_at_call 28; refine (next_ok hvA).mono ?_; rintro e w1 ⟨rfl, m, rfl⟩)
          | (go_at_call 71; refine (vIsDigit_any _ _).mono ?_; rintro e w1 ⟨rfl, hw⟩; subst hw; rw [nd]))
        go_region_held3 (fun w' => w'.cell? ⟨vb, 0, none⟩ = some (.string s) ∧ w'.cell? ⟨vb, 1, none⟩ = some (.int .i64 j)) (first | exact e4 | go_keep)
          (first | (go_at_call 130; refine (hI _ _ _ hes hp).mono ?_; rintro e w1 ⟨rfl, k1⟩; have e4 : w1.cell? ⟨vb, 0, none⟩ = some (.string s) ∧ w1.cell? ⟨vb, 1, none⟩ = some (.int .i64 j) := ⟨(k1.cell (p := ⟨vb, 0, none⟩) (by simpa using vl)).trans (by simpa using v0), (k1.cell (p := ⟨vb, 1, none⟩) (by simpa using vl)).trans (by simpa using v1)⟩))
        go_wp2_with fail
        exact bodyPost_ret (v := .tuple #[numV n, .bool true]) (by simp [results, Tryz.results72, go_sem]) rfl ⟨rfl, hv.same (k1.block _ (by simpa using vl)), (hfr.drewN _).trans (Fr.of_below (D := (· = vb)) k1) (fun _ _ e => e)⟩
end Go.Proofs.Tryz

namespace Go.Proofs.Tryz
open Go.RowKit
set_option maxRecDepth 10000

theorem dec_small {u : Nat} (h : u < 10) : Lib.decDigits u = [UInt8.ofNat (48 + u)] := by rw [Lib.decDigits, dif_pos h]
theorem dec_big {u : Nat} (h : ¬ u < 10) : Lib.decDigits u = Lib.decDigits (u / 10) ++ [UInt8.ofNat (48 + u % 10)] := by rw [Lib.decDigits, dif_neg h]
theorem ofNat_dig {k : Nat} (h : k < 10) : (UInt8.ofNat (48 + k)).toNat = 48 + k := by
  simp [UInt8.toNat_ofNat']; omega
theorem dec_ne (u : Nat) : Lib.decDigits u ≠ [] := by
  by_cases h : u < 10
  · rw [dec_small h]; simp
  · rw [dec_big h]; simp
theorem dec_all (u : Nat) : ∀ c ∈ Lib.decDigits u, 48 ≤ c.toNat ∧ c.toNat ≤ 57 := by
  induction u using Nat.strongRecOn with
  | _ u ih =>
    intro c hc
    by_cases h : u < 10
    · rw [dec_small h] at hc
      simp only [List.mem_singleton] at hc
      subst hc
      rw [ofNat_dig h]; omega
    · rw [dec_big h, List.mem_append] at hc
      rcases hc with hc | hc
      · exact ih (u / 10) (by omega) c hc
      · simp only [List.mem_singleton] at hc
        subst hc
        rw [ofNat_dig (Nat.mod_lt _ (by omega))]; omega
theorem dec_lead (u : Nat) (h : 1 ≤ u) : ∀ c r, Lib.decDigits u = c :: r → c.toNat ≠ 48 := by
  induction u using Nat.strongRecOn with
  | _ u ih =>
    intro c r hc
    by_cases h10 : u < 10
    · rw [dec_small h10] at hc
      simp only [List.cons.injEq] at hc
      rw [← hc.1, ofNat_dig h10]; omega
    · rw [dec_big h10] at hc
      cases e : Lib.decDigits (u / 10) with
      | nil => exact absurd e (dec_ne _)
      | cons c' r' =>
        rw [e, List.cons_append] at hc
        simp only [List.cons.injEq] at hc
        rw [← hc.1]
        exact ih (u / 10) (by omega) (by omega) c' r' e
theorem dec_nought : Lib.decDigits 0 = [48] := by rw [dec_small (by omega)]; rfl

theorem parseM_snoc (M : Nat) : ∀ (l : List UInt8) (acc v : Nat) (c : UInt8), Lib.parseUintM M acc l = .ok v → Lib.parseUintM M acc (l ++ [c]) = Lib.parseUintM M v [c]
  | [], acc, v, c, h => by
    simp only [Lib.parseUintM] at h
    cases h
    rfl
  | d :: l, acc, v, c, h => by
    simp only [List.cons_append]
    rw [Lib.parseUintM] at h ⊢
    split
    · rename_i hd
      rw [if_pos hd] at h
      split
      · rename_i h1; rw [if_pos h1] at h; cases h
      · rename_i h1
        rw [if_neg h1] at h
        split
        · rename_i h2; rw [if_pos h2] at h; cases h
        · rename_i h2
          rw [if_neg h2] at h
          exact parseM_snoc M l _ v c h
    · rename_i hd
      rw [if_neg hd] at h
      cases h
theorem parse_dec (u : Nat) : u ≤ 18446744073709551615 → Lib.parseUintM 18446744073709551615 0 (Lib.decDigits u) = .ok u := by
  induction u using Nat.strongRecOn with
  | _ u ih =>
    intro hu
    by_cases h : u < 10
    · rw [dec_small h, Lib.parseUintM, if_pos (by rw [ofNat_dig h]; omega), if_neg (by omega), if_neg (by rw [ofNat_dig h]; omega), Lib.parseUintM, ofNat_dig h]
      congr 1; omega
    · have hd := ofNat_dig (Nat.mod_lt u (show 0 < 10 by omega))
      rw [dec_big h, parseM_snoc _ _ _ _ _ (ih (u / 10) (by omega) (by omega)), Lib.parseUintM, if_pos (by rw [hd]; omega), if_neg (by omega), if_neg (by rw [hd]; omega), Lib.parseUintM, hd]
      congr 1; omega

theorem parse_itoa (n : Int) (h0 : -9223372036854775808 ≤ n) (h1 : n ≤ 9223372036854775807) : Lib.parseIntB 64 (Lib.itoa n) = .ok n := by
  by_cases hn : n < 0
  · have e : Lib.itoa n = 45 :: Lib.decDigits n.natAbs := by unfold Lib.itoa; rw [if_pos hn]
    rw [e]
    have hp := parse_dec n.natAbs (by omega)
    simp only [Lib.parseIntB, Lib.parseUintB]
    simp [dec_ne, hp]
    rw [if_neg (by omega)]
    congr 1; omega
  · have e : Lib.itoa n = Lib.decDigits n.toNat := by unfold Lib.itoa; rw [if_neg hn]
    rw [e]
    have hp := parse_dec n.toNat (by omega)
    cases hd : Lib.decDigits n.toNat with
    | nil => exact absurd hd (dec_ne _)
    | cons c r =>
      have hc := dec_all n.toNat c (by rw [hd]; simp)
      rw [hd] at hp
      have q : ¬ (c.toNat = 43 ∨ c.toNat = 45) := by omega
      simp only [Lib.parseIntB, Lib.parseUintB, if_neg q]
      simp [hp]
      rw [if_neg (by omega), if_neg (by omega), if_neg (by omega)]
      congr 1; omega

theorem byteAt_drop {s : ByteArray} {a : Nat} {l : List UInt8} (h : s.data.toList.drop a = l) (k : Nat) {c : UInt8} (hc : l[k]? = some c) : byteAt s (a + k) = (c.toNat : Int) := by
  have : s.data.toList[a + k]? = some c := by rw [← List.getElem?_drop, h]; exact hc
  simp only [byteAt, this]

theorem number_itoa (hI : ParsesAll) {w : World} {vb a : Nat} {s : ByteArray} {ov : Value} {n : Int} (h0 : -9223372036854775808 ≤ n) (h1 : n ≤ 9223372036854775807) (h : VBlk w vb s a ov) (hm : s.size ≤ 100000) {c : UInt8} {rest : List UInt8} (hs : s.data.toList.drop a = Lib.itoa n ++ c :: rest) (hc : ¬ digI (c.toNat : Int)) :
    Calls Tryz.prog 72 #[.pointer (some ⟨vb, 0, none⟩)] w fun e w' => e = .returned (.tuple #[numV n, .bool true]) ∧ VBlk w' vb s (a + (Lib.itoa n).length) ov ∧ Fr (· = vb) w w' := by
  have hlen : (s.data.toList.drop a).length = (Lib.itoa n).length + (rest.length + 1) := by rw [hs]; simp
  rw [List.length_drop, size_list] at hlen
  have hpz := parse_itoa n h0 h1
  have hend : byteAt s (a + (Lib.itoa n).length) = (c.toNat : Int) := byteAt_drop hs _ (by rw [List.getElem?_append_right (Nat.le_refl _)]; simp)
  have hext : (s.extract a (a + (Lib.itoa n).length)).data.toList = Lib.itoa n := by
    rw [extract_list, hs, Nat.add_sub_cancel_left, List.take_left']
    rfl
  rw [← hext] at hpz
  have hdg : ∀ k d, (Lib.itoa n)[k]? = some d → byteAt s (a + k) = (d.toNat : Int) := fun k d hd => byteAt_drop hs k (by
    rw [List.getElem?_append_left ((List.getElem?_eq_some_iff.1 hd).1)]; exact hd)
  by_cases hn : n < 0
  · have e : Lib.itoa n = 45 :: Lib.decDigits n.natAbs := by unfold Lib.itoa; rw [if_pos hn]
    have hl : (Lib.itoa n).length = (Lib.decDigits n.natAbs).length + 1 := by rw [e]; simp
    cases hd : Lib.decDigits n.natAbs with
    | nil => exact absurd hd (dec_ne _)
    | cons d r =>
      rw [hd] at e hl
      simp only [List.length_cons] at hl
      have hall : ∀ i, a < i → i < a + (Lib.itoa n).length → digI (byteAt s i) := by
        intro i hi1 hi2
        obtain ⟨k, rfl⟩ : ∃ k, i = a + (k + 1) := ⟨i - a - 1, by omega⟩
        have hk : k < (Lib.decDigits n.natAbs).length := by rw [hd]; simp; omega
        rw [hdg (k + 1) (Lib.decDigits n.natAbs)[k] (by rw [e, ← hd]; simp [hk])]
        have := dec_all n.natAbs _ (List.getElem_mem hk)
        exact ⟨by omega, by omega⟩
      refine number_neg hI h hm (by omega) (by omega) ?_ (hall _ (by omega) (by omega)) (fun i hi => hall i (by omega)) ?_ (by rw [hend]; exact hc) hpz
      · have := hdg 0 45 (by rw [e]; rfl)
        simpa using this
      · intro h48
        have h2 := hdg 1 d (by rw [e]; rfl)
        rw [h2] at h48
        exact absurd (by omega) (dec_lead n.natAbs (by omega) d r hd)
  · have e : Lib.itoa n = Lib.decDigits n.toNat := by unfold Lib.itoa; rw [if_neg hn]
    cases hd : Lib.decDigits n.toNat with
    | nil => exact absurd hd (dec_ne _)
    | cons d r =>
      have hl : (Lib.itoa n).length = r.length + 1 := by rw [e, hd]; simp
      have hall : ∀ i, a ≤ i → i < a + (Lib.itoa n).length → digI (byteAt s i) := by
        intro i hi1 hi2
        obtain ⟨k, rfl⟩ : ∃ k, i = a + k := ⟨i - a, by omega⟩
        have hk : k < (Lib.decDigits n.toNat).length := by rw [hd]; simp; omega
        rw [hdg k (Lib.decDigits n.toNat)[k] (by rw [e]; simp [hk])]
        have := dec_all n.toNat _ (List.getElem_mem hk)
        exact ⟨by omega, by omega⟩
      refine number_pos hI h hm (by omega) (by omega) (hall _ (by omega) (by omega)) (fun i hi => hall i (by omega)) ?_ (by rw [hend]; exact hc) hpz
      intro h48
      have h2 := hdg 0 d (by rw [e, hd]; rfl)
      simp only [Nat.add_zero] at h2
      rw [h2] at h48
      by_cases hz : n.toNat = 0
      · rw [hz, dec_nought] at hd
        simp only [List.cons.injEq] at hd
        rw [hl, ← hd.2]; rfl
      · exact absurd (by omega) (dec_lead n.toNat (by omega) d r hd)
end Go.Proofs.Tryz

