import Derived.Test.YtjablghahhhdhaaGreatDoorVal4
import Derived.Test.YtjablghahhhdhaaGreatDoorCanon2
import Derived.Test.YtjablghahhhdhaaGreatDoorFx5
import Derived.WalkMore
import Derived.Lib.RuneBytes
set_option linter.all false
namespace Go.Proofs.Tryz
open Go.RowKit
set_option maxRecDepth 10000

/-- What a good end says: a rune, and a place further on. -/
def Good3 (s : ByteArray) (a : Nat) (r : Int × Int × Bool) : Prop := r.2.2 = true → 0 ≤ r.1 ∧ r.1 ≤ 1114111 ∧ ∃ q : Nat, r.2.1 = q ∧ a < q ∧ q ≤ s.size

theorem half_good {s : ByteArray} {start : Nat} {first : Int} (f0 : 55296 ≤ first) (f1 : first ≤ 56319) : ∀ (k i : Nat) (sec : Int), i + k = 6 → start + 6 + i ≤ s.size → upTo sec i → Good3 s start (halfL s start first k i sec)
  | 0, i, sec, hik, hle, hu => by
    obtain rfl : i = 6 := by omega
    have hu' : (decide (56320 ≤ sec) && decide (sec ≤ 57343)) = true := hu
    simp only [Bool.and_eq_true, decide_eq_true_eq] at hu'
    intro _
    exact ⟨by simp only [halfL]; omega, by simp only [halfL]; omega, start + 12, by simp only [halfL]; omega, by omega, by omega⟩
  | k + 1, i, sec, hik, hle, hu => by
    rw [halfL]
    split
    · intro h; cases h
    · rename_i hz
      split
      · rename_i z0
        split
        · exact half_good f0 f1 k (i + 1) sec (by omega) (by omega) (by subst z0; exact hu)
        · intro h; cases h
      · split
        · rename_i z1
          split
          · exact half_good f0 f1 k (i + 1) sec (by omega) (by omega) (by subst z1; exact hu)
          · intro h; cases h
        · rename_i z0 z1
          split
          · rename_i d hd
            split
            · rename_i hb
              obtain ⟨j, rfl⟩ : ∃ j, i = j + 2 := ⟨i - 2, by omega⟩
              exact half_good f0 f1 k (j + 2 + 1) _ (by omega) (by omega) hb
            · intro h; cases h
          · intro h; cases h

theorem uni_good {s : ByteArray} {start : Nat} : ∀ (k i : Nat) (ch : Int), i + k = 4 → start + 2 + i ≤ s.size → uniUp ch i → Good3 s start (uniL s start k i ch)
  | 0, i, ch, hik, hle, hu => by
    obtain rfl : i = 4 := by omega
    obtain ⟨u0, u1, u2⟩ := hu
    rw [uniL]
    split
    · intro _; exact ⟨u0, by simp only; omega, start + 6, by simp only; omega, by omega, by omega⟩
    · split
      · intro _; exact ⟨u0, by simp only; omega, start + 6, by simp only; omega, by omega, by omega⟩
      · exact half_good (by omega) (by omega) 6 0 0 rfl (by omega) rfl
  | k + 1, i, ch, hik, hle, hu => by
    rw [uniL]
    split
    · intro h; cases h
    · rename_i hz
      split
      · intro h; cases h
      · rename_i d hd
        obtain ⟨d0, d1⟩ := hexV_range hd
        split
        · rename_i z1
          split
          · intro h; cases h
          · rename_i hb
            exact uni_good k (i + 1) _ (by omega) (by omega) (uniUp_step hu (by omega) d0 d1 (fun _ => by simpa using hb))
        · rename_i z1
          exact uni_good k (i + 1) _ (by omega) (by omega) (uniUp_step hu (by omega) d0 d1 (fun e => absurd e z1))

theorem esc_good {s : ByteArray} {a : Nat} (h : a < s.size) : Good3 s a (escV s a) := by
  unfold escV
  split
  · intro h; cases h
  · rename_i hz
    unfold escC
    repeat' split
    all_goals first
      | exact uni_good 4 0 0 rfl (by omega) rfl
      | (intro h; cases h; done)
      | (intro _; exact ⟨by simp only; omega, by simp only; omega, a + 2, by simp only; omega, by omega, by omega⟩)
end Go.Proofs.Tryz

namespace Go.Proofs.Tryz
open Go.RowKit
set_option maxRecDepth 10000

/-- The bytes that follow the first one of a character: how far they go, and whether all are there. -/
def tailL (s : ByteArray) : Nat → Nat → Int → Int → Nat × Bool
  | 0, a, _, _ => (a, true)
  | k + 1, a, lo, hi => if a = s.size then (a, false) else if byteAt s a < lo then (a, false) else if hi < byteAt s a then (a, false) else tailL s k (a + 1) 128 191
/-- What a string comes to from the place a on, cs being read: its characters, the place behind it. -/
def strL (s : ByteArray) : Nat → Nat → List UInt8 → List UInt8 × Int × Bool
  | 0, a, _ => ([], a, false)
  | k + 1, a, cs =>
    if s.size ≤ a then ([], a, false)
    else if byteAt s a = 34 then (cs, a + 1, true)
    else if byteAt s a < 32 then ([], a, false)
    else if byteAt s a = 92 then (if (escV s a).2.2 then strL s k (escV s a).2.1.toNat (cs ++ Lib.encodeRune (escV s a).1) else ([], (escV s a).2.1, false))
    else if (followV (byteAt s a)).2.2 < 0 then ([], a, false)
    else if (tailL s (followV (byteAt s a)).2.2.toNat (a + 1) (followV (byteAt s a)).1 (followV (byteAt s a)).2.1).2 then
      strL s k (tailL s (followV (byteAt s a)).2.2.toNat (a + 1) (followV (byteAt s a)).1 (followV (byteAt s a)).2.1).1 (cs ++ ((s.data.toList.drop a).take ((tailL s (followV (byteAt s a)).2.2.toNat (a + 1) (followV (byteAt s a)).1 (followV (byteAt s a)).2.1).1 - a)))
    else ([], (tailL s (followV (byteAt s a)).2.2.toNat (a + 1) (followV (byteAt s a)).1 (followV (byteAt s a)).2.1).1, false)

/-- What utf8.AppendRune does onto a row of one's own. -/
def AppendsRune : Prop := ∀ (B n : Nat) (r : Int) (sv : Value) (xs : List Value) (w : World), -2147483648 ≤ r → r ≤ 2147483647 → w.ownsRow B 5 1 sv n xs → B ≤ w.heap.size → n + 4 ≤ 140737488355328 →
  Calls Tryz.prog 135 #[sv, .int .i32 r] w fun e w' => ∃ v', e = .returned v' ∧ w'.ownsRow B 5 1 v' (n + (Lib.runeCells r).length) (xs ++ Lib.runeCells r) ∧ Below B w w'

theorem conv_nil (w : World) : Sem.run Tryz.prog (Go.convert 50 9 (.slice none 0 0)) w = .ok (.string ⟨#[]⟩) w := by kernel_rfl
theorem follow_range (c : Int) : (followV c).2.2 = -1 ∨ ∃ m : Nat, m ≤ 3 ∧ (followV c).2.2 = m := by
  unfold followV
  repeat' split
  all_goals first
    | exact .inl rfl
    | exact .inr ⟨0, by omega, rfl⟩
    | exact .inr ⟨1, by omega, rfl⟩
    | exact .inr ⟨2, by omega, rfl⟩
    | exact .inr ⟨3, by omega, rfl⟩
theorem take_one (s : ByteArray) (a j : Nat) (h : a + j < s.size) : (s.data.toList.drop a).take (j + 1) = (s.data.toList.drop a).take j ++ [s[a + j]] := by
  rw [List.take_succ, List.getElem?_drop, at_list s (a + j) h]
  rfl
theorem belowD (B : Nat) (w : World) (m : Nat) : Below B w (w.drewN m) := ⟨rfl, rfl, rfl, Nat.le_refl _, fun _ _ => rfl⟩
theorem rune_len (r : Int) : (Lib.runeCells r).length ≤ 4 := by
  unfold Lib.runeCells Lib.encodeRuneZ
  rw [List.length_map]
  repeat' split
  all_goals simp


set_option maxHeartbeats 4000000 in
theorem string_ok (hA : AppendsRune) (s : ByteArray) (a0 : Nat) (h : a0 < s.size) (hm : s.size ≤ 10000000) (w : World) :
    Calls Tryz.prog 81 #[.string s, .int .i64 a0] w fun e w' => Below w.heap.size w w' ∧ ∃ t, e = .returned (.tuple #[.string t, .int .i64 (strL s (s.size + 1) (a0 + 1) []).2.1, .bool (strL s (s.size + 1) (a0 + 1) []).2.2]) ∧ t.data.toList = (strL s (s.size + 1) (a0 + 1) []).1 := by
  obtain ⟨R, hR⟩ : ∃ R, strL s (s.size + 1) (a0 + 1) [] = R := ⟨_, rfl⟩
  rw [hR]
  have HR : Hid _ := hR
  clear hR
  obtain ⟨i0, hi0, hz0, hz1, hz2⟩ := info_parts (show (Tryz.prog.info? 5).map (fun i => (i.zero, i.size, i.bytes)) = some (some (.int .u8 0), 1, 1) by kernel_rfl)
  go_enter Tryz.func81, Tryz.ntmps81
  go_wp2_with fail
  go_step3
  go_wp2_with fail
  go_step3
  go_wp2_with fail
  go_loopg [1, 7] (s.size + 1) (fun k v t wr => ∃ (a : Nat) (cs : List UInt8), a ≤ s.size ∧ s.size + 1 ≤ a + k ∧ v = .int .i64 a ∧ Below w.heap.size w wr ∧ wr.ownsRow w.heap.size 5 1 t cs.length (Lib.byteCells cs) ∧ cs.length + 4 * k ≤ 100000000 ∧ strL s k a cs = R)
  case atStart => exact ⟨a0 + 1, [], by omega, by omega, rfl, Below.refl _ _, World.ownsRow_nil _ _ _ _, by simp; omega, HR.out⟩
  case round =>
    obtain ⟨a, cs, ha, hk, rfl, hb, hown, hlen, hr⟩ := hrel
    match gk, hk, hr, hlen with
    | 0, hk, hr, hlen => omega
    | k + 1, hk, hr, hlen =>
      rw [strL] at hr
      by_cases hz : s.size ≤ a
      · rw [if_pos hz] at hr
        have hz' : ¬ (a : Int) < (s.size : Int) := by omega
        have HR2 : Hid _ := hr
        clear hr hz
        go_wp2_with fail
        go_ret3
        rw [← HR2.out]
        exact ⟨hb, _, rfl, rfl⟩
      · rw [if_neg hz] at hr
        have hl' : (a : Int) < (s.size : Int) := by omega
        have p0 : (0 : Int) ≤ (a : Int) := by omega
        have hlt : a < s.size := by omega
        clear hz
        obtain ⟨b0, b1⟩ := byte_range s a
        have eb := byte_at hlt
        rw [eb] at hr b0 b1
        clear eb
        by_cases n0 : (s[a].toNat : Int) = 34
        · rw [if_pos n0] at hr
          have t0 : ((s[a].toNat : Int) == 34) = true := by simpa using n0
          have HR2 : Hid _ := hr
          clear hr n0
          by_cases hne : cs = []
          · subst hne
            rcases hown.2 with ⟨rfl, _⟩ | ⟨g, cap, cur, rfl, hg, hbb, hn, hmm, hss, htt⟩
            · have hcv := conv_nil wr
              go_wp2_with fail
              try simp only [Exit.noGoto]
              go_ret3
              rw [← HR2.out]
              exact ⟨hb, _, rfl, rfl⟩
            · have hcv := run_convert_bytes_back (P := Tryz.prog) wr 50 9 5 ⟨g, 0, none⟩ cap [] Tryz.underlying50 Tryz.underlying5 Tryz.underlying9 (fun j hj => absurd hj (by simp))
              simp only [List.length_nil] at hcv ⊢
              go_wp2_with fail
              try simp only [Exit.noGoto]
              go_ret3
              rw [← HR2.out]
              exact ⟨hb, _, rfl, rfl⟩
          · obtain ⟨g, c, rfl, hc⟩ := owns_bytes hown hne
            have hcv := run_convert_bytes_back (P := Tryz.prog) wr 50 9 5 ⟨g, 0, none⟩ c cs Tryz.underlying50 Tryz.underlying5 Tryz.underlying9 hc
            go_wp2_with fail
            try simp only [Exit.noGoto]
            go_ret3
            rw [← HR2.out]
            exact ⟨hb, _, rfl, rfl⟩
        · rw [if_neg n0] at hr
          have t0 : ((s[a].toNat : Int) == 34) = false := by simpa using n0
          clear n0
          by_cases n1 : (s[a].toNat : Int) < 32
          · rw [if_pos n1] at hr
            have HR2 : Hid _ := hr
            clear hr
            go_wp2_with fail
            simp only [Exit.noGoto]
            go_ret3
            rw [← HR2.out]
            exact ⟨hb, _, rfl, rfl⟩
          · rw [if_neg n1] at hr
            by_cases n2 : (s[a].toNat : Int) = 92
            · rw [if_pos n2] at hr
              have t2 : ((s[a].toNat : Int) == 92) = true := by simpa using n2
              clear n2
              have hE := escape_ok s a hlt (by omega)
              obtain ⟨E, hEe⟩ : ∃ E, escV s a = E := ⟨_, rfl⟩
              rw [hEe] at hr
              simp only [hEe] at hE
              have HE : Hid _ := hEe
              clear hEe
              obtain ⟨r, q, ok⟩ := E
              cases ok with
              | false =>
                have HR2 : Hid _ := hr
                clear hr
                go_wp2_with (go_at_call 134; refine (hE _).mono ?_; rintro e w1 ⟨rfl, m, rfl⟩)
                simp only [Exit.noGoto]
                go_ret3
                rw [← HR2.out]
                exact ⟨hb.trans (belowD _ _ _), _, rfl, rfl⟩
              | true =>
                obtain ⟨g0, g1, q', hq, hq1, hq2⟩ := (HE.out ▸ esc_good hlt) rfl
                simp only at g0 g1 hq
                subst hq
                simp only [if_true, Int.toNat_natCast] at hr
                have HR2 : Hid _ := hr
                clear hr
                obtain ⟨ra, rl, rc, rfl⟩ := owns_shape hown
                go_wp2_with (first
                  | (go_at_call 134; refine (hE _).mono ?_; rintro e w1 ⟨rfl, m, rfl⟩)
                  | (go_at_call 135; refine (hA w.heap.size cs.length r _ (Lib.byteCells cs) _ (by omega) (by omega) (by exact hown) (by exact hb.size) (by omega)).mono ?_; rintro e w2 ⟨v2, rfl, hown2, hb2⟩))
                go_roundg k
                case measure => omega
                case rel => exact ⟨q', cs ++ Lib.encodeRune r, hq2, by omega, rfl, (hb.trans (belowD _ _ m)).trans hb2, by rw [List.length_append, ← Lib.runeCells_length, show Lib.byteCells (cs ++ Lib.encodeRune r) = Lib.byteCells cs ++ Lib.runeCells r by rw [← Lib.byteCells_encodeRune]; simp [Lib.byteCells]]; exact hown2, by have := (Lib.runeCells_le r).2; rw [List.length_append, ← Lib.runeCells_length]; omega, HR2.out⟩
            · rw [if_neg n2] at hr
              have t2 : ((s[a].toNat : Int) == 92) = false := by simpa using n2
              clear n2
              have hF := following_ok (s[a].toNat : Int) b0 b1
              have hFr := follow_range (s[a].toNat : Int)
              obtain ⟨F, hFe⟩ : ∃ F, followV (s[a].toNat : Int) = F := ⟨_, rfl⟩
              rw [hFe] at hr hFr
              simp only [hFe] at hF
              clear hFe
              obtain ⟨lo, hi, more⟩ := F
              simp only at hFr hF hr
              rcases hFr with rfl | ⟨m, hm3, rfl⟩
              · rw [if_pos (by omega)] at hr
                have HR2 : Hid _ := hr
                clear hr
                go_wp2_with (go_at_call 136; refine (hF _).mono ?_; rintro e w1 ⟨rfl, hw⟩; subst w1)
                simp only [Exit.noGoto]
                go_ret3
                rw [← HR2.out]
                exact ⟨hb, _, rfl, rfl⟩
              · rw [if_neg (by omega)] at hr
                simp only [Int.toNat_natCast] at hr
                obtain ⟨T, hT⟩ : ∃ T, tailL s m (a + 1) lo hi = T := ⟨_, rfl⟩
                rw [hT] at hr
                have HT : Hid _ := hT
                have HR2 : Hid _ := hr
                clear hT hr
                have hm0 : ¬ (m : Int) < 0 := by omega
                obtain ⟨ra, rl, rc, rfl⟩ := owns_shape hown
                go_wp2_with (first
                  | (go_at_call 136; refine (hF _).mono ?_; rintro e w1 ⟨rfl, hw⟩; subst w1)
                  | (refine wpList_append_lies _ (by rfl) _ _ _ (by rfl) w.heap.size 5 i0 _ 1 1 Tryz.underlying50 hi0 hz0 hz1 hz2 rfl (by omega) _ cs.length (Lib.byteCells cs) (by rfl) (hown.alloc _) ⟨wr.heap.size, 0, none⟩ 1 1 [.int .u8 (s[a].toNat : Int)] (by rfl) (by rfl) (World.news_of_block (cs := #[.int .u8 (s[a].toNat : Int)]) (t := 5) (fr := (0, 0)) (heap_new wr _)) (by simp [Value.oneCell']) (by omega) (by unfold maxLen; omega) (by omega) (by have := hb.size; simp; omega) (wr.heap.size + 1) (by simp) ?_; intro g4 cap4 w4 hown4 hgrow4 hat4 hlt4))
                have hb4 : Below w.heap.size w w4 := (hb.alloc (by have := hb.size; omega) _).grown hgrow4 (by have := hb.size; simp; omega) (fun q hq => (hown.lt q hq).1)
                go_loopg [1, 7, 12, 13, 39] m (fun kk v1 v7 v12 v13 v39 wr2 => ∃ (j p : Nat) (lo2 hi2 : Int), j + kk = m ∧ p = a + 1 + j ∧ p ≤ s.size ∧ v1 = .int .i64 p ∧ v39 = .int .i64 j ∧ v12 = .int .u8 lo2 ∧ v13 = .int .u8 hi2 ∧ Below w.heap.size w wr2 ∧ wr2.ownsRow w.heap.size 5 1 v7 (cs.length + (j + 1)) (Lib.byteCells (cs ++ (s.data.toList.drop a).take (j + 1))) ∧ tailL s kk p lo2 hi2 = T)
                case atStart =>
                  refine ⟨0, a + 1, lo, hi, by omega, rfl, by omega, by go_num, rfl, rfl, rfl, hb4, ?_, HT.out⟩
                  have e1 := take_one s a 0 (by omega)
                  rw [e1]
                  simpa [Lib.byteCells] using hown4
                case round =>
                  clear hown4 hgrow4 hat4 hlt4 hb4 hown hb
                  obtain ⟨j, p, lo2, hi2, hjm, hp, hps, rfl, rfl, rfl, rfl, hb, hown, hT⟩ := hrel
                  have HP : Hid _ := hp
                  clear hp
                  match gk, hjm, hT with
                  | 0, hjm, hT =>
                    obtain rfl : j = m := by omega
                    have hjj : ¬ (j : Int) < (j : Int) := by omega
                    have hT : (p, true) = T := hT
                    have HT2 : Hid _ := hT
                    clear hT
                    go_wp2_with fail
                    go_roundg k
                    case measure => omega
                    case rel =>
                      have hr := HR2.out
                      rw [← HT2.out] at hr
                      simp only [if_true] at hr
                      have hpe : p - a = j + 1 := by have := HP.out; omega
                      rw [hpe] at hr
                      have hl : (cs ++ (s.data.toList.drop a).take (j + 1)).length = cs.length + (j + 1) := by
                        simp only [List.length_append, List.length_take, List.length_drop, size_list]
                        have := HP.out
                        omega
                      exact ⟨p, _, hps, by have := HP.out; omega, rfl, hb, by rw [hl]; exact hown, by rw [hl]; omega, hr⟩
                  | kk + 1, hjm, hT =>
                    rw [tailL] at hT
                    have hjm' : (j : Int) < (m : Int) := by omega
                    by_cases hz : p = s.size
                    · rw [if_pos hz] at hT
                      have hz' : (p : Int) = (s.size : Int) := by omega
                      have HT2 : Hid _ := hT
                      have HZ : Hid _ := hz
                      clear hT hz
                      go_wp2_with fail
                      simp only [Exit.noGoto]
                      go_ret3
                      have hr := HR2.out
                      rw [← HT2.out] at hr
                      simp only [Bool.false_eq_true, if_false] at hr
                      rw [← hr]
                      exact ⟨hb, _, by rw [HZ.out]; rfl, rfl⟩
                    · rw [if_neg hz] at hT
                      have hz' : ¬ (p : Int) = (s.size : Int) := by omega
                      have hl2 : (p : Int) < (s.size : Int) := by omega
                      have hp0 : (0 : Int) ≤ (p : Int) := by omega
                      have hplt : p < s.size := by omega
                      clear hz
                      rw [byte_at hplt] at hT
                      by_cases m0 : (s[p].toNat : Int) < lo2
                      · rw [if_pos m0] at hT
                        have HT2 : Hid _ := hT
                        clear hT
                        go_wp2_with fail
                        simp only [Exit.noGoto]
                        go_ret3
                        have hr := HR2.out
                        rw [← HT2.out] at hr
                        simp only [Bool.false_eq_true, if_false] at hr
                        rw [← hr]
                        exact ⟨hb, _, rfl, rfl⟩
                      · rw [if_neg m0] at hT
                        by_cases m1 : hi2 < (s[p].toNat : Int)
                        · rw [if_pos m1] at hT
                          have HT2 : Hid _ := hT
                          clear hT
                          go_wp2_with fail
                          try simp only [Exit.noGoto]
                          go_ret3
                          have hr := HR2.out
                          rw [← HT2.out] at hr
                          simp only [Bool.false_eq_true, if_false] at hr
                          rw [← hr]
                          exact ⟨hb, _, rfl, rfl⟩
                        · rw [if_neg m1] at hT
                          have HT2 : Hid _ := hT
                          clear hT
                          obtain ⟨sa, sl, sc, rfl⟩ := owns_shape hown
                          go_wp2_with (refine wpList_append_lies _ (by rfl) _ _ _ (by rfl) w.heap.size 5 i0 _ 1 1 Tryz.underlying50 hi0 hz0 hz1 hz2 rfl (by omega) _ (cs.length + (j + 1)) (Lib.byteCells (cs ++ (s.data.toList.drop a).take (j + 1))) (by rfl) (hown.alloc _) ⟨wr.heap.size, 0, none⟩ 1 1 [.int .u8 (s[p].toNat : Int)] (by rfl) (by rfl) (World.news_of_block (cs := #[.int .u8 (s[p].toNat : Int)]) (t := 5) (fr := (0, 0)) (heap_new wr _)) (by simp [Value.oneCell']) (by omega) (by unfold maxLen; omega) (by omega) (by have := hb.size; simp; omega) (wr.heap.size + 1) (by simp) ?_; intro g4 cap4 w4 hown4 hgrow4 hat4 hlt4)
                          go_roundg kk
                          case measure => omega
                          case rel =>
                            refine ⟨j + 1, p + 1, 128, 191, by omega, by have := HP.out; omega, by omega, by go_num, by go_num, rfl, rfl, ?_, ?_, HT2.out⟩
                            · exact (hb.alloc (by have := hb.size; omega) _).grown hgrow4 (by have := hb.size; simp; omega) (fun q hq => (hown.lt q hq).1)
                            · have hpa : a + (j + 1) = p := by have := HP.out; omega
                              have e1 := take_one s a (j + 1) (by omega)
                              rw [e1]
                              have e2 : s[a + (j + 1)]'(by omega) = s[p] := by simp only [hpa]
                              rw [e2]
                              simpa [Lib.byteCells, Nat.add_assoc] using hown4
end Go.Proofs.Tryz

namespace Go.Proofs.Tryz
open Go.RowKit
set_option maxRecDepth 10000

/-- The reader of values at block vb stands at the place a of the text s (of any length that a text may have here). -/
structure Va (w : World) (vb : Nat) (s : ByteArray) (a : Nat) : Prop where
  text : w.cell? ⟨vb, 0, none⟩ = some (.string s)
  pos : w.cell? ⟨vb, 1, none⟩ = some (.int .i64 a)
  free : w.frozen? ⟨vb, 1, none⟩ = false
  le : a ≤ s.size
  max : s.size ≤ 10000000
theorem VBlk.va {w : World} {vb a : Nat} {s : ByteArray} {ov : Value} (h : VBlk w vb s a ov) (hle : a ≤ s.size) (hm : s.size ≤ 10000000) : Va w vb s a := by
  obtain ⟨c0, c1, c2, f0, f1, f2, hl⟩ := three_facts' h
  exact ⟨c0, c1, f1, hle, hm⟩

set_option maxHeartbeats 1000000 in
theorem nextV_ok {w : World} {vb a : Nat} {s : ByteArray} (h : Va w vb s a) :
    Calls Tryz.prog 28 #[.pointer (some ⟨vb, 0, none⟩)] w fun e w' => e = .returned (.int .u8 (byteAt s a)) ∧ ∃ n, w' = w.drewN n := by
  obtain ⟨h0, h1, _, hle, hmax⟩ := h
  by_cases hlt : a < s.size
  · have e : byteAt s a = (s[a].toNat : Int) := by simp only [byteAt, at_list s a hlt]
    rw [e]
    clear e
    have hne : ¬ (a : Int) = (s.size : Int) := by omega
    have hl' : (a : Int) < (s.size : Int) := by omega
    have ha0 : (0 : Int) ≤ (a : Int) := by omega
    go_enter Tryz.func28, Tryz.ntmps28
    go_wp2_with fail
    go_quiet (fail)
    go_wp2_with fail
    go_quiet (fail)
    go_wp2_with fail
    go_ret
    exact ⟨rfl, _, drewN_two _ _ _⟩
  · have he : a = s.size := by omega
    have e : byteAt s a = 0 := by simp only [byteAt, List.getElem?_eq_none (show s.data.toList.length ≤ a by rw [size_list]; omega)]
    rw [e]
    clear e
    have hq : (a : Int) = (s.size : Int) := by omega
    subst he
    clear hq hlt
    go_enter Tryz.func28, Tryz.ntmps28
    go_wp2_with fail
    go_quiet (fail)
    go_wp2_with fail
    go_ret
    exact ⟨rfl, _, rfl⟩


/-- A blank. -/
def blankB (c : Int) : Bool := c == 32 || c == 9 || c == 10 || c == 13
/-- The place behind the blanks. -/
def blanksV (s : ByteArray) : Nat → Nat → Nat
  | 0, a => a
  | k + 1, a => if blankB (byteAt s a) then blanksV s k (a + 1) else a
theorem blank_lt {s : ByteArray} {a : Nat} (h : blankB (byteAt s a) = true) : a < s.size := by
  rcases Nat.lt_or_ge a s.size with h' | h'
  · exact h'
  · rw [show byteAt s a = 0 by simp only [byteAt, List.getElem?_eq_none (show s.data.toList.length ≤ a by rw [size_list]; omega)]] at h
    cases h

set_option maxHeartbeats 2000000 in
theorem skipV_ok {w : World} {vb a0 : Nat} {s : ByteArray} {ov : Value} (h : VBlk w vb s a0 ov) (hle : a0 ≤ s.size) (hm : s.size ≤ 10000000) :
    Calls Tryz.prog 26 #[.pointer (some ⟨vb, 0, none⟩)] w fun e w' => e = .returned (.tuple #[]) ∧ VBlk w' vb s (blanksV s (s.size + 1) a0) ov ∧ Fr (· = vb) w w' := by
  obtain ⟨R, hR⟩ : ∃ R, blanksV s (s.size + 1) a0 = R := ⟨_, rfl⟩
  rw [hR]
  have HR : Hid _ := hR
  clear hR
  go_enter Tryz.func26, Tryz.ntmps26
  go_wp2_with fail
  go_loopg [2] (s.size + 1) (fun k v wr => ∃ a : Nat, a ≤ s.size ∧ s.size + 1 ≤ a + k ∧ VBlk wr vb s a ov ∧ Fr (· = vb) w wr ∧ blanksV s k a = R)
  case atStart => exact ⟨a0, hle, by omega, h, Fr.refl _ _, HR.out⟩
  case round =>
    obtain ⟨a, ha, hk, hv, hfr, hr⟩ := hrel
    obtain ⟨v0, v1, v2, g0, g1, g2, vl⟩ := three_facts' hv
    have hvA := hv.va ha hm
    match gk, hk, hr with
    | 0, hk, hr => omega
    | k + 1, hk, hr =>
      rw [blanksV] at hr
      cases hb : blankB (byteAt s a) with
      | true =>
        simp only [hb, if_true] at hr
        have hlt := blank_lt hb
        have HR2 : Hid _ := hr
        clear hr
        have hc : byteAt s a = 32 ∨ byteAt s a = 9 ∨ byteAt s a = 10 ∨ byteAt s a = 13 := by
          simp only [blankB, Bool.or_eq_true, beq_iff_eq] at hb
          omega
        clear hb
        rcases hc with hc | hc | hc | hc
        all_goals
          go_wp2_with (go_at_call 28; refine (nextV_ok hvA).mono ?_; rintro e w1 ⟨rfl, m, rfl⟩; rw [hc])
          go_roundg k
          case measure => omega
          case rel => exact ⟨a + 1, by omega, by omega, (hv.drewN _).set, (hfr.drewN _).setCell _ (.inl rfl), HR2.out⟩
      | false =>
        simp only [hb] at hr
        have HR2 : Hid _ := hr
        clear hr
        have hc : ¬ byteAt s a = 32 ∧ ¬ byteAt s a = 9 ∧ ¬ byteAt s a = 10 ∧ ¬ byteAt s a = 13 := by
          simp only [blankB, Bool.or_eq_false_iff, beq_eq_false_iff_ne] at hb
          omega
        clear hb
        obtain ⟨b1, b2, b3, b4⟩ := hc
        go_wp2_with (go_at_call 28; refine (nextV_ok hvA).mono ?_; rintro e w1 ⟨rfl, m, rfl⟩)
        refine bodyPost_ret (v := .tuple #[]) (by simp [results, Tryz.results26, go_sem]) rfl ⟨rfl, ?_, hfr.drewN _⟩
        have : a = R := by simpa using HR2.out
        subst this
        exact hv.drewN _
end Go.Proofs.Tryz

namespace Go.Proofs.Tryz
open Go.RowKit
set_option maxRecDepth 10000

/-- How far the text goes with a word. -/
def wordV (s wd : ByteArray) : Nat → Nat → Nat → Nat × Bool
  | 0, _, a => (a, true)
  | k + 1, i, a => if byteAt s a = byteAt wd i then wordV s wd k (i + 1) (a + 1) else (a, false)
/-- The value, or none. -/
def orNil (b : Bool) (v : Value) : Value := if b then v else .nilIface
theorem Va.drewN {w : World} {vb a : Nat} {s : ByteArray} (h : Va w vb s a) (n : Nat) : Va (w.drewN n) vb s a := ⟨h.text, h.pos, h.free, h.le, h.max⟩
theorem byte_pos {s : ByteArray} {a : Nat} (h : byteAt s a ≠ 0) : a < s.size := by
  rcases Nat.lt_or_ge a s.size with h' | h'
  · exact h'
  · exact absurd (show byteAt s a = 0 by simp only [byteAt, List.getElem?_eq_none (show s.data.toList.length ≤ a by rw [size_list]; omega)]) h

set_option maxHeartbeats 2000000 in
theorem word_ok {w : World} {vb a0 T : Nat} {u : Value} {s wd : ByteArray} {ov : Value} (h : VBlk w vb s a0 ov) (hle : a0 ≤ s.size) (hm : s.size ≤ 10000000) (hw : wd.size ≤ 100) (hz : ∀ i, i < wd.size → byteAt wd i ≠ 0) :
    Calls Tryz.prog 68 #[.pointer (some ⟨vb, 0, none⟩), .string wd, .iface T u] w fun e w' => e = .returned (.tuple #[orNil (wordV s wd wd.size 0 a0).2 (.iface T u), .bool (wordV s wd wd.size 0 a0).2]) ∧ VBlk w' vb s (wordV s wd wd.size 0 a0).1 ov ∧ Fr (· = vb) w w' := by
  obtain ⟨R, hR⟩ : ∃ R, wordV s wd wd.size 0 a0 = R := ⟨_, rfl⟩
  rw [hR]
  have HR : Hid _ := hR
  clear hR
  go_enter Tryz.func68, Tryz.ntmps68
  go_wp2_with fail
  go_loopg [11] wd.size (fun k v wr => ∃ (i a : Nat), i + k = wd.size ∧ a ≤ s.size ∧ v = .int .i64 i ∧ VBlk wr vb s a ov ∧ Fr (· = vb) w wr ∧ wordV s wd k i a = R)
  case atStart => exact ⟨0, a0, by omega, hle, rfl, h, Fr.refl _ _, HR.out⟩
  case round =>
    obtain ⟨i, a, hik, ha, rfl, hv, hfr, hr⟩ := hrel
    obtain ⟨v0, v1, v2, g0, g1, g2, vl⟩ := three_facts' hv
    have hvA := hv.va ha hm
    match gk, hik, hr with
    | 0, hik, hr =>
      have hi' : ¬ (i : Int) < (wd.size : Int) := by omega
      have HR2 : Hid _ := hr
      clear hr
      go_wp2_with fail
      go_ret2
      rw [← HR2.out]
      exact ⟨rfl, hv, hfr⟩
    | k + 1, hik, hr =>
      have hilt : i < wd.size := by omega
      have hi' : (i : Int) < (wd.size : Int) := by omega
      have hi0 : (0 : Int) ≤ (i : Int) := by omega
      have hnz := hz i hilt
      rw [wordV] at hr
      rw [byte_at hilt] at hr hnz
      by_cases hc : byteAt s a = (wd[i].toNat : Int)
      · rw [if_pos hc] at hr
        have hlt : a < s.size := byte_pos (by rw [hc]; exact hnz)
        have t1 : (byteAt s a != (wd[i].toNat : Int)) = false := by simpa using hc
        have HR2 : Hid _ := hr
        clear hr hc hnz
        go_wp2_with fail
        go_quiet ((go_at_call 28; exact Calls.quiet_of (nextV_ok (Va.drewN hvA _))))
        go_wp2_with fail
        go_roundg k
        case measure => omega
        case rel => exact ⟨i + 1, a + 1, by omega, by omega, by go_num, (hv.drewN _).set, (hfr.drewN _).setCell _ (.inl rfl), HR2.out⟩
      · rw [if_neg hc] at hr
        have t1 : (byteAt s a != (wd[i].toNat : Int)) = true := by simpa using hc
        have HR2 : Hid _ := hr
        clear hr hc hnz
        go_wp2_with fail
        go_quiet ((go_at_call 28; exact Calls.quiet_of (nextV_ok (Va.drewN hvA _))))
        go_wp2_with fail
        go_ret2
        rw [← HR2.out]
        exact ⟨rfl, hv.drewN _, hfr.drewN _⟩
end Go.Proofs.Tryz

namespace Go.Proofs.Tryz
open Go.RowKit
set_option maxRecDepth 10000

/-- A digit. -/
def digB (c : Int) : Bool := decide (48 ≤ c) && decide (c ≤ 57)
/-- The place behind the digits. -/
def digsV (s : ByteArray) : Nat → Nat → Nat
  | 0, a => a
  | k + 1, a => if digB (byteAt s a) then digsV s k (a + 1) else a
/-- The place behind the digits of a number, the first of which lies at a: behind a leading 0 at once. -/
def numEnd (s : ByteArray) (a : Nat) : Nat := if byteAt s a = 48 then a + 1 else digsV s (s.size + 1) (a + 1)
/-- The number that strconv.ParseInt tells, if it tells one. -/
def parsedV (l : List UInt8) : Option Int := match Lib.parseIntB 64 l with
  | .ok v => some v
  | _ => none
def numP : Option Int → Nat → Nat → Option Int × Nat
  | some n, _, e => (some n, e)
  | none, a, _ => (none, a)
/-- The number at a, if there is one, and the place behind it, or where it goes wrong: b is the place of the first digit. -/
def numAt (s : ByteArray) (a b : Nat) : Option Int × Nat :=
  if digB (byteAt s b) then
    numP (parsedV (s.extract a (numEnd s b)).data.toList) a (numEnd s b)
  else (none, b)
def numL (s : ByteArray) (a : Nat) : Option Int × Nat := numAt s a (if byteAt s a = 45 then a + 1 else a)
def numO : Option Int → Value
  | some n => numV n
  | none => .nilIface

/-- What strconv.ParseInt answers. -/
def parsedE : Option Int → Ending → Prop
  | some v, e => e = .returned (.tuple #[.int .i64 v, .nilIface])
  | none, e => ∃ x T p, e = .returned (.tuple #[.int .i64 x, .iface T p])
def ParsesAt (w : World) : Prop := ∀ s : ByteArray, s.size ≤ 10000000 → Calls Tryz.prog 130 #[.string s, .int .i64 10, .int .i64 64] w fun e w' => parsedE (parsedV s.data.toList) e ∧ Below w.heap.size w w'

theorem dig_lt {s : ByteArray} {a : Nat} (h : digB (byteAt s a) = true) : a < s.size := by
  refine byte_pos (fun e => ?_)
  rw [e] at h
  simp [digB] at h
theorem digs_ge (s : ByteArray) : ∀ (k a : Nat), a ≤ digsV s k a
  | 0, a => Nat.le_refl _
  | k + 1, a => by
    unfold digsV
    split
    · have := digs_ge s k (a + 1); omega
    · exact Nat.le_refl _
theorem digs_le (s : ByteArray) : ∀ (k a : Nat), a ≤ s.size → digsV s k a ≤ s.size
  | 0, a, h => h
  | k + 1, a, h => by
    unfold digsV
    split
    · rename_i hd
      exact digs_le s k (a + 1) (dig_lt hd)
    · exact h

theorem Fr.lowN {D : Nat → Prop} {n : Nat} {a w w' : World} (h : Fr D w w') (hD : ∀ k, D k → n ≤ k) (hb : Below n a w) (hn : n ≤ w.heap.size) : Below n a w' :=
  hb.trans ⟨h.os, h.tape, h.output, h.size, fun k hk => h.block k (by omega) (fun e => by have := hD k e; omega)⟩
theorem numEnd_range {s : ByteArray} {b : Nat} (h : digB (byteAt s b) = true) : b < numEnd s b ∧ numEnd s b ≤ s.size := by
  have hb := dig_lt h
  unfold numEnd
  split
  · omega
  · have := digs_ge s (s.size + 1) (b + 1)
    have := digs_le s (s.size + 1) (b + 1) hb
    omega

set_option maxHeartbeats 4000000 in
theorem number_ok {w w0 : World} {vb a : Nat} {s : ByteArray} {ov : Value} (hP : ∀ w', Below vb w0 w' → ParsesAt w') (hb : Below vb w0 w) (h : VBlk w vb s a ov) (ha : a ≤ s.size) (hm : s.size ≤ 10000000) :
    Calls Tryz.prog 72 #[.pointer (some ⟨vb, 0, none⟩)] w fun e w' => e = .returned (.tuple #[numO (numL s a).1, .bool (numL s a).1.isSome]) ∧ VBlk w' vb s (numL s a).2 ov ∧ Fr (· = vb) w w' := by
  obtain ⟨c0, c1, c2, f0, f1, f2, hl⟩ := three_facts' h
  have h0 := h.va ha hm
  by_cases h45 : byteAt s a = 45
  · have n45 : (byteAt s a == 45) = true := by simpa using h45
    have hlt : a < s.size := byte_pos (by rw [h45]; omega)
    unfold numL
    rw [if_pos h45]
    clear h45
    have vs : ∀ m m', Va (((w.drewN m).setCell ⟨vb, 1, none⟩ (.int .i64 ((a : Int) + 1))).drewN m') vb s (a + 1) := fun m m' => VBlk.va (a := a + 1) (((h.drewN m).set (b := a + 1)).drewN m') (by omega) hm
    have vs0 : ∀ m, Va ((w.drewN m).setCell ⟨vb, 1, none⟩ (.int .i64 ((a : Int) + 1))) vb s (a + 1) := fun m => VBlk.va (a := a + 1) ((h.drewN m).set (b := a + 1)) (by omega) hm
    obtain ⟨R, hR⟩ : ∃ R, numAt s a (a + 1) = R := ⟨_, rfl⟩
    rw [hR]
    have HR : Hid _ := hR
    clear hR
    cases hd : digB (byteAt s (a + 1)) with
    | false =>
      have hr : numAt s a (a + 1) = (none, (a + 1)) := by unfold numAt; rw [hd]; rfl
      have HR2 : Hid _ := hr
      have hd' : (decide (48 ≤ byteAt s (a + 1)) && decide (byteAt s (a + 1) ≤ 57)) = false := hd
      clear hr hd
      go_enter Tryz.func72, Tryz.ntmps72
      go_wp2_with (first
        | (go_at_call 28; refine (nextV_ok h0).mono ?_; rintro e w1 ⟨rfl, m, rfl⟩)
        | (go_at_call 28; refine (nextV_ok (a := a + 1) (by first | exact vs0 _ | exact vs _ _)).mono ?_; rintro e w1 ⟨rfl, m, rfl⟩)
        | (go_at_call 71; refine (vIsDigit_any _ _).mono ?_; rintro e w1 ⟨rfl, hw⟩; subst w1; rw [hd']))
      go_ret2
      rw [← HR.out, HR2.out]
      exact ⟨rfl, ((h.drewN _).set (b := a + 1)).drewN _, (((Fr.refl (· = vb) w).drewN _).setCell _ (.inl rfl)).drewN _⟩
    | true =>
      have hbl := dig_lt hd
      obtain ⟨E, hE⟩ : ∃ E, numEnd s (a + 1) = E := ⟨_, rfl⟩
      have hEr := numEnd_range hd
      rw [hE] at hEr
      obtain ⟨O, hO⟩ : ∃ O, parsedV (s.extract a E).data.toList = O := ⟨_, rfl⟩
      have hr : numAt s a (a + 1) = numP O a E := by unfold numAt; rw [hd, hE, hO]; rfl
      have HR2 : Hid _ := hr
      have hd' : (decide (48 ≤ byteAt s (a + 1)) && decide (byteAt s (a + 1) ≤ 57)) = true := hd
      clear hr hd
      obtain ⟨e1, e2⟩ := hEr
      have HO : Hid _ := hO
      clear hO
      have q0 : (0 : Int) ≤ (a : Int) := by omega
      have q1 : (a : Int) ≤ (E : Int) := by omega
      have q2 : (E : Int) ≤ (s.size : Int) := by omega
      have hes : (s.extract a E).size ≤ 10000000 := by simp [ByteArray.size_extract]; omega
      by_cases h48 : byteAt s (a + 1) = 48
      · have n48 : (byteAt s (a + 1) != 48) = false := by simpa using h48
        have hE2 : (a + 1) + 1 = E := by rw [← hE]; unfold numEnd; rw [if_pos h48]
        have HE2 : Hid _ := hE2
        clear hE2 hE h48
        go_enter Tryz.func72, Tryz.ntmps72
        go_wp2_with (first
          | (go_at_call 28; refine (nextV_ok h0).mono ?_; rintro e w1 ⟨rfl, m, rfl⟩)
          | (go_at_call 28; refine (nextV_ok (a := a + 1) (by first | exact vs0 _ | exact vs _ _)).mono ?_; rintro e w1 ⟨rfl, m, rfl⟩)
          | (go_at_call 71; refine (vIsDigit_any _ _).mono ?_; rintro e w1 ⟨rfl, hw⟩; subst w1; rw [hd']))
        go_loopg [41] (s.size + 1) (fun k v wr => ∃ j : Nat, j ≤ s.size ∧ s.size + 1 ≤ j + k ∧ VBlk wr vb s j ov ∧ Fr (· = vb) w wr ∧ j = E)
        case atStart => exact ⟨(a + 1) + 1, by omega, by omega, (((h.drewN _).set (b := a + 1)).drewN _).set (b := (a + 1) + 1), ((((Fr.refl (· = vb) w).drewN _).setCell _ (.inl rfl)).drewN _).setCell _ (.inl rfl), HE2.out⟩
        case round =>
          obtain ⟨j, hj1, hj2, hv, hfr, hj3⟩ := hrel
          obtain ⟨v0, v1, v2, g0, g1, g2, vl⟩ := three_facts' hv
          have hvA := hv.va hj1 hm
          subst hj3
          go_wp2_with fail
          have hbb : Below vb w0 wr := hfr.lowN (fun _ e => by omega) hb (by omega)
          cases O with
          | some n =>
            go_region_held3 (fun w' => w'.cell? ⟨vb, 0, none⟩ = some (.string s) ∧ w'.cell? ⟨vb, 1, none⟩ = some (.int .i64 j) ∧ w'.frozen? ⟨vb, 1, none⟩ = false) (first | exact e4 | go_keep)
              (first | (go_at_call 130; refine (hP _ (by first | exact hbb | exact hbb.trans (belowD _ _ _) | exact (hbb.trans (belowD _ _ _)).trans (belowD _ _ _)) _ hes).mono ?_; rw [HO.out]; rintro e w1 ⟨rfl, k1⟩; have e4 : w1.cell? ⟨vb, 0, none⟩ = some (.string s) ∧ w1.cell? ⟨vb, 1, none⟩ = some (.int .i64 j) ∧ w1.frozen? ⟨vb, 1, none⟩ = false := ⟨(k1.cell (p := ⟨vb, 0, none⟩) (by simpa using vl)).trans (by simpa using v0), (k1.cell (p := ⟨vb, 1, none⟩) (by simpa using vl)).trans (by simpa using v1), (World.frozen?_of_block (k1.block vb (by simpa using vl))).trans (by simpa using g1)⟩))
            go_wp2_with fail
            refine bodyPost_ret (v := .tuple #[numV n, .bool true]) (by simp [results, Tryz.results72, go_sem]) rfl ?_
            rw [← HR.out, HR2.out]
            exact ⟨rfl, hv.same (k1.block _ (by simpa using vl)), (hfr.drewN _).trans (Fr.of_below (D := (· = vb)) k1) (fun _ _ e => e)⟩
          | none =>
            go_region_held3 (fun w' => w'.cell? ⟨vb, 0, none⟩ = some (.string s) ∧ w'.cell? ⟨vb, 1, none⟩ = some (.int .i64 j) ∧ w'.frozen? ⟨vb, 1, none⟩ = false) (first | exact e4 | go_keep)
              (first | (go_at_call 130; refine (hP _ (by first | exact hbb | exact hbb.trans (belowD _ _ _) | exact (hbb.trans (belowD _ _ _)).trans (belowD _ _ _)) _ hes).mono ?_; rw [HO.out]; rintro e w1 ⟨⟨x, T, pp, rfl⟩, k1⟩; have e4 : w1.cell? ⟨vb, 0, none⟩ = some (.string s) ∧ w1.cell? ⟨vb, 1, none⟩ = some (.int .i64 j) ∧ w1.frozen? ⟨vb, 1, none⟩ = false := ⟨(k1.cell (p := ⟨vb, 0, none⟩) (by simpa using vl)).trans (by simpa using v0), (k1.cell (p := ⟨vb, 1, none⟩) (by simpa using vl)).trans (by simpa using v1), (World.frozen?_of_block (k1.block vb (by simpa using vl))).trans (by simpa using g1)⟩))
            go_wp2_with fail
            refine bodyPost_ret (v := .tuple #[.nilIface, .bool false]) (by simp [results, Tryz.results72, go_sem]) rfl ?_
            rw [← HR.out, HR2.out]
            exact ⟨rfl, (hv.same (k1.block _ (by simpa using vl))).set, ((hfr.drewN _).trans (Fr.of_below (D := (· = vb)) k1) (fun _ _ e => e)).setCell _ (.inl rfl)⟩
      · have n48 : (byteAt s (a + 1) != 48) = true := by simpa using h48
        have hE2 : digsV s (s.size + 1) ((a + 1) + 1) = E := by rw [← hE]; unfold numEnd; rw [if_neg h48]
        have HE2 : Hid _ := hE2
        clear hE2 hE h48
        go_enter Tryz.func72, Tryz.ntmps72
        go_wp2_with (first
          | (go_at_call 28; refine (nextV_ok h0).mono ?_; rintro e w1 ⟨rfl, m, rfl⟩)
          | (go_at_call 28; refine (nextV_ok (a := a + 1) (by first | exact vs0 _ | exact vs _ _)).mono ?_; rintro e w1 ⟨rfl, m, rfl⟩)
          | (go_at_call 71; refine (vIsDigit_any _ _).mono ?_; rintro e w1 ⟨rfl, hw⟩; subst w1; rw [hd']))
        go_loopg [41] (s.size + 1) (fun k v wr => ∃ j : Nat, j ≤ s.size ∧ s.size + 1 ≤ j + k ∧ VBlk wr vb s j ov ∧ Fr (· = vb) w wr ∧ digsV s k j = E)
        case atStart => exact ⟨(a + 1) + 1, by omega, by omega, (((h.drewN _).set (b := a + 1)).drewN _).set (b := (a + 1) + 1), ((((Fr.refl (· = vb) w).drewN _).setCell _ (.inl rfl)).drewN _).setCell _ (.inl rfl), HE2.out⟩
        case round =>
          obtain ⟨j, hj1, hj2, hv, hfr, hj3⟩ := hrel
          obtain ⟨v0, v1, v2, g0, g1, g2, vl⟩ := three_facts' hv
          have hvA := hv.va hj1 hm
          match gk, hj2, hj3 with
          | 0, hj2, hj3 => omega
          | k + 1, hj2, hj3 =>
            rw [digsV] at hj3
            cases hdj : digB (byteAt s j) with
            | true =>
              have hdj' : (decide (48 ≤ byteAt s j) && decide (byteAt s j ≤ 57)) = true := hdj
              have hjl := dig_lt hdj
              simp only [hdj, if_true] at hj3
              have HJ : Hid _ := hj3
              clear hj3 hdj
              go_wp2_with (first
                | (go_at_call 28; refine (nextV_ok hvA).mono ?_; rintro e w1 ⟨rfl, m, rfl⟩)
                | (go_at_call 71; refine (vIsDigit_any _ _).mono ?_; rintro e w1 ⟨rfl, hw⟩; subst w1; rw [hdj']))
              go_roundg k
              case measure => omega
              case rel => exact ⟨j + 1, by omega, by omega, (hv.drewN _).set, (hfr.drewN _).setCell _ (.inl rfl), HJ.out⟩
            | false =>
              have hdj' : (decide (48 ≤ byteAt s j) && decide (byteAt s j ≤ 57)) = false := hdj
              simp only [hdj, if_false] at hj3
              obtain rfl : j = E := by simpa using hj3
              clear hj3 hdj
              go_wp2_with (first
                | (go_at_call 28; refine (nextV_ok hvA).mono ?_; rintro e w1 ⟨rfl, m, rfl⟩)
                | (go_at_call 71; refine (vIsDigit_any _ _).mono ?_; rintro e w1 ⟨rfl, hw⟩; subst w1; rw [hdj']))
              have hbb : Below vb w0 wr := hfr.lowN (fun _ e => by omega) hb (by omega)
              cases O with
              | some n =>
                go_region_held3 (fun w' => w'.cell? ⟨vb, 0, none⟩ = some (.string s) ∧ w'.cell? ⟨vb, 1, none⟩ = some (.int .i64 j) ∧ w'.frozen? ⟨vb, 1, none⟩ = false) (first | exact e4 | go_keep)
                  (first | (go_at_call 130; refine (hP _ (by first | exact hbb | exact hbb.trans (belowD _ _ _) | exact (hbb.trans (belowD _ _ _)).trans (belowD _ _ _)) _ hes).mono ?_; rw [HO.out]; rintro e w1 ⟨rfl, k1⟩; have e4 : w1.cell? ⟨vb, 0, none⟩ = some (.string s) ∧ w1.cell? ⟨vb, 1, none⟩ = some (.int .i64 j) ∧ w1.frozen? ⟨vb, 1, none⟩ = false := ⟨(k1.cell (p := ⟨vb, 0, none⟩) (by simpa using vl)).trans (by simpa using v0), (k1.cell (p := ⟨vb, 1, none⟩) (by simpa using vl)).trans (by simpa using v1), (World.frozen?_of_block (k1.block vb (by simpa using vl))).trans (by simpa using g1)⟩))
                go_wp2_with fail
                refine bodyPost_ret (v := .tuple #[numV n, .bool true]) (by simp [results, Tryz.results72, go_sem]) rfl ?_
                rw [← HR.out, HR2.out]
                exact ⟨rfl, hv.same (k1.block _ (by simpa using vl)), (hfr.drewN _).trans (Fr.of_below (D := (· = vb)) k1) (fun _ _ e => e)⟩
              | none =>
                go_region_held3 (fun w' => w'.cell? ⟨vb, 0, none⟩ = some (.string s) ∧ w'.cell? ⟨vb, 1, none⟩ = some (.int .i64 j) ∧ w'.frozen? ⟨vb, 1, none⟩ = false) (first | exact e4 | go_keep)
                  (first | (go_at_call 130; refine (hP _ (by first | exact hbb | exact hbb.trans (belowD _ _ _) | exact (hbb.trans (belowD _ _ _)).trans (belowD _ _ _)) _ hes).mono ?_; rw [HO.out]; rintro e w1 ⟨⟨x, T, pp, rfl⟩, k1⟩; have e4 : w1.cell? ⟨vb, 0, none⟩ = some (.string s) ∧ w1.cell? ⟨vb, 1, none⟩ = some (.int .i64 j) ∧ w1.frozen? ⟨vb, 1, none⟩ = false := ⟨(k1.cell (p := ⟨vb, 0, none⟩) (by simpa using vl)).trans (by simpa using v0), (k1.cell (p := ⟨vb, 1, none⟩) (by simpa using vl)).trans (by simpa using v1), (World.frozen?_of_block (k1.block vb (by simpa using vl))).trans (by simpa using g1)⟩))
                go_wp2_with fail
                refine bodyPost_ret (v := .tuple #[.nilIface, .bool false]) (by simp [results, Tryz.results72, go_sem]) rfl ?_
                rw [← HR.out, HR2.out]
                exact ⟨rfl, (hv.same (k1.block _ (by simpa using vl))).set, ((hfr.drewN _).trans (Fr.of_below (D := (· = vb)) k1) (fun _ _ e => e)).setCell _ (.inl rfl)⟩
  · have n45 : (byteAt s a == 45) = false := by simpa using h45
    unfold numL
    rw [if_neg h45]
    clear h45
    obtain ⟨R, hR⟩ : ∃ R, numAt s a a = R := ⟨_, rfl⟩
    rw [hR]
    have HR : Hid _ := hR
    clear hR
    cases hd : digB (byteAt s a) with
    | false =>
      have hr : numAt s a a = (none, a) := by unfold numAt; rw [hd]; rfl
      have HR2 : Hid _ := hr
      have hd' : (decide (48 ≤ byteAt s a) && decide (byteAt s a ≤ 57)) = false := hd
      clear hr hd
      go_enter Tryz.func72, Tryz.ntmps72
      go_wp2_with (first
        | (go_at_call 28; refine (nextV_ok (by first | exact h0 | exact h0.drewN _)).mono ?_; rintro e w1 ⟨rfl, m, rfl⟩)
        | (go_at_call 71; refine (vIsDigit_any _ _).mono ?_; rintro e w1 ⟨rfl, hw⟩; subst w1; rw [hd']))
      go_ret2
      rw [← HR.out, HR2.out]
      exact ⟨rfl, h.drewN _, (Fr.refl (· = vb) w).drewN _⟩
    | true =>
      have hbl := dig_lt hd
      obtain ⟨E, hE⟩ : ∃ E, numEnd s a = E := ⟨_, rfl⟩
      have hEr := numEnd_range hd
      rw [hE] at hEr
      obtain ⟨O, hO⟩ : ∃ O, parsedV (s.extract a E).data.toList = O := ⟨_, rfl⟩
      have hr : numAt s a a = numP O a E := by unfold numAt; rw [hd, hE, hO]; rfl
      have HR2 : Hid _ := hr
      have hd' : (decide (48 ≤ byteAt s a) && decide (byteAt s a ≤ 57)) = true := hd
      clear hr hd
      obtain ⟨e1, e2⟩ := hEr
      have HO : Hid _ := hO
      clear hO
      have q0 : (0 : Int) ≤ (a : Int) := by omega
      have q1 : (a : Int) ≤ (E : Int) := by omega
      have q2 : (E : Int) ≤ (s.size : Int) := by omega
      have hes : (s.extract a E).size ≤ 10000000 := by simp [ByteArray.size_extract]; omega
      by_cases h48 : byteAt s a = 48
      · have n48 : (byteAt s a != 48) = false := by simpa using h48
        have hE2 : a + 1 = E := by rw [← hE]; unfold numEnd; rw [if_pos h48]
        have HE2 : Hid _ := hE2
        clear hE2 hE h48
        go_enter Tryz.func72, Tryz.ntmps72
        go_wp2_with (first
          | (go_at_call 28; refine (nextV_ok (by first | exact h0 | exact h0.drewN _)).mono ?_; rintro e w1 ⟨rfl, m, rfl⟩)
          | (go_at_call 71; refine (vIsDigit_any _ _).mono ?_; rintro e w1 ⟨rfl, hw⟩; subst w1; rw [hd']))
        go_loopg [41] (s.size + 1) (fun k v wr => ∃ j : Nat, j ≤ s.size ∧ s.size + 1 ≤ j + k ∧ VBlk wr vb s j ov ∧ Fr (· = vb) w wr ∧ j = E)
        case atStart => exact ⟨a + 1, by omega, by omega, (h.drewN _).set (b := a + 1), ((Fr.refl (· = vb) w).drewN _).setCell _ (.inl rfl), HE2.out⟩
        case round =>
          obtain ⟨j, hj1, hj2, hv, hfr, hj3⟩ := hrel
          obtain ⟨v0, v1, v2, g0, g1, g2, vl⟩ := three_facts' hv
          have hvA := hv.va hj1 hm
          subst hj3
          go_wp2_with fail
          have hbb : Below vb w0 wr := hfr.lowN (fun _ e => by omega) hb (by omega)
          cases O with
          | some n =>
            go_region_held3 (fun w' => w'.cell? ⟨vb, 0, none⟩ = some (.string s) ∧ w'.cell? ⟨vb, 1, none⟩ = some (.int .i64 j) ∧ w'.frozen? ⟨vb, 1, none⟩ = false) (first | exact e4 | go_keep)
              (first | (go_at_call 130; refine (hP _ (by first | exact hbb | exact hbb.trans (belowD _ _ _) | exact (hbb.trans (belowD _ _ _)).trans (belowD _ _ _)) _ hes).mono ?_; rw [HO.out]; rintro e w1 ⟨rfl, k1⟩; have e4 : w1.cell? ⟨vb, 0, none⟩ = some (.string s) ∧ w1.cell? ⟨vb, 1, none⟩ = some (.int .i64 j) ∧ w1.frozen? ⟨vb, 1, none⟩ = false := ⟨(k1.cell (p := ⟨vb, 0, none⟩) (by simpa using vl)).trans (by simpa using v0), (k1.cell (p := ⟨vb, 1, none⟩) (by simpa using vl)).trans (by simpa using v1), (World.frozen?_of_block (k1.block vb (by simpa using vl))).trans (by simpa using g1)⟩))
            go_wp2_with fail
            refine bodyPost_ret (v := .tuple #[numV n, .bool true]) (by simp [results, Tryz.results72, go_sem]) rfl ?_
            rw [← HR.out, HR2.out]
            exact ⟨rfl, hv.same (k1.block _ (by simpa using vl)), (hfr.drewN _).trans (Fr.of_below (D := (· = vb)) k1) (fun _ _ e => e)⟩
          | none =>
            go_region_held3 (fun w' => w'.cell? ⟨vb, 0, none⟩ = some (.string s) ∧ w'.cell? ⟨vb, 1, none⟩ = some (.int .i64 j) ∧ w'.frozen? ⟨vb, 1, none⟩ = false) (first | exact e4 | go_keep)
              (first | (go_at_call 130; refine (hP _ (by first | exact hbb | exact hbb.trans (belowD _ _ _) | exact (hbb.trans (belowD _ _ _)).trans (belowD _ _ _)) _ hes).mono ?_; rw [HO.out]; rintro e w1 ⟨⟨x, T, pp, rfl⟩, k1⟩; have e4 : w1.cell? ⟨vb, 0, none⟩ = some (.string s) ∧ w1.cell? ⟨vb, 1, none⟩ = some (.int .i64 j) ∧ w1.frozen? ⟨vb, 1, none⟩ = false := ⟨(k1.cell (p := ⟨vb, 0, none⟩) (by simpa using vl)).trans (by simpa using v0), (k1.cell (p := ⟨vb, 1, none⟩) (by simpa using vl)).trans (by simpa using v1), (World.frozen?_of_block (k1.block vb (by simpa using vl))).trans (by simpa using g1)⟩))
            go_wp2_with fail
            refine bodyPost_ret (v := .tuple #[.nilIface, .bool false]) (by simp [results, Tryz.results72, go_sem]) rfl ?_
            rw [← HR.out, HR2.out]
            exact ⟨rfl, (hv.same (k1.block _ (by simpa using vl))).set, ((hfr.drewN _).trans (Fr.of_below (D := (· = vb)) k1) (fun _ _ e => e)).setCell _ (.inl rfl)⟩
      · have n48 : (byteAt s a != 48) = true := by simpa using h48
        have hE2 : digsV s (s.size + 1) (a + 1) = E := by rw [← hE]; unfold numEnd; rw [if_neg h48]
        have HE2 : Hid _ := hE2
        clear hE2 hE h48
        go_enter Tryz.func72, Tryz.ntmps72
        go_wp2_with (first
          | (go_at_call 28; refine (nextV_ok (by first | exact h0 | exact h0.drewN _)).mono ?_; rintro e w1 ⟨rfl, m, rfl⟩)
          | (go_at_call 71; refine (vIsDigit_any _ _).mono ?_; rintro e w1 ⟨rfl, hw⟩; subst w1; rw [hd']))
        go_loopg [41] (s.size + 1) (fun k v wr => ∃ j : Nat, j ≤ s.size ∧ s.size + 1 ≤ j + k ∧ VBlk wr vb s j ov ∧ Fr (· = vb) w wr ∧ digsV s k j = E)
        case atStart => exact ⟨a + 1, by omega, by omega, (h.drewN _).set (b := a + 1), ((Fr.refl (· = vb) w).drewN _).setCell _ (.inl rfl), HE2.out⟩
        case round =>
          obtain ⟨j, hj1, hj2, hv, hfr, hj3⟩ := hrel
          obtain ⟨v0, v1, v2, g0, g1, g2, vl⟩ := three_facts' hv
          have hvA := hv.va hj1 hm
          match gk, hj2, hj3 with
          | 0, hj2, hj3 => omega
          | k + 1, hj2, hj3 =>
            rw [digsV] at hj3
            cases hdj : digB (byteAt s j) with
            | true =>
              have hdj' : (decide (48 ≤ byteAt s j) && decide (byteAt s j ≤ 57)) = true := hdj
              have hjl := dig_lt hdj
              simp only [hdj, if_true] at hj3
              have HJ : Hid _ := hj3
              clear hj3 hdj
              go_wp2_with (first
                | (go_at_call 28; refine (nextV_ok hvA).mono ?_; rintro e w1 ⟨rfl, m, rfl⟩)
                | (go_at_call 71; refine (vIsDigit_any _ _).mono ?_; rintro e w1 ⟨rfl, hw⟩; subst w1; rw [hdj']))
              go_roundg k
              case measure => omega
              case rel => exact ⟨j + 1, by omega, by omega, (hv.drewN _).set, (hfr.drewN _).setCell _ (.inl rfl), HJ.out⟩
            | false =>
              have hdj' : (decide (48 ≤ byteAt s j) && decide (byteAt s j ≤ 57)) = false := hdj
              simp only [hdj, if_false] at hj3
              obtain rfl : j = E := by simpa using hj3
              clear hj3 hdj
              go_wp2_with (first
                | (go_at_call 28; refine (nextV_ok hvA).mono ?_; rintro e w1 ⟨rfl, m, rfl⟩)
                | (go_at_call 71; refine (vIsDigit_any _ _).mono ?_; rintro e w1 ⟨rfl, hw⟩; subst w1; rw [hdj']))
              have hbb : Below vb w0 wr := hfr.lowN (fun _ e => by omega) hb (by omega)
              cases O with
              | some n =>
                go_region_held3 (fun w' => w'.cell? ⟨vb, 0, none⟩ = some (.string s) ∧ w'.cell? ⟨vb, 1, none⟩ = some (.int .i64 j) ∧ w'.frozen? ⟨vb, 1, none⟩ = false) (first | exact e4 | go_keep)
                  (first | (go_at_call 130; refine (hP _ (by first | exact hbb | exact hbb.trans (belowD _ _ _) | exact (hbb.trans (belowD _ _ _)).trans (belowD _ _ _)) _ hes).mono ?_; rw [HO.out]; rintro e w1 ⟨rfl, k1⟩; have e4 : w1.cell? ⟨vb, 0, none⟩ = some (.string s) ∧ w1.cell? ⟨vb, 1, none⟩ = some (.int .i64 j) ∧ w1.frozen? ⟨vb, 1, none⟩ = false := ⟨(k1.cell (p := ⟨vb, 0, none⟩) (by simpa using vl)).trans (by simpa using v0), (k1.cell (p := ⟨vb, 1, none⟩) (by simpa using vl)).trans (by simpa using v1), (World.frozen?_of_block (k1.block vb (by simpa using vl))).trans (by simpa using g1)⟩))
                go_wp2_with fail
                refine bodyPost_ret (v := .tuple #[numV n, .bool true]) (by simp [results, Tryz.results72, go_sem]) rfl ?_
                rw [← HR.out, HR2.out]
                exact ⟨rfl, hv.same (k1.block _ (by simpa using vl)), (hfr.drewN _).trans (Fr.of_below (D := (· = vb)) k1) (fun _ _ e => e)⟩
              | none =>
                go_region_held3 (fun w' => w'.cell? ⟨vb, 0, none⟩ = some (.string s) ∧ w'.cell? ⟨vb, 1, none⟩ = some (.int .i64 j) ∧ w'.frozen? ⟨vb, 1, none⟩ = false) (first | exact e4 | go_keep)
                  (first | (go_at_call 130; refine (hP _ (by first | exact hbb | exact hbb.trans (belowD _ _ _) | exact (hbb.trans (belowD _ _ _)).trans (belowD _ _ _)) _ hes).mono ?_; rw [HO.out]; rintro e w1 ⟨⟨x, T, pp, rfl⟩, k1⟩; have e4 : w1.cell? ⟨vb, 0, none⟩ = some (.string s) ∧ w1.cell? ⟨vb, 1, none⟩ = some (.int .i64 j) ∧ w1.frozen? ⟨vb, 1, none⟩ = false := ⟨(k1.cell (p := ⟨vb, 0, none⟩) (by simpa using vl)).trans (by simpa using v0), (k1.cell (p := ⟨vb, 1, none⟩) (by simpa using vl)).trans (by simpa using v1), (World.frozen?_of_block (k1.block vb (by simpa using vl))).trans (by simpa using g1)⟩))
                go_wp2_with fail
                refine bodyPost_ret (v := .tuple #[.nilIface, .bool false]) (by simp [results, Tryz.results72, go_sem]) rfl ?_
                rw [← HR.out, HR2.out]
                exact ⟨rfl, (hv.same (k1.block _ (by simpa using vl))).set, ((hfr.drewN _).trans (Fr.of_below (D := (· = vb)) k1) (fun _ _ e => e)).setCell _ (.inl rfl)⟩
end Go.Proofs.Tryz

