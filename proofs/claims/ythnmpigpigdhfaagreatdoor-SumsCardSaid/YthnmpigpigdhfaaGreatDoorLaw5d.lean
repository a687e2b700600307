import Derived.Test.YthnmpigpigdhfaaGreatDoorLaw4
set_option linter.all false
namespace Go.Proofs.Tryz
open Go.RowKit
set_option maxRecDepth 10000

set_option maxHeartbeats 8000000 in
theorem sumsS1W0pn (S : Shelf) {w : World} (hE : Laid w) {a b : Int} (ha : inI64 a) (hb : inI64 b) (H1 : Hid (0 ≤ a)) (H2 : Hid (¬ (0 ≤ b))) (H3 : Hid (¬ (b = 0))) (H4 : Hid (a ≠ 0)) (H5 : Hid (wrap64 ((wrap64 (a * b)).tdiv a) ≠ b)) (H9 : Hid (¬ (a = -9223372036854775808))) :
    Calls Tryz.prog 3 #[.int .i64 a, .int .i64 b] w fun e w' => e = .returned (.bool true) ∧ Below w.heap.size w w' := by
  have f1 : decide (0 ≤ a) = true := by have := H1.out; first | exact decide_eq_true this | exact decide_eq_false this | simpa using this
  have f2 : decide (0 ≤ b) = false := by have := H2.out; first | exact decide_eq_true this | exact decide_eq_false this | simpa using this
  have f3 : (b == 0) = false := by have := H3.out; first | exact decide_eq_true this | exact decide_eq_false this | simpa using this
  have f4 : (a != 0) = true := by have := H4.out; first | exact decide_eq_true this | exact decide_eq_false this | simpa using this
  have f5 : (wrap64 ((wrap64 (a * b)).tdiv a) != b) = true := by have := H5.out; first | exact decide_eq_true this | exact decide_eq_false this | simpa using this
  have f9 : (a == -9223372036854775808) = false := by have := H9.out; first | exact decide_eq_true this | exact decide_eq_false this | simpa using this
  have h3 : ¬ b = 0 := H3.out
  have h4 : ¬ a = 0 := H4.out
  have tA := fun w' (k : Below w.heap.size w w') => itoa2 S ha (hE.below k)
  have tB := fun w' (k : Below w.heap.size w w') => itoa2 S hb (hE.below k)
  have tP := fun w' s ov (k : Below w.heap.size w w') hs hm => plus_ok S (hE.below k) (s := s) (ov := ov) ha hb hs hm
  have tM := fun w' s ov (k : Below w.heap.size w w') hs hm => minus_ok S (hE.below k) (s := s) (ov := ov) ha hb hs hm
  have tT := fun w' s ov (k : Below w.heap.size w w') hs hm => times_ok S (hE.below k) (s := s) (ov := ov) ha hb hs hm
  have tD := fun w' s ov (k : Below w.heap.size w w') hs hm => div_ok S (hE.below k) (s := s) (ov := ov) ha hb h3 hs hm
  have tR : ∀ w' s x, Below w.heap.size w w' → s.data.toList = pairB a b → s.size ≤ 100000 → x = a.tmod b → Calls Tryz.prog 5 #[.string ⟨#[37]⟩, .string s, .int .i64 x, .bool false] w' fun e w'' => e = .returned (.bool true) ∧ Below w'.heap.size w' w'' := fun w' s x k hs hm hx => hx ▸ rest_ok S (hE.below k) (s := s) ha hb h3 hs hm
  have tO := fun w' s y0 y1 y2 y3 y4 c0 c1 c2 c3 c4 (k : Below w.heap.size w w') hs hm => order2 S (hE.below k) (s := s) (y0 := y0) (y1 := y1) (y2 := y2) (y3 := y3) (y4 := y4) (c0 := c0) (c1 := c1) (c2 := c2) (c3 := c3) (c4 := c4) ha hb hs hm
  have v0 := yes2
  have v1 := yes2
  have v2 := yes2
  have v3 := yes2
  have v4 := yes2
  go_enter Tryz.func3, Tryz.ntmps3
  go_wp2_with (first
    | (go_at_call 4; refine (tA _ (Below.refl _ _)).mono ?_; clear tA; rintro e w1 ⟨sa, rfl, hsa, hla, k1⟩; have n1 : ¬ 9223372036854775807 < 1 + sa.size := (by omega); have n2 : ¬ 9223372036854775807 < 1 + sa.size + 1 := (by omega))
    | (go_at_call 4; refine (tB _ k1).mono ?_; clear tB; rintro e w2 ⟨sb, rfl, hsb, hlb, k2'⟩; have k2 := k1.trans (k2'.mono k1.size); have n3 : ¬ 9223372036854775807 < 1 + sa.size + 1 + sb.size := (by omega); have n4 : ¬ 9223372036854775807 < 1 + sa.size + 1 + sb.size + 1 := (by omega))
    | (go_at_call 5; refine (tP _ _ _ k2 (pair_list hsa hsb) (pair_size hla hlb) (by have q1 := H1.out; have q2 := H2.out; have q3 := H3.out; have q4 := H4.out; have q5 := H5.out; have q9 := H9.out; first | (simp; done) | (simp; omega) | omega)).mono ?_; clear tP; rintro e w3 ⟨rfl, k3'⟩; have k3 := k2.trans (k3'.mono k2.size))
    | (go_at_call 5; refine (tM _ _ _ k3 (pair_list hsa hsb) (pair_size hla hlb) (by have q1 := H1.out; have q2 := H2.out; have q3 := H3.out; have q4 := H4.out; have q5 := H5.out; have q9 := H9.out; first | (simp; done) | (simp; omega) | omega)).mono ?_; clear tM; rintro e w4 ⟨rfl, k4'⟩; have k4 := k3.trans (k4'.mono k3.size))
    | (go_at_call 5; refine (tT _ _ _ k4 (pair_list hsa hsb) (pair_size hla hlb) (by have q1 := H1.out; have q2 := H2.out; have q3 := H3.out; have q4 := H4.out; have q5 := H5.out; have q9 := H9.out; first | (simp; done) | (simp; omega) | omega)).mono ?_; clear tT; rintro e w5 ⟨rfl, k5'⟩; have k5 := k4.trans (k5'.mono k4.size))
    | (go_at_call 5; refine (tD _ _ _ k5 (pair_list hsa hsb) (pair_size hla hlb) (by have q1 := H1.out; have q2 := H2.out; have q3 := H3.out; have q4 := H4.out; have q5 := H5.out; have q9 := H9.out; first | (simp; done) | (simp; omega) | omega)).mono ?_; clear tD; rintro e w6 ⟨rfl, k6'⟩; have k6 := k5.trans (k6'.mono k5.size))
    | (go_at_call 5; refine (tR _ _ _ k6 (pair_list hsa hsb) (pair_size hla hlb) (by rfl)).mono ?_; clear tR; rintro e w7 ⟨rfl, k7'⟩; have k7 := k6.trans (k7'.mono k6.size))
    | (go_at_call 7; refine (v0 _ _).mono ?_; clear v0; rintro e w8 ⟨y0, rfl, e0, l0, hw⟩; subst hw; have E0 : Hid _ := e0; clear e0; have p0 : ¬ 9223372036854775807 < 1 + y0.size := (by omega); have r0 : ¬ 9223372036854775807 < 1 + y0.size + 1 := (by omega))
    | (go_at_call 7; refine (v1 _ _).mono ?_; clear v1; rintro e w8 ⟨y1, rfl, e1, l1, hw⟩; subst hw; have E1 : Hid _ := e1; clear e1; have p1 : ¬ 9223372036854775807 < 1 + y0.size + 1 + y1.size := (by omega); have r1 : ¬ 9223372036854775807 < 1 + y0.size + 1 + y1.size + 1 := (by omega))
    | (go_at_call 7; refine (v2 _ _).mono ?_; clear v2; rintro e w8 ⟨y2, rfl, e2, l2, hw⟩; subst hw; have E2 : Hid _ := e2; clear e2; have p2 : ¬ 9223372036854775807 < 1 + y0.size + 1 + y1.size + 1 + y2.size := (by omega); have r2 : ¬ 9223372036854775807 < 1 + y0.size + 1 + y1.size + 1 + y2.size + 1 := (by omega))
    | (go_at_call 7; refine (v3 _ _).mono ?_; clear v3; rintro e w8 ⟨y3, rfl, e3, l3, hw⟩; subst hw; have E3 : Hid _ := e3; clear e3; have p3 : ¬ 9223372036854775807 < 1 + y0.size + 1 + y1.size + 1 + y2.size + 1 + y3.size := (by omega); have r3 : ¬ 9223372036854775807 < 1 + y0.size + 1 + y1.size + 1 + y2.size + 1 + y3.size + 1 := (by omega))
    | (go_at_call 7; refine (v4 _ _).mono ?_; clear v4; rintro e w8 ⟨y4, rfl, e4, l4, hw⟩; subst hw; have E4 : Hid _ := e4; clear e4; have p4 : ¬ 9223372036854775807 < 1 + y0.size + 1 + y1.size + 1 + y2.size + 1 + y3.size + 1 + y4.size := (by omega); have r4 : ¬ 9223372036854775807 < 1 + y0.size + 1 + y1.size + 1 + y2.size + 1 + y3.size + 1 + y4.size + 1 := (by omega))
    | (go_at_call 8; refine (tO _ _ _ _ _ _ _ _ _ _ _ _ k7 (pair_list hsa hsb) (pair_size hla hlb) E0.out E1.out E2.out E3.out E4.out (by have q1 := H1.out; have q2 := H2.out; have q3 := H3.out; have q4 := H4.out; have q5 := H5.out; have q9 := H9.out; first | (simp; done) | (simp; omega) | omega) (by have q1 := H1.out; have q2 := H2.out; have q3 := H3.out; have q4 := H4.out; have q5 := H5.out; have q9 := H9.out; first | (simp; done) | (simp; omega) | omega) (by have q1 := H1.out; have q2 := H2.out; have q3 := H3.out; have q4 := H4.out; have q5 := H5.out; have q9 := H9.out; first | (simp; done) | (simp; omega) | omega) (by have q1 := H1.out; have q2 := H2.out; have q3 := H3.out; have q4 := H4.out; have q5 := H5.out; have q9 := H9.out; first | (simp; done) | (simp; omega) | omega) (by have q1 := H1.out; have q2 := H2.out; have q3 := H3.out; have q4 := H4.out; have q5 := H5.out; have q9 := H9.out; first | (simp; done) | (simp; omega) | omega)).mono ?_; clear tO; rintro e w9 ⟨rfl, k9'⟩; have k9 := k7.trans (k9'.mono k7.size)))
  go_ret
  exact ⟨rfl, k9⟩

set_option maxHeartbeats 8000000 in
theorem sumsS1W2nn (S : Shelf) {w : World} (hE : Laid w) {a b : Int} (ha : inI64 a) (hb : inI64 b) (H1 : Hid (¬ (0 ≤ a))) (H2 : Hid (¬ (0 ≤ b))) (H3 : Hid (¬ (b = 0))) (H4 : Hid (a ≠ 0)) (H5 : Hid (wrap64 ((wrap64 (a * b)).tdiv a) ≠ b)) (H9 : Hid (a = -9223372036854775808)) (H10 : Hid (b = -1)) :
    Calls Tryz.prog 3 #[.int .i64 a, .int .i64 b] w fun e w' => e = .returned (.bool true) ∧ Below w.heap.size w w' := by
  have f1 : decide (0 ≤ a) = false := by have := H1.out; first | exact decide_eq_true this | exact decide_eq_false this | simpa using this
  have f2 : decide (0 ≤ b) = false := by have := H2.out; first | exact decide_eq_true this | exact decide_eq_false this | simpa using this
  have f3 : (b == 0) = false := by have := H3.out; first | exact decide_eq_true this | exact decide_eq_false this | simpa using this
  have f4 : (a != 0) = true := by have := H4.out; first | exact decide_eq_true this | exact decide_eq_false this | simpa using this
  have f5 : (wrap64 ((wrap64 (a * b)).tdiv a) != b) = true := by have := H5.out; first | exact decide_eq_true this | exact decide_eq_false this | simpa using this
  have f9 : (a == -9223372036854775808) = true := by have := H9.out; first | exact decide_eq_true this | exact decide_eq_false this | simpa using this
  have f10 : (b == -1) = true := by have := H10.out; first | exact decide_eq_true this | exact decide_eq_false this | simpa using this
  have h3 : ¬ b = 0 := H3.out
  have h4 : ¬ a = 0 := H4.out
  have tA := fun w' (k : Below w.heap.size w w') => itoa2 S ha (hE.below k)
  have tB := fun w' (k : Below w.heap.size w w') => itoa2 S hb (hE.below k)
  have tP := fun w' s ov (k : Below w.heap.size w w') hs hm => plus_ok S (hE.below k) (s := s) (ov := ov) ha hb hs hm
  have tM := fun w' s ov (k : Below w.heap.size w w') hs hm => minus_ok S (hE.below k) (s := s) (ov := ov) ha hb hs hm
  have tT := fun w' s ov (k : Below w.heap.size w w') hs hm => times_ok S (hE.below k) (s := s) (ov := ov) ha hb hs hm
  have tD := fun w' s ov (k : Below w.heap.size w w') hs hm => div_ok S (hE.below k) (s := s) (ov := ov) ha hb h3 hs hm
  have tR : ∀ w' s x, Below w.heap.size w w' → s.data.toList = pairB a b → s.size ≤ 100000 → x = a.tmod b → Calls Tryz.prog 5 #[.string ⟨#[37]⟩, .string s, .int .i64 x, .bool false] w' fun e w'' => e = .returned (.bool true) ∧ Below w'.heap.size w' w'' := fun w' s x k hs hm hx => hx ▸ rest_ok S (hE.below k) (s := s) ha hb h3 hs hm
  have tO := fun w' s y0 y1 y2 y3 y4 c0 c1 c2 c3 c4 (k : Below w.heap.size w w') hs hm => order2 S (hE.below k) (s := s) (y0 := y0) (y1 := y1) (y2 := y2) (y3 := y3) (y4 := y4) (c0 := c0) (c1 := c1) (c2 := c2) (c3 := c3) (c4 := c4) ha hb hs hm
  have v0 := yes2
  have v1 := yes2
  have v2 := yes2
  have v3 := yes2
  have v4 := yes2
  go_enter Tryz.func3, Tryz.ntmps3
  go_wp2_with (first
    | (go_at_call 4; refine (tA _ (Below.refl _ _)).mono ?_; clear tA; rintro e w1 ⟨sa, rfl, hsa, hla, k1⟩; have n1 : ¬ 9223372036854775807 < 1 + sa.size := (by omega); have n2 : ¬ 9223372036854775807 < 1 + sa.size + 1 := (by omega))
    | (go_at_call 4; refine (tB _ k1).mono ?_; clear tB; rintro e w2 ⟨sb, rfl, hsb, hlb, k2'⟩; have k2 := k1.trans (k2'.mono k1.size); have n3 : ¬ 9223372036854775807 < 1 + sa.size + 1 + sb.size := (by omega); have n4 : ¬ 9223372036854775807 < 1 + sa.size + 1 + sb.size + 1 := (by omega))
    | (go_at_call 5; refine (tP _ _ _ k2 (pair_list hsa hsb) (pair_size hla hlb) (by have q1 := H1.out; have q2 := H2.out; have q3 := H3.out; have q4 := H4.out; have q5 := H5.out; have q9 := H9.out; have q10 := H10.out; first | (simp; done) | (simp; omega) | omega)).mono ?_; clear tP; rintro e w3 ⟨rfl, k3'⟩; have k3 := k2.trans (k3'.mono k2.size))
    | (go_at_call 5; refine (tM _ _ _ k3 (pair_list hsa hsb) (pair_size hla hlb) (by have q1 := H1.out; have q2 := H2.out; have q3 := H3.out; have q4 := H4.out; have q5 := H5.out; have q9 := H9.out; have q10 := H10.out; first | (simp; done) | (simp; omega) | omega)).mono ?_; clear tM; rintro e w4 ⟨rfl, k4'⟩; have k4 := k3.trans (k4'.mono k3.size))
    | (go_at_call 5; refine (tT _ _ _ k4 (pair_list hsa hsb) (pair_size hla hlb) (by have q1 := H1.out; have q2 := H2.out; have q3 := H3.out; have q4 := H4.out; have q5 := H5.out; have q9 := H9.out; have q10 := H10.out; first | (simp; done) | (simp; omega) | omega)).mono ?_; clear tT; rintro e w5 ⟨rfl, k5'⟩; have k5 := k4.trans (k5'.mono k4.size))
    | (go_at_call 5; refine (tD _ _ _ k5 (pair_list hsa hsb) (pair_size hla hlb) (by have q1 := H1.out; have q2 := H2.out; have q3 := H3.out; have q4 := H4.out; have q5 := H5.out; have q9 := H9.out; have q10 := H10.out; first | (simp; done) | (simp; omega) | omega)).mono ?_; clear tD; rintro e w6 ⟨rfl, k6'⟩; have k6 := k5.trans (k6'.mono k5.size))
    | (go_at_call 5; refine (tR _ _ _ k6 (pair_list hsa hsb) (pair_size hla hlb) (by rfl)).mono ?_; clear tR; rintro e w7 ⟨rfl, k7'⟩; have k7 := k6.trans (k7'.mono k6.size))
    | (go_at_call 7; refine (v0 _ _).mono ?_; clear v0; rintro e w8 ⟨y0, rfl, e0, l0, hw⟩; subst hw; have E0 : Hid _ := e0; clear e0; have p0 : ¬ 9223372036854775807 < 1 + y0.size := (by omega); have r0 : ¬ 9223372036854775807 < 1 + y0.size + 1 := (by omega))
    | (go_at_call 7; refine (v1 _ _).mono ?_; clear v1; rintro e w8 ⟨y1, rfl, e1, l1, hw⟩; subst hw; have E1 : Hid _ := e1; clear e1; have p1 : ¬ 9223372036854775807 < 1 + y0.size + 1 + y1.size := (by omega); have r1 : ¬ 9223372036854775807 < 1 + y0.size + 1 + y1.size + 1 := (by omega))
    | (go_at_call 7; refine (v2 _ _).mono ?_; clear v2; rintro e w8 ⟨y2, rfl, e2, l2, hw⟩; subst hw; have E2 : Hid _ := e2; clear e2; have p2 : ¬ 9223372036854775807 < 1 + y0.size + 1 + y1.size + 1 + y2.size := (by omega); have r2 : ¬ 9223372036854775807 < 1 + y0.size + 1 + y1.size + 1 + y2.size + 1 := (by omega))
    | (go_at_call 7; refine (v3 _ _).mono ?_; clear v3; rintro e w8 ⟨y3, rfl, e3, l3, hw⟩; subst hw; have E3 : Hid _ := e3; clear e3; have p3 : ¬ 9223372036854775807 < 1 + y0.size + 1 + y1.size + 1 + y2.size + 1 + y3.size := (by omega); have r3 : ¬ 9223372036854775807 < 1 + y0.size + 1 + y1.size + 1 + y2.size + 1 + y3.size + 1 := (by omega))
    | (go_at_call 7; refine (v4 _ _).mono ?_; clear v4; rintro e w8 ⟨y4, rfl, e4, l4, hw⟩; subst hw; have E4 : Hid _ := e4; clear e4; have p4 : ¬ 9223372036854775807 < 1 + y0.size + 1 + y1.size + 1 + y2.size + 1 + y3.size + 1 + y4.size := (by omega); have r4 : ¬ 9223372036854775807 < 1 + y0.size + 1 + y1.size + 1 + y2.size + 1 + y3.size + 1 + y4.size + 1 := (by omega))
    | (go_at_call 8; refine (tO _ _ _ _ _ _ _ _ _ _ _ _ k7 (pair_list hsa hsb) (pair_size hla hlb) E0.out E1.out E2.out E3.out E4.out (by have q1 := H1.out; have q2 := H2.out; have q3 := H3.out; have q4 := H4.out; have q5 := H5.out; have q9 := H9.out; have q10 := H10.out; first | (simp; done) | (simp; omega) | omega) (by have q1 := H1.out; have q2 := H2.out; have q3 := H3.out; have q4 := H4.out; have q5 := H5.out; have q9 := H9.out; have q10 := H10.out; first | (simp; done) | (simp; omega) | omega) (by have q1 := H1.out; have q2 := H2.out; have q3 := H3.out; have q4 := H4.out; have q5 := H5.out; have q9 := H9.out; have q10 := H10.out; first | (simp; done) | (simp; omega) | omega) (by have q1 := H1.out; have q2 := H2.out; have q3 := H3.out; have q4 := H4.out; have q5 := H5.out; have q9 := H9.out; have q10 := H10.out; first | (simp; done) | (simp; omega) | omega) (by have q1 := H1.out; have q2 := H2.out; have q3 := H3.out; have q4 := H4.out; have q5 := H5.out; have q9 := H9.out; have q10 := H10.out; first | (simp; done) | (simp; omega) | omega)).mono ?_; clear tO; rintro e w9 ⟨rfl, k9'⟩; have k9 := k7.trans (k9'.mono k7.size)))
  go_ret
  exact ⟨rfl, k9⟩

set_option maxHeartbeats 8000000 in
theorem sumsS2W1np (S : Shelf) {w : World} (hE : Laid w) {a b : Int} (ha : inI64 a) (hb : inI64 b) (H1 : Hid (¬ (0 ≤ a))) (H2 : Hid (0 ≤ b)) (H3 : Hid (¬ (b = 0))) (H4 : Hid (a ≠ 0)) (H5 : Hid (¬ (wrap64 ((wrap64 (a * b)).tdiv a) ≠ b))) (H7 : Hid (¬ (a = -1))) (H9 : Hid (a = -9223372036854775808)) (H10 : Hid (¬ (b = -1))) :
    Calls Tryz.prog 3 #[.int .i64 a, .int .i64 b] w fun e w' => e = .returned (.bool true) ∧ Below w.heap.size w w' := by
  have f1 : decide (0 ≤ a) = false := by have := H1.out; first | exact decide_eq_true this | exact decide_eq_false this | simpa using this
  have f2 : decide (0 ≤ b) = true := by have := H2.out; first | exact decide_eq_true this | exact decide_eq_false this | simpa using this
  have f3 : (b == 0) = false := by have := H3.out; first | exact decide_eq_true this | exact decide_eq_false this | simpa using this
  have f4 : (a != 0) = true := by have := H4.out; first | exact decide_eq_true this | exact decide_eq_false this | simpa using this
  have f5 : (wrap64 ((wrap64 (a * b)).tdiv a) != b) = false := by have := H5.out; first | exact decide_eq_true this | exact decide_eq_false this | simpa using this
  have f7 : (a == -1) = false := by have := H7.out; first | exact decide_eq_true this | exact decide_eq_false this | simpa using this
  have f9 : (a == -9223372036854775808) = true := by have := H9.out; first | exact decide_eq_true this | exact decide_eq_false this | simpa using this
  have f10 : (b == -1) = false := by have := H10.out; first | exact decide_eq_true this | exact decide_eq_false this | simpa using this
  have h3 : ¬ b = 0 := H3.out
  have h4 : ¬ a = 0 := H4.out
  have tA := fun w' (k : Below w.heap.size w w') => itoa2 S ha (hE.below k)
  have tB := fun w' (k : Below w.heap.size w w') => itoa2 S hb (hE.below k)
  have tP := fun w' s ov (k : Below w.heap.size w w') hs hm => plus_ok S (hE.below k) (s := s) (ov := ov) ha hb hs hm
  have tM := fun w' s ov (k : Below w.heap.size w w') hs hm => minus_ok S (hE.below k) (s := s) (ov := ov) ha hb hs hm
  have tT := fun w' s ov (k : Below w.heap.size w w') hs hm => times_ok S (hE.below k) (s := s) (ov := ov) ha hb hs hm
  have tD := fun w' s ov (k : Below w.heap.size w w') hs hm => div_ok S (hE.below k) (s := s) (ov := ov) ha hb h3 hs hm
  have tR : ∀ w' s x, Below w.heap.size w w' → s.data.toList = pairB a b → s.size ≤ 100000 → x = a.tmod b → Calls Tryz.prog 5 #[.string ⟨#[37]⟩, .string s, .int .i64 x, .bool false] w' fun e w'' => e = .returned (.bool true) ∧ Below w'.heap.size w' w'' := fun w' s x k hs hm hx => hx ▸ rest_ok S (hE.below k) (s := s) ha hb h3 hs hm
  have tO := fun w' s y0 y1 y2 y3 y4 c0 c1 c2 c3 c4 (k : Below w.heap.size w w') hs hm => order2 S (hE.below k) (s := s) (y0 := y0) (y1 := y1) (y2 := y2) (y3 := y3) (y4 := y4) (c0 := c0) (c1 := c1) (c2 := c2) (c3 := c3) (c4 := c4) ha hb hs hm
  have v0 := yes2
  have v1 := yes2
  have v2 := yes2
  have v3 := yes2
  have v4 := yes2
  go_enter Tryz.func3, Tryz.ntmps3
  go_wp2_with (first
    | (go_at_call 4; refine (tA _ (Below.refl _ _)).mono ?_; clear tA; rintro e w1 ⟨sa, rfl, hsa, hla, k1⟩; have n1 : ¬ 9223372036854775807 < 1 + sa.size := (by omega); have n2 : ¬ 9223372036854775807 < 1 + sa.size + 1 := (by omega))
    | (go_at_call 4; refine (tB _ k1).mono ?_; clear tB; rintro e w2 ⟨sb, rfl, hsb, hlb, k2'⟩; have k2 := k1.trans (k2'.mono k1.size); have n3 : ¬ 9223372036854775807 < 1 + sa.size + 1 + sb.size := (by omega); have n4 : ¬ 9223372036854775807 < 1 + sa.size + 1 + sb.size + 1 := (by omega))
    | (go_at_call 5; refine (tP _ _ _ k2 (pair_list hsa hsb) (pair_size hla hlb) (by have q1 := H1.out; have q2 := H2.out; have q3 := H3.out; have q4 := H4.out; have q5 := H5.out; have q7 := H7.out; have q9 := H9.out; have q10 := H10.out; first | (simp; done) | (simp; omega) | omega)).mono ?_; clear tP; rintro e w3 ⟨rfl, k3'⟩; have k3 := k2.trans (k3'.mono k2.size))
    | (go_at_call 5; refine (tM _ _ _ k3 (pair_list hsa hsb) (pair_size hla hlb) (by have q1 := H1.out; have q2 := H2.out; have q3 := H3.out; have q4 := H4.out; have q5 := H5.out; have q7 := H7.out; have q9 := H9.out; have q10 := H10.out; first | (simp; done) | (simp; omega) | omega)).mono ?_; clear tM; rintro e w4 ⟨rfl, k4'⟩; have k4 := k3.trans (k4'.mono k3.size))
    | (go_at_call 5; refine (tT _ _ _ k4 (pair_list hsa hsb) (pair_size hla hlb) (by have q1 := H1.out; have q2 := H2.out; have q3 := H3.out; have q4 := H4.out; have q5 := H5.out; have q7 := H7.out; have q9 := H9.out; have q10 := H10.out; first | (simp; done) | (simp; omega) | omega)).mono ?_; clear tT; rintro e w5 ⟨rfl, k5'⟩; have k5 := k4.trans (k5'.mono k4.size))
    | (go_at_call 5; refine (tD _ _ _ k5 (pair_list hsa hsb) (pair_size hla hlb) (by have q1 := H1.out; have q2 := H2.out; have q3 := H3.out; have q4 := H4.out; have q5 := H5.out; have q7 := H7.out; have q9 := H9.out; have q10 := H10.out; first | (simp; done) | (simp; omega) | omega)).mono ?_; clear tD; rintro e w6 ⟨rfl, k6'⟩; have k6 := k5.trans (k6'.mono k5.size))
    | (go_at_call 5; refine (tR _ _ _ k6 (pair_list hsa hsb) (pair_size hla hlb) (by rfl)).mono ?_; clear tR; rintro e w7 ⟨rfl, k7'⟩; have k7 := k6.trans (k7'.mono k6.size))
    | (go_at_call 7; refine (v0 _ _).mono ?_; clear v0; rintro e w8 ⟨y0, rfl, e0, l0, hw⟩; subst hw; have E0 : Hid _ := e0; clear e0; have p0 : ¬ 9223372036854775807 < 1 + y0.size := (by omega); have r0 : ¬ 9223372036854775807 < 1 + y0.size + 1 := (by omega))
    | (go_at_call 7; refine (v1 _ _).mono ?_; clear v1; rintro e w8 ⟨y1, rfl, e1, l1, hw⟩; subst hw; have E1 : Hid _ := e1; clear e1; have p1 : ¬ 9223372036854775807 < 1 + y0.size + 1 + y1.size := (by omega); have r1 : ¬ 9223372036854775807 < 1 + y0.size + 1 + y1.size + 1 := (by omega))
    | (go_at_call 7; refine (v2 _ _).mono ?_; clear v2; rintro e w8 ⟨y2, rfl, e2, l2, hw⟩; subst hw; have E2 : Hid _ := e2; clear e2; have p2 : ¬ 9223372036854775807 < 1 + y0.size + 1 + y1.size + 1 + y2.size := (by omega); have r2 : ¬ 9223372036854775807 < 1 + y0.size + 1 + y1.size + 1 + y2.size + 1 := (by omega))
    | (go_at_call 7; refine (v3 _ _).mono ?_; clear v3; rintro e w8 ⟨y3, rfl, e3, l3, hw⟩; subst hw; have E3 : Hid _ := e3; clear e3; have p3 : ¬ 9223372036854775807 < 1 + y0.size + 1 + y1.size + 1 + y2.size + 1 + y3.size := (by omega); have r3 : ¬ 9223372036854775807 < 1 + y0.size + 1 + y1.size + 1 + y2.size + 1 + y3.size + 1 := (by omega))
    | (go_at_call 7; refine (v4 _ _).mono ?_; clear v4; rintro e w8 ⟨y4, rfl, e4, l4, hw⟩; subst hw; have E4 : Hid _ := e4; clear e4; have p4 : ¬ 9223372036854775807 < 1 + y0.size + 1 + y1.size + 1 + y2.size + 1 + y3.size + 1 + y4.size := (by omega); have r4 : ¬ 9223372036854775807 < 1 + y0.size + 1 + y1.size + 1 + y2.size + 1 + y3.size + 1 + y4.size + 1 := (by omega))
    | (go_at_call 8; refine (tO _ _ _ _ _ _ _ _ _ _ _ _ k7 (pair_list hsa hsb) (pair_size hla hlb) E0.out E1.out E2.out E3.out E4.out (by have q1 := H1.out; have q2 := H2.out; have q3 := H3.out; have q4 := H4.out; have q5 := H5.out; have q7 := H7.out; have q9 := H9.out; have q10 := H10.out; first | (simp; done) | (simp; omega) | omega) (by have q1 := H1.out; have q2 := H2.out; have q3 := H3.out; have q4 := H4.out; have q5 := H5.out; have q7 := H7.out; have q9 := H9.out; have q10 := H10.out; first | (simp; done) | (simp; omega) | omega) (by have q1 := H1.out; have q2 := H2.out; have q3 := H3.out; have q4 := H4.out; have q5 := H5.out; have q7 := H7.out; have q9 := H9.out; have q10 := H10.out; first | (simp; done) | (simp; omega) | omega) (by have q1 := H1.out; have q2 := H2.out; have q3 := H3.out; have q4 := H4.out; have q5 := H5.out; have q7 := H7.out; have q9 := H9.out; have q10 := H10.out; first | (simp; done) | (simp; omega) | omega) (by have q1 := H1.out; have q2 := H2.out; have q3 := H3.out; have q4 := H4.out; have q5 := H5.out; have q7 := H7.out; have q9 := H9.out; have q10 := H10.out; first | (simp; done) | (simp; omega) | omega)).mono ?_; clear tO; rintro e w9 ⟨rfl, k9'⟩; have k9 := k7.trans (k9'.mono k7.size)))
  go_ret
  exact ⟨rfl, k9⟩

set_option maxHeartbeats 8000000 in
theorem sumsS4W0nn (S : Shelf) {w : World} (hE : Laid w) {a b : Int} (ha : inI64 a) (hb : inI64 b) (H1 : Hid (¬ (0 ≤ a))) (H2 : Hid (¬ (0 ≤ b))) (H3 : Hid (¬ (b = 0))) (H4 : Hid (a ≠ 0)) (H5 : Hid (¬ (wrap64 ((wrap64 (a * b)).tdiv a) ≠ b))) (H7 : Hid (a = -1)) (H8 : Hid (b = -9223372036854775808)) (H9 : Hid (¬ (a = -9223372036854775808))) :
    Calls Tryz.prog 3 #[.int .i64 a, .int .i64 b] w fun e w' => e = .returned (.bool true) ∧ Below w.heap.size w w' := by
  have f1 : decide (0 ≤ a) = false := by have := H1.out; first | exact decide_eq_true this | exact decide_eq_false this | simpa using this
  have f2 : decide (0 ≤ b) = false := by have := H2.out; first | exact decide_eq_true this | exact decide_eq_false this | simpa using this
  have f3 : (b == 0) = false := by have := H3.out; first | exact decide_eq_true this | exact decide_eq_false this | simpa using this
  have f4 : (a != 0) = true := by have := H4.out; first | exact decide_eq_true this | exact decide_eq_false this | simpa using this
  have f5 : (wrap64 ((wrap64 (a * b)).tdiv a) != b) = false := by have := H5.out; first | exact decide_eq_true this | exact decide_eq_false this | simpa using this
  have f7 : (a == -1) = true := by have := H7.out; first | exact decide_eq_true this | exact decide_eq_false this | simpa using this
  have f8 : (b == -9223372036854775808) = true := by have := H8.out; first | exact decide_eq_true this | exact decide_eq_false this | simpa using this
  have f9 : (a == -9223372036854775808) = false := by have := H9.out; first | exact decide_eq_true this | exact decide_eq_false this | simpa using this
  have h3 : ¬ b = 0 := H3.out
  have h4 : ¬ a = 0 := H4.out
  have tA := fun w' (k : Below w.heap.size w w') => itoa2 S ha (hE.below k)
  have tB := fun w' (k : Below w.heap.size w w') => itoa2 S hb (hE.below k)
  have tP := fun w' s ov (k : Below w.heap.size w w') hs hm => plus_ok S (hE.below k) (s := s) (ov := ov) ha hb hs hm
  have tM := fun w' s ov (k : Below w.heap.size w w') hs hm => minus_ok S (hE.below k) (s := s) (ov := ov) ha hb hs hm
  have tT := fun w' s ov (k : Below w.heap.size w w') hs hm => times_ok S (hE.below k) (s := s) (ov := ov) ha hb hs hm
  have tD := fun w' s ov (k : Below w.heap.size w w') hs hm => div_ok S (hE.below k) (s := s) (ov := ov) ha hb h3 hs hm
  have tR : ∀ w' s x, Below w.heap.size w w' → s.data.toList = pairB a b → s.size ≤ 100000 → x = a.tmod b → Calls Tryz.prog 5 #[.string ⟨#[37]⟩, .string s, .int .i64 x, .bool false] w' fun e w'' => e = .returned (.bool true) ∧ Below w'.heap.size w' w'' := fun w' s x k hs hm hx => hx ▸ rest_ok S (hE.below k) (s := s) ha hb h3 hs hm
  have tO := fun w' s y0 y1 y2 y3 y4 c0 c1 c2 c3 c4 (k : Below w.heap.size w w') hs hm => order2 S (hE.below k) (s := s) (y0 := y0) (y1 := y1) (y2 := y2) (y3 := y3) (y4 := y4) (c0 := c0) (c1 := c1) (c2 := c2) (c3 := c3) (c4 := c4) ha hb hs hm
  have v0 := yes2
  have v1 := yes2
  have v2 := yes2
  have v3 := yes2
  have v4 := yes2
  go_enter Tryz.func3, Tryz.ntmps3
  go_wp2_with (first
    | (go_at_call 4; refine (tA _ (Below.refl _ _)).mono ?_; clear tA; rintro e w1 ⟨sa, rfl, hsa, hla, k1⟩; have n1 : ¬ 9223372036854775807 < 1 + sa.size := (by omega); have n2 : ¬ 9223372036854775807 < 1 + sa.size + 1 := (by omega))
    | (go_at_call 4; refine (tB _ k1).mono ?_; clear tB; rintro e w2 ⟨sb, rfl, hsb, hlb, k2'⟩; have k2 := k1.trans (k2'.mono k1.size); have n3 : ¬ 9223372036854775807 < 1 + sa.size + 1 + sb.size := (by omega); have n4 : ¬ 9223372036854775807 < 1 + sa.size + 1 + sb.size + 1 := (by omega))
    | (go_at_call 5; refine (tP _ _ _ k2 (pair_list hsa hsb) (pair_size hla hlb) (by have q1 := H1.out; have q2 := H2.out; have q3 := H3.out; have q4 := H4.out; have q5 := H5.out; have q7 := H7.out; have q8 := H8.out; have q9 := H9.out; first | (simp; done) | (simp; omega) | omega)).mono ?_; clear tP; rintro e w3 ⟨rfl, k3'⟩; have k3 := k2.trans (k3'.mono k2.size))
    | (go_at_call 5; refine (tM _ _ _ k3 (pair_list hsa hsb) (pair_size hla hlb) (by have q1 := H1.out; have q2 := H2.out; have q3 := H3.out; have q4 := H4.out; have q5 := H5.out; have q7 := H7.out; have q8 := H8.out; have q9 := H9.out; first | (simp; done) | (simp; omega) | omega)).mono ?_; clear tM; rintro e w4 ⟨rfl, k4'⟩; have k4 := k3.trans (k4'.mono k3.size))
    | (go_at_call 5; refine (tT _ _ _ k4 (pair_list hsa hsb) (pair_size hla hlb) (by have q1 := H1.out; have q2 := H2.out; have q3 := H3.out; have q4 := H4.out; have q5 := H5.out; have q7 := H7.out; have q8 := H8.out; have q9 := H9.out; first | (simp; done) | (simp; omega) | omega)).mono ?_; clear tT; rintro e w5 ⟨rfl, k5'⟩; have k5 := k4.trans (k5'.mono k4.size))
    | (go_at_call 5; refine (tD _ _ _ k5 (pair_list hsa hsb) (pair_size hla hlb) (by have q1 := H1.out; have q2 := H2.out; have q3 := H3.out; have q4 := H4.out; have q5 := H5.out; have q7 := H7.out; have q8 := H8.out; have q9 := H9.out; first | (simp; done) | (simp; omega) | omega)).mono ?_; clear tD; rintro e w6 ⟨rfl, k6'⟩; have k6 := k5.trans (k6'.mono k5.size))
    | (go_at_call 5; refine (tR _ _ _ k6 (pair_list hsa hsb) (pair_size hla hlb) (by rfl)).mono ?_; clear tR; rintro e w7 ⟨rfl, k7'⟩; have k7 := k6.trans (k7'.mono k6.size))
    | (go_at_call 7; refine (v0 _ _).mono ?_; clear v0; rintro e w8 ⟨y0, rfl, e0, l0, hw⟩; subst hw; have E0 : Hid _ := e0; clear e0; have p0 : ¬ 9223372036854775807 < 1 + y0.size := (by omega); have r0 : ¬ 9223372036854775807 < 1 + y0.size + 1 := (by omega))
    | (go_at_call 7; refine (v1 _ _).mono ?_; clear v1; rintro e w8 ⟨y1, rfl, e1, l1, hw⟩; subst hw; have E1 : Hid _ := e1; clear e1; have p1 : ¬ 9223372036854775807 < 1 + y0.size + 1 + y1.size := (by omega); have r1 : ¬ 9223372036854775807 < 1 + y0.size + 1 + y1.size + 1 := (by omega))
    | (go_at_call 7; refine (v2 _ _).mono ?_; clear v2; rintro e w8 ⟨y2, rfl, e2, l2, hw⟩; subst hw; have E2 : Hid _ := e2; clear e2; have p2 : ¬ 9223372036854775807 < 1 + y0.size + 1 + y1.size + 1 + y2.size := (by omega); have r2 : ¬ 9223372036854775807 < 1 + y0.size + 1 + y1.size + 1 + y2.size + 1 := (by omega))
    | (go_at_call 7; refine (v3 _ _).mono ?_; clear v3; rintro e w8 ⟨y3, rfl, e3, l3, hw⟩; subst hw; have E3 : Hid _ := e3; clear e3; have p3 : ¬ 9223372036854775807 < 1 + y0.size + 1 + y1.size + 1 + y2.size + 1 + y3.size := (by omega); have r3 : ¬ 9223372036854775807 < 1 + y0.size + 1 + y1.size + 1 + y2.size + 1 + y3.size + 1 := (by omega))
    | (go_at_call 7; refine (v4 _ _).mono ?_; clear v4; rintro e w8 ⟨y4, rfl, e4, l4, hw⟩; subst hw; have E4 : Hid _ := e4; clear e4; have p4 : ¬ 9223372036854775807 < 1 + y0.size + 1 + y1.size + 1 + y2.size + 1 + y3.size + 1 + y4.size := (by omega); have r4 : ¬ 9223372036854775807 < 1 + y0.size + 1 + y1.size + 1 + y2.size + 1 + y3.size + 1 + y4.size + 1 := (by omega))
    | (go_at_call 8; refine (tO _ _ _ _ _ _ _ _ _ _ _ _ k7 (pair_list hsa hsb) (pair_size hla hlb) E0.out E1.out E2.out E3.out E4.out (by have q1 := H1.out; have q2 := H2.out; have q3 := H3.out; have q4 := H4.out; have q5 := H5.out; have q7 := H7.out; have q8 := H8.out; have q9 := H9.out; first | (simp; done) | (simp; omega) | omega) (by have q1 := H1.out; have q2 := H2.out; have q3 := H3.out; have q4 := H4.out; have q5 := H5.out; have q7 := H7.out; have q8 := H8.out; have q9 := H9.out; first | (simp; done) | (simp; omega) | omega) (by have q1 := H1.out; have q2 := H2.out; have q3 := H3.out; have q4 := H4.out; have q5 := H5.out; have q7 := H7.out; have q8 := H8.out; have q9 := H9.out; first | (simp; done) | (simp; omega) | omega) (by have q1 := H1.out; have q2 := H2.out; have q3 := H3.out; have q4 := H4.out; have q5 := H5.out; have q7 := H7.out; have q8 := H8.out; have q9 := H9.out; first | (simp; done) | (simp; omega) | omega) (by have q1 := H1.out; have q2 := H2.out; have q3 := H3.out; have q4 := H4.out; have q5 := H5.out; have q7 := H7.out; have q8 := H8.out; have q9 := H9.out; first | (simp; done) | (simp; omega) | omega)).mono ?_; clear tO; rintro e w9 ⟨rfl, k9'⟩; have k9 := k7.trans (k9'.mono k7.size)))
  go_ret
  exact ⟨rfl, k9⟩
end Go.Proofs.Tryz

