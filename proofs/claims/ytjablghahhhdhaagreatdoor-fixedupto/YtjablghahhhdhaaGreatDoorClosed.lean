import Derived.Test.YtjablghahhhdhaaGreatDoorLex4
import Derived.Test.YtjablghahhhdhaaGreatDoorStep13
import Derived.Test.YtjablghahhhdhaaGreatDoorNames4
import Derived.WalkMore
set_option linter.all false
namespace Go.Proofs.Tryz
open Go.RowKit
set_option maxRecDepth 10000

theorem check_nil (cb : Nat) (s : Option Addr) (w : World) :
    Calls Tryz.prog 40 #[.pointer (some ⟨cb, 0, none⟩), .pointer s, .slice none 0 0] w fun e w' => e = .returned (.tuple #[]) ∧ Below w.heap.size w w' := by
  go_enter Tryz.func40, Tryz.ntmps40
  go_wp2_with fail
  refine wp_loop_rounds 1 ?_
  rw [rounds_succ]
  go_wp2_with fail
  go_end0
  exact ⟨rfl, Below.refl _ _⟩

theorem has_no (v : Value) (env : Env) (u : Int) (n : ByteArray) (k : Int) (w : World) (h : Scope w v env) (ho : hasB env u n k = false) :
    Calls Tryz.prog 141 #[v, .int .u8 u, .string n, .int .i64 k] w fun e w' => e = .returned (.bool false) ∧ w' = w := by
  have h1 := has_any v env u n k w h
  rw [ho] at h1; exact h1

set_option maxHeartbeats 2000000 in
theorem one_empty {cb b : Nat} {s : Option Addr} {w : World} {n : ByteArray} {env : Env} (c0 : w.cell? ⟨b, 0, none⟩ = some (.string n)) (c1 : w.cell? ⟨b, 1, none⟩ = some (.slice none 0 0)) (hs : Scope w (.pointer s) env) (ho : hasB env 2 n 0 = false) (hn : n.data.toList = [101, 109, 112, 116, 121]) :
    FineAt cb s w (.iface 169 (.pointer (some ⟨b, 0, none⟩))) := by
  unfold FineAt
  have hb := cell_lt c0
  have a0 := missVariable; have a1 := missBreak; have a2 := hitCall
  have HN : Hid _ := hn
  clear hn
  go_enter Tryz.func89, Tryz.ntmps89
  go_wp2_with fail
  go_quiet ((first | (go_at_call 141; exact Calls.quiet_of_same (has_no _ env _ _ _ _ (hs.drewN _) ho)) | (go_at_call 143; exact Calls.quiet_of_same (isGiven_empty _ _ HN.out))))
  go_wp2_with (go_at_call 40; refine (check_nil _ _ _).mono ?_; rintro e w1 ⟨rfl, k1⟩)
  go_end0
  exact ⟨rfl, (below_drewN _ _).trans k1⟩

set_option maxHeartbeats 2000000 in
theorem binder_red {cb b : Nat} {s : Option Addr} {w : World} {x y z : Value} {n : ByteArray} {env : Env} (c0 : w.cell? ⟨b, 0, none⟩ = some x) (c1 : w.cell? ⟨b, 1, none⟩ = some (.string n)) (c2 : w.cell? ⟨b, 2, none⟩ = some y) (c3 : w.cell? ⟨b, 3, none⟩ = some z) (hs : Scope w (.pointer s) env)
    (hx : ∃ T b, x = .iface T (.pointer (some ⟨b, 0, none⟩))) (hy : ∃ T b, y = .iface T (.pointer (some ⟨b, 0, none⟩))) (hz : ∃ T b, z = .iface T (.pointer (some ⟨b, 0, none⟩))) (h1 : Fine cb s w x) (h2 : Fine cb s w y)
    (h3 : ∀ (s' : Option Addr) (w' : World), Below w.heap.size w w' → Scope w' (.pointer s') ((0, n, 0) :: env) → Fine cb s' w' z) :
    Calls Tryz.prog 144 #[.pointer (some ⟨cb, 0, none⟩), .pointer s, .iface 164 (.pointer (some ⟨b, 0, none⟩))] w fun e w' => e = .returned (.tuple #[]) ∧ Below w.heap.size w w' := by
  obtain ⟨T1, b1, rfl⟩ := hx
  obtain ⟨T2, b2, rfl⟩ := hy
  obtain ⟨T3, b3, rfl⟩ := hz
  have hb := cell_lt c0
  have a13 := missBind; have a14 := missLabel; have a15 := hitReduce
  go_enter Tryz.func144, Tryz.ntmps144
  go_wp2_with fail
  go_region_held3 (fun w' => w'.cell? ⟨b, 0, none⟩ = some (.iface T1 (.pointer (some ⟨b1, 0, none⟩))) ∧ w'.cell? ⟨b, 2, none⟩ = some (.iface T2 (.pointer (some ⟨b2, 0, none⟩)))) (first | exact ⟨e0, e1⟩ | go_keep)
    (first | (go_at_call 40; refine (check2 (heap_newd w _) ⟨_, _, rfl⟩ ⟨_, _, rfl⟩ (h1.below (below_alloc _ _).drew) (h2.below (below_alloc _ _).drew)).mono ?_; rintro e w1 ⟨rfl, k1⟩; have e0 : w1.cell? ⟨b, 0, none⟩ = some (.iface T1 (.pointer (some ⟨b1, 0, none⟩))) := (k1.cell (p := ⟨b, 0, none⟩) (by simp; omega)).trans (((below_alloc w _).drew.cell (p := ⟨b, 0, none⟩) hb).trans c0); have e1 : w1.cell? ⟨b, 2, none⟩ = some (.iface T2 (.pointer (some ⟨b2, 0, none⟩))) := (k1.cell (p := ⟨b, 2, none⟩) (by simp; omega)).trans (((below_alloc w _).drew.cell (p := ⟨b, 2, none⟩) hb).trans c2)))
  have kw1 : Below w.heap.size w w1 := (below_alloc _ _).drew.trans (k1.mono (by simp))
  have hb1 : b < w1.heap.size := Nat.lt_of_lt_of_le hb kw1.size
  have d1 := (kw1.cell (p := ⟨b, 1, none⟩) hb).trans c1
  have d3 := (kw1.cell (p := ⟨b, 3, none⟩) hb).trans c3
  clear a13 a14 a15 e0 e1
  go_wp2_with fail
  go_region_held3 (fun w' => w'.cell? ⟨b, 1, none⟩ = some (.string n) ∧ w'.cell? ⟨b, 3, none⟩ = some (.iface T3 (.pointer (some ⟨b3, 0, none⟩)))) (first | exact ⟨f1, f3⟩ | go_keep)
    (first
      | (go_at_call 199; refine (with_any _ env _ _ _ _ (by first | exact ((hs.below kw1).below (Below.refl _ _).drew) | exact ((hs.below kw1).below (below_alloc _ _).drew))).mono ?_; rintro e w2 ⟨bs, rfl, hs2, k2⟩; have kw2 : Below w.heap.size w w2 := (by first | exact kw1.drew.trans (k2.mono kw1.size) | exact (kw1.alloc kw1.size _).drew.trans (k2.mono (by have := kw1.size; simp; omega))); have f1 := (kw2.cell (p := ⟨b, 1, none⟩) hb).trans c1; have f3 := (kw2.cell (p := ⟨b, 3, none⟩) hb).trans c3; have hb2 : b < w2.heap.size := Nat.lt_of_lt_of_le hb kw2.size)
      | (go_at_call 40; refine (check1 (by first | exact heap_new w2 _ | exact (k2.block w1.heap.size (by simp)).trans (heap_newd w1 _)) ⟨_, _, rfl⟩ (by first | exact ((h3 _ _ kw2 hs2).below (below_alloc _ _)) | exact h3 _ _ kw2 hs2)).mono ?_; rintro e w3 ⟨rfl, k3⟩; have kw3 : Below w.heap.size w w3 := (by first | exact (kw2.alloc kw2.size _).trans (k3.mono (by have := kw2.size; simp; omega)) | exact kw2.trans (k3.mono kw2.size)); have f1 := (kw3.cell (p := ⟨b, 1, none⟩) hb).trans c1; have f3 := (kw3.cell (p := ⟨b, 3, none⟩) hb).trans c3))
  all_goals
    go_wp2_with fail
    go_end0
    exact ⟨rfl, kw3⟩

end Go.Proofs.Tryz

namespace Go.Proofs.Tryz
open Go.RowKit
set_option maxRecDepth 10000

def withAll (ps : List ByteArray) (env : Env) : Env := ps.foldl (fun e p => (2, p, 0) :: e) env
theorem withAll_snoc (ps : List ByteArray) (p : ByteArray) (env : Env) : withAll (ps ++ [p]) env = (2, p, 0) :: withAll ps env := by simp [withAll]

set_option maxHeartbeats 2000000 in
theorem binder_def {cb b d o cap k : Nat} {s : Option Addr} {w : World} {x y : Value} {n : ByteArray} {ps : List ByteArray} {env : Env} (hk : ps.length = k) (hk2 : k ≤ 100) (c0 : w.cell? ⟨b, 0, none⟩ = some (.string n)) (c1 : w.cell? ⟨b, 1, none⟩ = some (.slice (some ⟨d, o, none⟩) k cap)) (c2 : w.cell? ⟨b, 2, none⟩ = some x) (c3 : w.cell? ⟨b, 3, none⟩ = some y)
    (hd : d < w.heap.size) (hp : ∀ i p, ps[i]? = some p → w.cell? ⟨d, o + i, none⟩ = some (.string p)) (hs : Scope w (.pointer s) env)
    (hx : ∃ T b, x = .iface T (.pointer (some ⟨b, 0, none⟩))) (hy : ∃ T b, y = .iface T (.pointer (some ⟨b, 0, none⟩)))
    (h1 : ∀ (s' : Option Addr) (w' : World), Below w.heap.size w w' → Scope w' (.pointer s') (withAll ps ((2, n, k) :: env)) → Fine cb s' w' x)
    (h2 : ∀ (s' : Option Addr) (w' : World), Below w.heap.size w w' → Scope w' (.pointer s') ((2, n, k) :: env) → Fine cb s' w' y) :
    Calls Tryz.prog 144 #[.pointer (some ⟨cb, 0, none⟩), .pointer s, .iface 120 (.pointer (some ⟨b, 0, none⟩))] w fun e w' => e = .returned (.tuple #[]) ∧ Below w.heap.size w w' := by
  obtain ⟨T1, b1, rfl⟩ := hx
  obtain ⟨T2, b2, rfl⟩ := hy
  have hb := cell_lt c0
  have HK : Hid _ := hk
  clear hk
  have a13 := missBind; have a14 := missLabel; have a15 := missReduce; have a16 := missForeach; have a17 := hitDef
  go_enter Tryz.func144, Tryz.ntmps144
  go_wp2_with fail
  clear a13 a14 a15 a16 a17
  go_region_held3 (fun w' => w'.cell? ⟨b, 0, none⟩ = some (.string n) ∧ w'.cell? ⟨b, 1, none⟩ = some (.slice (some ⟨d, o, none⟩) k cap)) (first | exact ⟨e0, e1⟩ | go_keep)
    (first | (go_at_call 199; refine (with_any _ env _ _ _ _ (hs.below (Below.refl _ _).drew)).mono ?_; rintro e w1 ⟨bs, rfl, hs1, k1⟩; have kw1 : Below w.heap.size w w1 := (Below.refl _ _).drew.trans k1; have e0 := (kw1.cell (p := ⟨b, 0, none⟩) hb).trans c0; have e1 := (kw1.cell (p := ⟨b, 1, none⟩) hb).trans c1))
  go_wp2_with fail
  go_loopg [11, 135] (k + 1) (fun j v t wr => ∃ (i : Nat) (s' : Option Addr), i + j = k + 1 ∧ i ≤ k ∧ t = .int .i64 i ∧ v = .pointer s' ∧ Below w.heap.size w wr ∧ Below w1.heap.size w1 wr ∧ Scope wr (.pointer s') (withAll (ps.take i) ((2, n, k) :: env)))
  case atStart => exact ⟨0, _, by omega, by omega, rfl, rfl, kw1, Below.refl _ _, hs1⟩
  case round =>
    obtain ⟨i, s', hij, hik, rfl, rfl, hb2, hb3, hsc⟩ := hrel
    by_cases hi : i < k
    · have hil : i < ps.length := by have := HK.out; omega
      have hpi := hp i _ (List.getElem?_eq_getElem hil)
      have cp := (hb2.cell (p := ⟨d, o + i, none⟩) hd).trans hpi
      have hi' : (i : Int) < (k : Int) := by omega
      have hi0 : (0 : Int) ≤ (i : Int) := by omega
      have htk : withAll (ps.take (i + 1)) ((2, n, k) :: env) = (2, ps[i], 0) :: withAll (ps.take i) ((2, n, k) :: env) := by
        rw [List.take_succ_eq_append_getElem hil, withAll_snoc]
      have HT : Hid _ := htk
      clear htk hpi
      go_wp2_with (go_at_call 199; refine (with_any _ _ _ _ _ _ hsc).mono ?_; rintro e w2 ⟨bs2, rfl, hs2, k2⟩)
      go_roundg (k + 1 - (i + 1))
      case measure => omega
      case rel => exact ⟨i + 1, _, by omega, by omega, by go_num, rfl, hb2.trans (k2.mono hb2.size), hb3.trans (k2.mono hb3.size), by rw [HT.out]; exact hs2⟩
    · have hi' : ¬ (i : Int) < (k : Int) := by omega
      have hik2 : i = k := by omega
      subst hik2
      have htk : ps.take i = ps := List.take_of_length_le (by have := HK.out; omega)
      rw [htk] at hsc
      clear htk
      have hbw : b < wr.heap.size := Nat.lt_of_lt_of_le hb hb2.size
      have d2 := (hb2.cell (p := ⟨b, 2, none⟩) hb).trans c2
      have hs1' := hs1.below hb3
      go_wp2_with (first
        | (go_at_call 40; refine (check1 (by exact heap_new wr _) ⟨_, _, rfl⟩ (by exact (h1 _ _ hb2 hsc).below (below_alloc _ _))).mono ?_; rintro e w4 ⟨rfl, k4⟩; have kw4 : Below w.heap.size w w4 := (hb2.alloc hb2.size _).trans (k4.mono (by have := hb2.size; simp; omega)); have hs4 := (hs1'.below (below_alloc _ _)).below k4; have d3 := (kw4.cell (p := ⟨b, 3, none⟩) hb).trans c3; have hb4 : b < w4.heap.size := Nat.lt_of_lt_of_le hb kw4.size)
        | (go_at_call 40; refine (check1 (by exact heap_new w4 _) ⟨_, _, rfl⟩ (by exact (h2 _ _ kw4 hs4).below (below_alloc _ _))).mono ?_; rintro e w5 ⟨rfl, k5⟩))
      go_end0
      exact ⟨rfl, (kw4.alloc kw4.size _).trans (k5.mono (by have := kw4.size; simp; omega))⟩

end Go.Proofs.Tryz

namespace Go.Proofs.Tryz
open Go.RowKit
set_option maxRecDepth 10000

set_option maxHeartbeats 2000000 in
theorem one_to_binder {cb b T : Nat} {s : Option Addr} {w : World} (hT : T = 164 ∨ T = 120)
    (hc : Calls Tryz.prog 144 #[.pointer (some ⟨cb, 0, none⟩), .pointer s, .iface T (.pointer (some ⟨b, 0, none⟩))] w fun e w' => e = .returned (.tuple #[]) ∧ Below w.heap.size w w') :
    FineAt cb s w (.iface T (.pointer (some ⟨b, 0, none⟩))) := by
  unfold FineAt
  have a0 := missVariable; have a1 := missBreak; have a2 := missCall; have a3 := missField; have a4 := missIndex; have a5 := missEach; have a6 := missOptional; have a7 := missCollect; have a8 := missBuild; have a9 := missBinary; have a10 := missMinus; have a11 := missTry; have a12 := missIf
  rcases hT with rfl | rfl
  all_goals
    go_enter Tryz.func89, Tryz.ntmps89
    go_wp2_with (go_at_call 144; refine hc.mono ?_; rintro e w1 ⟨rfl, k1⟩)
    go_end0
    exact ⟨rfl, k1⟩

theorem cells1 {w : World} {d o : Nat} {v : Value} (h : w.cell? ⟨d, o, none⟩ = some v) (i : Nat) (x : Value) (hx : [v][i]? = some x) : w.cell? ⟨d, o + i, none⟩ = some x := by
  match i, hx with
  | 0, hx => cases hx; exact h
theorem cells2 {w : World} {d o : Nat} {u v : Value} (h : w.cell? ⟨d, o, none⟩ = some u) (h' : w.cell? ⟨d, o + 1, none⟩ = some v) (i : Nat) (x : Value) (hx : [u, v][i]? = some x) : w.cell? ⟨d, o + i, none⟩ = some x := by
  match i, hx with
  | 0, hx => cases hx; exact h
  | 1, hx => cases hx; exact h'

/-- A tree all of whose names are known is passed by the checker. -/
theorem fine_all : ∀ (t : Tr) {p : Nat → Prop} {w : World} {v : Value} {env : Env} {s : Option Addr} {cb : Nat}, okT env t = true → Rep p w v t → Scope w (.pointer s) env → Fine cb s w v := by
  intro t
  induction t with
  | done y => intro p w v env s cb ho; cases ho
  | ask s0 kind k ih =>
    intro p w v env s cb ho hr hs w' hb
    match kind, ho, hr with
    | 0, ho, hr => obtain ⟨b, e⟩ := hr.upon hb; exact one_leaf (.inr ⟨b, e⟩)
    | 1, ho, hr => obtain ⟨b, e, _⟩ := hr.upon hb; exact one_leaf (.inl ⟨b, e⟩)
    | 2, ho, hr => obtain ⟨b, e, _⟩ := hr.upon hb; exact one_leaf (.inl ⟨b, e⟩)
    | 3, ho, hr => obtain ⟨b, e, _⟩ := hr.upon hb; exact one_leaf (.inl ⟨b, e⟩)
    | 4, ho, hr => obtain ⟨b, rfl, pb, c0, c1⟩ := hr.upon hb; exact one_var c0 (hs.below hb) ho
    | 5, ho, hr =>
      have hr' := hr.upon hb
      have hs' := hs.below hb
      have ho : (okT env (k 1) && okT env (k 2)) = true := ho
      simp only [Bool.and_eq_true] at ho
      obtain ⟨b, x, y, rfl, pb, c0, c1, r1, r2⟩ := hr'
      exact one_two (.inl ⟨rfl, rfl⟩) c0 c1 r1.shape r2.shape (ih 1 ho.1 r1 hs') (ih 2 ho.2 r2 hs')
    | 6, ho, hr =>
      have hr' := hr.upon hb
      have hs' := hs.below hb
      obtain ⟨b, x, rfl, pb, c0, r1⟩ := hr'
      exact one_each (.inl rfl) c0 r1.shape (ih 1 ho r1 hs')
    | 7, ho, hr =>
      have hr' := hr.upon hb
      have hs' := hs.below hb
      obtain ⟨b, x, rfl, pb, c0, r1⟩ := hr'
      exact one_each (.inr rfl) c0 r1.shape (ih 1 ho r1 hs')
    | 8, ho, hr =>
      have hr' := hr.upon hb
      have hs' := hs.below hb
      have ho : (hasB env 2 (payOf (k 0)).s 0 || (payOf (k 0)).s.data.toList == [101, 109, 112, 116, 121]) = true := ho
      obtain ⟨b, rfl, pb, c0, c1, c2⟩ := hr'
      cases hh : hasB env 2 (payOf (k 0)).s 0 with
      | true => exact one_callN (k := 0) c0 c1 (by omega) hs' hh (fun w'' _ => check_nil _ _ _)
      | false =>
        simp only [hh, Bool.false_or, beq_iff_eq] at ho
        exact one_empty c0 c1 hs' hh ho
    | 9, ho, hr =>
      have hr' := hr.upon hb
      have hs' := hs.below hb
      have ho : (hasB env 2 (payOf (k 0)).s 1 && okT env (k 1)) = true := ho
      simp only [Bool.and_eq_true] at ho
      obtain ⟨b, d, o, c, x, rfl, pb, pd, c0, c1, c2, cd, r1⟩ := hr'
      refine one_callN (k := 1) c0 c1 (by omega) hs' ho.1 (fun w'' k1 => ?_)
      exact check_at _ _ _ _ _ [_] w'' (by simp) (fun _ => Nat.lt_of_lt_of_le (cell_lt cd) k1.size) (fun i x hx => (k1.cell (p := ⟨_, _, none⟩) (cell_lt cd)).trans (cells1 cd i x hx)) (by simpa using r1.shape) (by simpa using (ih 1 ho.2 r1 hs').below k1)
    | 10, ho, hr =>
      have hr' := hr.upon hb
      have hs' := hs.below hb
      have ho : (hasB env 2 (payOf (k 0)).s 2 && (okT env (k 1) && okT env (k 2))) = true := ho
      simp only [Bool.and_eq_true] at ho
      obtain ⟨b, d, o, c, x, y, rfl, pb, pd, c0, c1, c2, cd, cd', r1, r2⟩ := hr'
      refine one_callN (k := 2) c0 c1 (by omega) hs' ho.1 (fun w'' k1 => ?_)
      exact check_at _ _ _ _ _ [_, _] w'' (by simp) (fun _ => Nat.lt_of_lt_of_le (cell_lt cd) k1.size) (fun i x hx => (k1.cell (p := ⟨_, _, none⟩) (cell_lt cd)).trans (cells2 cd cd' i x hx)) (by simpa using ⟨r1.shape, r2.shape⟩) (by simpa using ⟨(ih 1 ho.2.1 r1 hs').below k1, (ih 2 ho.2.2 r2 hs').below k1⟩)
    | 11, ho, hr =>
      have hr' := hr.upon hb
      have hs' := hs.below hb
      have ho : (okT env (k 1) && okT env (k 2)) = true := ho
      simp only [Bool.and_eq_true] at ho
      obtain ⟨b, x, y, rfl, pb, c0, c1, c2, r1, r2⟩ := hr'
      exact one_two (.inr (.inl ⟨rfl, rfl⟩)) c0 c2 r1.shape r2.shape (ih 1 ho.1 r1 hs') (ih 2 ho.2 r2 hs')
    | 12, ho, hr =>
      have hr' := hr.upon hb
      have hs' := hs.below hb
      have ho : (okT env (k 1) && okT env (k 2)) = true := ho
      simp only [Bool.and_eq_true] at ho
      obtain ⟨b, x, y, rfl, pb, c0, c1, r1, r2⟩ := hr'
      exact one_two (.inr (.inr ⟨rfl, rfl⟩)) c0 c1 r1.shape r2.shape (ih 1 ho.1 r1 hs') (ih 2 ho.2 r2 hs')
    | 13, ho, hr =>
      have hr' := hr.upon hb
      have hs' := hs.below hb
      have ho : (okT env (k 1) && (okT env (k 2) && okT ((0, (payOf (k 0)).s, 0) :: env) (k 3))) = true := ho
      simp only [Bool.and_eq_true] at ho
      obtain ⟨b, x, y, z, rfl, pb, c0, c1, c2, c3, r1, r2, r3⟩ := hr'
      exact one_to_binder (.inl rfl) (binder_red c0 c1 c2 c3 hs' r1.shape r2.shape r3.shape (ih 1 ho.1 r1 hs') (ih 2 ho.2.1 r2 hs') (fun s' w'' k1 hsc => ih 3 ho.2.2 (r3.upon k1) hsc))
    | 14, ho, hr =>
      have hr' := hr.upon hb
      have hs' := hs.below hb
      have ho : (okT env (k 1) && (okT env (k 2) && okT env (k 3))) = true := ho
      simp only [Bool.and_eq_true] at ho
      obtain ⟨b, x, y, z, rfl, pb, c0, c1, c2, r1, r2, r3⟩ := hr'
      exact one_ite c0 c1 c2 r1.shape r2.shape r3.shape (ih 1 ho.1 r1 hs') (ih 2 ho.2.1 r2 hs') (ih 3 ho.2.2 r3 hs')
    | 15, ho, hr =>
      have hr' := hr.upon hb
      have hs' := hs.below hb
      have ho : (okT ((2, (payOf (k 0)).q, 0) :: (2, (payOf (k 0)).s, 1) :: env) (k 1) && okT ((2, (payOf (k 0)).s, 1) :: env) (k 2)) = true := ho
      simp only [Bool.and_eq_true] at ho
      obtain ⟨b, d, o, c, x, y, rfl, pb, pd, c0, c1, cq, c2, c3, r1, r2⟩ := hr'
      refine one_to_binder (.inr rfl) (binder_def (ps := [(payOf (k 0)).q]) (k := 1) rfl (by omega) c0 c1 c2 c3 (cell_lt cq) (fun i x hx => ?_) hs' r1.shape r2.shape (fun s' w'' k1 hsc => ih 1 ho.1 (r1.upon k1) hsc) (fun s' w'' k1 hsc => ih 2 ho.2 (r2.upon k1) hsc))
      match i, hx with
      | 0, hx => cases hx; exact cq
    | 16, ho, hr =>
      have hr' := hr.upon hb
      have hs' := hs.below hb
      have ho : (okT ((2, (payOf (k 0)).r, 0) :: (2, (payOf (k 0)).q, 0) :: (2, (payOf (k 0)).s, 2) :: env) (k 1) && okT ((2, (payOf (k 0)).s, 2) :: env) (k 2)) = true := ho
      simp only [Bool.and_eq_true] at ho
      obtain ⟨b, d, o, c, x, y, rfl, pb, pd, c0, c1, cq, cr, c2, c3, r1, r2⟩ := hr'
      refine one_to_binder (.inr rfl) (binder_def (ps := [(payOf (k 0)).q, (payOf (k 0)).r]) (k := 2) rfl (by omega) c0 c1 c2 c3 (cell_lt cq) (fun i x hx => ?_) hs' r1.shape r2.shape (fun s' w'' k1 hsc => ih 1 ho.1 (r1.upon k1) hsc) (fun s' w'' k1 hsc => ih 2 ho.2 (r2.upon k1) hsc))
      match i, hx with
      | 0, hx => cases hx; exact cq
      | 1, hx => cases hx; exact cr
    | _ + 17, ho, _ => cases ho

end Go.Proofs.Tryz

namespace Go.Proofs.Tryz
open Go.RowKit
set_option maxRecDepth 10000

def stepOper (P : Pars) (r : Int) (l : List Tok) : Option (Tr × List Tok) := opL P r 100 [] l

set_option maxHeartbeats 4000000 in
theorem oper_step {P : Pars} (hP : Sound P) {r : Int} {l l' : List Tok} {t : Tr} {w : World} {rb tb : Nat} (h : stepOper P r l = some (t, l')) (hr : Rd w rb tb l) :
    Calls Tryz.prog 39 #[.pointer (some ⟨rb, 0, none⟩), .int .u8 r] w (Gives rb tb l' t w) := by
  have hrb := hr.rbs
  have htb := hr.tbs
  have hfd := field_text
  obtain ⟨i0, hi0, hz0, hz1, hz2⟩ := info_parts info_half
  unfold stepOper at h
  go_enter Tryz.func39, Tryz.ntmps39
  go_wp2_with fail
  go_step3
  go_wp2_with fail
  go_step3
  go_wp2_with fail
  go_loopg [5] 100 (fun k v wr => ∃ hv m, Left w wr rb tb m ∧ Stack w.heap.size wr v hv ∧ hv.length + k ≤ 100 ∧ opL P r k (hv.map (·.2)) m = some (t, l'))
  case atStart => exact ⟨[], l, .of_rd hr, .start _ _, by simp, h⟩
  case round =>
    obtain ⟨hv, m, hL, hS, hk, h⟩ := hrel
    match gk, h, hk with
    | k + 1, h, hk =>
    simp only [opL, Option.bind_eq_some_iff, Prod.exists] at h
    obtain ⟨side, l1, hm, h⟩ := h
    match l1, hm, h with
    | t0 :: m0, hm, h =>
    have hmr := hL.rd
    go_wp2_with (first
      | (go_at_call 85; refine (hP.minus hm hmr).mono ?_; rintro e w2 ⟨T, b, rfl, h2, r2⟩; have hr2 := h2.rd)
      | (go_at_call 86; refine (operator_any hr2).mono ?_; rintro e w3 ⟨rfl, h3⟩))
    obtain ⟨R, hR⟩ : ∃ R, foldL r (hv.map (·.2)) side (opOf t0) = R := ⟨_, rfl⟩
    rw [hR] at h
    have hB := hL.kept.size
    have hs2 := h2.kept.size
    have hL3 := (hL.trans h2).trans h3
    have hS3 := (hS.kept h2.kept hrb).kept h3.kept hrb
    have hr3 : Rep (fun c => w.heap.size ≤ c ∧ Value.ownBlock u5 ≠ some c) w3 (.iface T (.pointer (some ⟨b, 0, none⟩))) side :=
      (r2.left h3 (by omega)).to fun c _ _ hc hv => ⟨⟨by omega, fun e => by have := hS.own.lt c e; omega⟩, hv⟩
    go_loopg [5, 6, 7] hv.length (fun j v s n wr => ∃ hv' side' T b nx, j = hv'.length ∧ s = .iface T (.pointer (some ⟨b, 0, none⟩)) ∧ n = .int .u8 nx ∧ Left w wr rb tb (t0 :: m0) ∧ Stack w.heap.size wr v hv' ∧
      Rep (fun c => w.heap.size ≤ c ∧ v.ownBlock ≠ some c) wr s side' ∧ hv'.length + k + 1 ≤ 100 ∧ foldL r (hv'.map (·.2)) side' nx = R)
    case atStart => exact ⟨hv, side, T, b, _, rfl, rfl, rfl, hL3, hS3, hr3, by omega, hR⟩
    case round =>
      clear hr3 hS3 hL3 h3 r2 h2 hS hL hR
      obtain ⟨hv', side', T', b', nx, hj, rfl, rfl, hL, hS, hrep, hlen, hR⟩ := hrel
      have hw := hL.rd
      cases hv' with
      | nil =>
        simp only [List.map_nil, foldL] at hR
        by_cases hlt : nx < r
        · rw [if_pos hlt] at hR
          subst hR
          simp only [Option.some.injEq, Prod.mk.injEq] at h
          obtain ⟨rfl, rfl⟩ := h
          rcases hS.own.2 with ⟨rfl, _⟩ | ⟨g, cap, cur, rfl, _⟩
          all_goals
            simp only [List.length_nil] at *
            go_wp2_with fail
            go_ret
            exact ⟨_, _, rfl, hL, hrep.to fun c _ _ hc hv => ⟨hc.1, hv⟩⟩
        · rw [if_neg hlt] at hR
          subst hR
          match m0, h, hL, hw with
          | u :: m1, h, hL, hw =>
          rcases hS.own.2 with ⟨rfl, _⟩ | ⟨g, cap, cur, rfl, _⟩
          · simp only [List.length_nil] at *
            go_wp2_with (first
            | (go_at_call 82; refine (take_rd hw).mono ?_; rintro e w5 ⟨rfl, h5⟩)
            | (refine wpList_append_lies _ (by rfl) _ _ _ (by rfl) w.heap.size 189 i0 _ 3 40 Tryz.underlying186 hi0 hz0 hz1 hz2 rfl (by omega) (.slice none 0 0) 0 [] (by rfl) ((hS.kept h5.kept hrb).upto (below_alloc _ _)).own ⟨w5.heap.size, 0, none⟩ 1 1 [.iface T' (.pointer (some ⟨b', 0, none⟩)), .string t0.text, .int .u8 nx] (by rfl) (by rfl) (World.news_of_block (cs := #[.iface T' (.pointer (some ⟨b', 0, none⟩)), .string t0.text, .int .u8 nx]) (t := 189) (fr := (0, 0)) (heap_alloc_new w5 _)) (by simp [Value.oneCell']) (by omega) (by decide) (by omega) (by have := hL.kept.size; have := h5.kept.size; simp; omega) (w5.heap.size + 1) (by simp) ?_; intro g2 cap2 w6 hown hgrow hat hlt2))
            go_roundg k
            case measure => omega
            case rel =>
              obtain ⟨hLn, hSn⟩ := Stack.pushed rfl hrb htb hL hS rfl hrep h5 hown hgrow hat
              exact ⟨_, _, hLn, hSn, by simp only [List.length_cons, List.length_nil] at *; omega, h⟩
          · simp only [List.length_nil] at *
            go_wp2_with (first
            | (go_at_call 82; refine (take_rd hw).mono ?_; rintro e w5 ⟨rfl, h5⟩)
            | (refine wpList_append_lies _ (by rfl) _ _ _ (by rfl) w.heap.size 189 i0 _ 3 40 Tryz.underlying186 hi0 hz0 hz1 hz2 rfl (by omega) (.slice (some ⟨g, 0, none⟩) 0 cap) 0 [] (by rfl) ((hS.kept h5.kept hrb).upto (below_alloc _ _)).own ⟨w5.heap.size, 0, none⟩ 1 1 [.iface T' (.pointer (some ⟨b', 0, none⟩)), .string t0.text, .int .u8 nx] (by rfl) (by rfl) (World.news_of_block (cs := #[.iface T' (.pointer (some ⟨b', 0, none⟩)), .string t0.text, .int .u8 nx]) (t := 189) (fr := (0, 0)) (heap_alloc_new w5 _)) (by simp [Value.oneCell']) (by omega) (by decide) (by omega) (by have := hL.kept.size; have := h5.kept.size; simp; omega) (w5.heap.size + 1) (by simp) ?_; intro g2 cap2 w6 hown hgrow hat hlt2))
            go_roundg k
            case measure => omega
            case rel =>
              obtain ⟨hLn, hSn⟩ := Stack.pushed rfl hrb htb hL hS rfl hrep h5 hown hgrow hat
              exact ⟨_, _, hLn, hSn, by simp only [List.length_cons, List.length_nil] at *; omega, h⟩
      | cons p hv' =>
        obtain ⟨g, cap, rfl, hgB, hgs⟩ := hS.form
        obtain ⟨x, ph⟩ := p
        obtain ⟨Tp, bp, hx⟩ := hS.its _ (.head _)
        simp only at hx
        subst hx
        obtain ⟨n, hn⟩ : ∃ n, hv'.length = n := ⟨_, rfl⟩
        have c0 : wr.cell? ⟨g, n * 3, none⟩ = some (.iface Tp (.pointer (some ⟨bp, 0, none⟩))) := by rw [← hn]; exact hS.cells 0 (by omega)
        have c1 : wr.cell? ⟨g, n * 3 + 1, none⟩ = some (.string ph.op) := by rw [← hn]; exact hS.cells 1 (by omega)
        have c2 : wr.cell? ⟨g, n * 3 + 2, none⟩ = some (.int .u8 ph.row) := by rw [← hn]; exact hS.cells 2 (by omega)
        simp only [List.map_cons, foldL] at hR
        simp only [List.length_cons] at hlen hj
        have hcap : hv'.length + 1 ≤ cap := by
          rcases hS.own.2 with ⟨h, _⟩ | ⟨_, _, _, e, _, _, hc, _⟩
          · cases h
          · cases e; simpa using hc
        rw [hn] at hcap hlen ⊢
        have n0 : (0 : Int) ≤ (n : Int) := Int.natCast_nonneg _
        have n1 : (n : Int) < ((n + 1 : Nat) : Int) := by omega
        have n2 : n ≤ 100 := by omega
        by_cases hwt : waits ph.row nx = true
        · rw [if_pos hwt] at hR
          subst hR
          match m0, h, hL, hw with
          | u :: m1, h, hL, hw =>
          rw [hn] at hS
          go_wp2_with (first
            | (go_at_call 87; refine (waits_any _ Tp bp _ _ _ _ rfl).mono ?_; rintro e w4 ⟨rfl, h4⟩; rw [hwt]; have hL := hL.upto h4; have hS := hS.upto h4; have hrep := hrep.upon h4; have hw := hw.below h4; have z4 := h4.size)
            | (go_at_call 82; refine (take_rd hw).mono ?_; rintro e w5 ⟨rfl, h5⟩)
            | (refine wpList_append_lies _ (by rfl) _ _ _ (by rfl) w.heap.size 189 i0 _ 3 40 Tryz.underlying186 hi0 hz0 hz1 hz2 rfl (by omega) (.slice (some ⟨g, 0, none⟩) (n + 1) cap) (n + 1) (scells ((.iface Tp (.pointer (some ⟨bp, 0, none⟩)), ph) :: hv')) (by rfl) (((hS.kept h5.kept hrb).upto (below_alloc _ _)).ownAt (by rw [List.length_cons, hn])) ⟨w5.heap.size, 0, none⟩ 1 1 [.iface T' (.pointer (some ⟨b', 0, none⟩)), .string t0.text, .int .u8 nx] (by rfl) (by rfl) (World.news_of_block (cs := #[.iface T' (.pointer (some ⟨b', 0, none⟩)), .string t0.text, .int .u8 nx]) (t := 189) (fr := (0, 0)) (heap_alloc_new w5 _)) (by simp [Value.oneCell']) (by omega) (by unfold maxLen; omega) (by omega) (by have := hL.kept.size; have := h5.kept.size; simp; omega) (w5.heap.size + 1) (by simp) ?_; intro g2 cap2 w6 hown hgrow hat hlt2))
          go_roundg k
          case measure => omega
          case rel =>
            rw [← hn] at hown hgrow hat hS
            obtain ⟨hLn, hSn⟩ := Stack.pushed (hv := (_, ph) :: hv') rfl hrb htb hL hS rfl hrep h5 hown hgrow hat
            rw [List.length_cons, hn] at hSn
            exact ⟨_, _, hLn, hSn, by simp only [List.length_cons] at *; omega, h⟩
        · have hwt : waits ph.row nx = false := by simpa using hwt
          rw [hwt] at hR
          simp only [Bool.false_eq_true, if_false] at hR
          have hpop := hS.pop
          rw [hn] at hpop
          have hpr := hS.rep _ (.head _)
          simp only at hpr
          have n3 : (n : Int) < (n : Int) + 1 := by omega
          by_cases hrow : ph.row = nx
          · subst hrow
            by_cases ho : once ph.row = true
            · have hcl : (ph.row == ph.row && once ph.row) = true := by simpa using ho
              rw [hcl] at hR
              simp only [if_true] at hR
              go_wp2_with (first
                | (go_at_call 87; refine (waits_any _ Tp bp _ _ _ _ rfl).mono ?_; rintro e w4 ⟨rfl, h4⟩; rw [hwt]; have hL := hL.upto h4; have hpop := hpop.upto h4; have hrep := hrep.upon h4; have hpr := hpr.upon h4; have d0 := (h4.cell (p := ⟨g, n * 3, none⟩) hgs).trans c0; have d1 := (h4.cell (p := ⟨g, n * 3 + 1, none⟩) hgs).trans c1; have d2 := (h4.cell (p := ⟨g, n * 3 + 2, none⟩) hgs).trans c2)
                | (go_at_call 88; refine (once_any _ _).mono ?_; rintro e w9 ⟨rfl, h9⟩; subst w9; rw [ho]))
              have z4 : g < w4.heap.size := Nat.lt_of_lt_of_le hgs h4.size
              go_region_held3 (fun w' => w'.cell? ⟨g, n * 3, none⟩ = some (.iface Tp (.pointer (some ⟨bp, 0, none⟩))) ∧ w'.cell? ⟨g, n * 3 + 1, none⟩ = some (.string ph.op)) (go_keep) (fail)
              all_goals
                go_wp2_with fail
                go_roundg n
                case measure => omega
                case rel =>
                  have hb4 : Below w4.heap.size w4 ((w4.alloc (.cells #[.iface Tp (.pointer (some ⟨bp, 0, none⟩)), .string ph.op, .iface T' (.pointer (some ⟨b', 0, none⟩))] 192)).drew) := (below_alloc _ _).drew
                  have z5 := hL.kept.size
                  exact ⟨hv', .bin ph.left ph.op side', _, _, _, hn.symm, rfl, rfl, hL.upto hb4, hpop.upto hb4, .bin ⟨z5, by simp [Value.ownBlock]; omega⟩ (box_cell _ _ _ _) (box_cell _ _ _ _) (box_cell _ _ _ _) (hpr.upon hb4) (hrep.upon hb4), by omega, hR⟩
            · have ho : once ph.row = false := by simpa using ho
              have hcl : (ph.row == ph.row && once ph.row) = false := by simpa using ho
              rw [hcl] at hR
              simp only [Bool.false_eq_true, if_false] at hR
              go_wp2_with (first
                | (go_at_call 87; refine (waits_any _ Tp bp _ _ _ _ rfl).mono ?_; rintro e w4 ⟨rfl, h4⟩; rw [hwt]; have hL := hL.upto h4; have hpop := hpop.upto h4; have hrep := hrep.upon h4; have hpr := hpr.upon h4; have d0 := (h4.cell (p := ⟨g, n * 3, none⟩) hgs).trans c0; have d1 := (h4.cell (p := ⟨g, n * 3 + 1, none⟩) hgs).trans c1; have d2 := (h4.cell (p := ⟨g, n * 3 + 2, none⟩) hgs).trans c2)
                | (go_at_call 88; refine (once_any _ _).mono ?_; rintro e w9 ⟨rfl, h9⟩; subst w9; rw [ho]))
              have z4 : g < w4.heap.size := Nat.lt_of_lt_of_le hgs h4.size
              go_region_held3 (fun w' => w'.cell? ⟨g, n * 3, none⟩ = some (.iface Tp (.pointer (some ⟨bp, 0, none⟩))) ∧ w'.cell? ⟨g, n * 3 + 1, none⟩ = some (.string ph.op)) (go_keep) (fail)
              all_goals
                go_wp2_with fail
                go_roundg n
                case measure => omega
                case rel =>
                  have hb4 : Below w4.heap.size w4 ((w4.alloc (.cells #[.iface Tp (.pointer (some ⟨bp, 0, none⟩)), .string ph.op, .iface T' (.pointer (some ⟨b', 0, none⟩))] 192)).drew) := (below_alloc _ _).drew
                  have z5 := hL.kept.size
                  exact ⟨hv', .bin ph.left ph.op side', _, _, _, hn.symm, rfl, rfl, hL.upto hb4, hpop.upto hb4, .bin ⟨z5, by simp [Value.ownBlock]; omega⟩ (box_cell _ _ _ _) (box_cell _ _ _ _) (box_cell _ _ _ _) (hpr.upon hb4) (hrep.upon hb4), by omega, hR⟩
          · have hcl : (ph.row == nx && once nx) = false := by simp [hrow]
            rw [hcl] at hR
            simp only [Bool.false_eq_true, if_false] at hR
            have hne : (ph.row == nx) = false := by simpa using hrow
            have ho : True := trivial
            · go_wp2_with (first
                | (go_at_call 87; refine (waits_any _ Tp bp _ _ _ _ rfl).mono ?_; rintro e w4 ⟨rfl, h4⟩; rw [hwt]; have hL := hL.upto h4; have hpop := hpop.upto h4; have hrep := hrep.upon h4; have hpr := hpr.upon h4; have d0 := (h4.cell (p := ⟨g, n * 3, none⟩) hgs).trans c0; have d1 := (h4.cell (p := ⟨g, n * 3 + 1, none⟩) hgs).trans c1; have d2 := (h4.cell (p := ⟨g, n * 3 + 2, none⟩) hgs).trans c2)
                | (go_at_call 88; refine (once_any _ _).mono ?_; rintro e w9 ⟨rfl, h9⟩; subst w9; rw [ho]))
              have z4 : g < w4.heap.size := Nat.lt_of_lt_of_le hgs h4.size
              go_region_held3 (fun w' => w'.cell? ⟨g, n * 3, none⟩ = some (.iface Tp (.pointer (some ⟨bp, 0, none⟩))) ∧ w'.cell? ⟨g, n * 3 + 1, none⟩ = some (.string ph.op)) (go_keep) (fail)
              all_goals
                go_wp2_with fail
                go_roundg n
                case measure => omega
                case rel =>
                  have hb4 : Below w4.heap.size w4 ((w4.alloc (.cells #[.iface Tp (.pointer (some ⟨bp, 0, none⟩)), .string ph.op, .iface T' (.pointer (some ⟨b', 0, none⟩))] 192)).drew) := (below_alloc _ _).drew
                  have z5 := hL.kept.size
                  exact ⟨hv', .bin ph.left ph.op side', _, _, _, hn.symm, rfl, rfl, hL.upto hb4, hpop.upto hb4, .bin ⟨z5, by simp [Value.ownBlock]; omega⟩ (box_cell _ _ _ _) (box_cell _ _ _ _) (box_cell _ _ _ _) (hpr.upon hb4) (hrep.upon hb4), by omega, hR⟩

end Go.Proofs.Tryz

namespace Go.Proofs.Tryz
open Go.RowKit

def step (P : Pars) : Pars
  | .ok none, l => stepFilter P l
  | .error r, l => stepOper P r l
  | .ok (some none), l => stepMinus P l
  | .ok (some (some none)), l => stepBound P l
  | .ok (some (some (some false))), l => stepPostfix P l
  | .ok (some (some (some true))), l => stepPrimary P l

/-- The reader, as a function. -/
def parse : Nat → Pars
  | 0 => fun _ _ => none
  | n + 1 => step (parse n)

theorem parse_sound (hI : ParsesInt) : ∀ n, Sound (parse n)
  | 0 => fun _ _ _ _ _ _ _ h _ => by cases h
  | n + 1 => fun c l t l' w rb tb h hr => by
    have hP := parse_sound hI n
    match c, h with
    | .ok none, h => exact filter_step hP h hr
    | .error r, h => exact oper_step hP h hr
    | .ok (some none), h => exact minus_step hP h hr
    | .ok (some (some none)), h => exact bound_step hP h hr
    | .ok (some (some (some false))), h => exact pfix_step hP h hr
    | .ok (some (some (some true))), h => exact primary_step hI hP h hr

end Go.Proofs.Tryz

namespace Go.Proofs.Tryz
open Go.RowKit
set_option maxRecDepth 10000

set_option maxHeartbeats 1000000 in
theorem firstUnknown_ok {p : Nat → Prop} {w : World} {v : Value} {t : Tr} (h : Rep p w v t) (ho : okT [] t = true) :
    Calls Tryz.prog 17 #[v] w fun e w' => e = .returned (.tuple #[.int .i64 0, .bool false]) ∧ Below w.heap.size w w' := by
  obtain ⟨T, b, rfl⟩ := h.shape
  go_enter Tryz.func17, Tryz.ntmps17
  go_wp2_with (go_at_call 40; refine (check1 (by exact heap_new2 w _ _) ⟨_, _, rfl⟩ (by exact (fine_all t (p := p) (env := []) ho (h.upon ((below_alloc _ _).alloc (by simp) _)) rfl))).mono ?_; rintro e w1 ⟨rfl, k1⟩; have q0 := (k1.cell (p := ⟨w.heap.size, 0, none⟩) (by simp; omega)); have q1 := (k1.cell (p := ⟨w.heap.size, 1, none⟩) (by simp; omega)); simp at q0 q1; have hB : Below w.heap.size w w1 := ((below_alloc _ _).alloc (by simp) _).trans (k1.mono (by simp; omega)))
  go_quiet (fail)
  go_wp2_with fail
  go_ret2
  exact ⟨rfl, hB.trans ((below_drewN _ _).mono hB.size)⟩

theorem rd_start {w : World} {g cap T : Nat} {toks : List Tok} (htk : Toks w g 0 toks) (hg : g < w.heap.size) (hc : toks.length ≤ cap) (hc2 : cap ≤ maxLen) : Rd (w.alloc (.cells #[.slice (some ⟨g, 0, none⟩) toks.length cap] T)) w.heap.size g toks :=
  ⟨0, cap, box_cell _ _ _ _, hc, hc2, by simp, by omega, by simp; omega, Toks.same ((below_alloc w _).block g hg) htk⟩
theorem Left.belowOf {w w1 w2 : World} {g T : Nat} {cs : Array Value} {l : List Tok} (h : Left (w1.alloc (.cells cs T)) w2 w1.heap.size g l) (hw : w.heap.size ≤ w1.heap.size) : Below w.heap.size w1 w2 :=
  ⟨h.kept.os, h.kept.tape, h.kept.output, by have := h.kept.size; simp at this; omega, fun k hk => (h.kept.block k (by simp; omega) (by omega)).trans ((below_alloc w1 _).block k (by omega))⟩

set_option maxHeartbeats 1000000 in
theorem read_ok (hI : ParsesInt) (s : ByteArray) (n m : Nat) (toks : List Tok) (z : Tok) (t : Tr) (w : World) (hs : s.size ≤ 2000) (hm : m ≤ 3000) (hS : SignsIn w) (hl : lexL s m 0 = some toks) (hp : parse n .filter toks = some (t, [z])) (hz : z.kind = 0) (ho : okT [] t = true) :
    Calls Tryz.prog 9 #[.string s] w fun e w' => ∃ T b, e = .returned (.tuple #[.iface T (.pointer (some ⟨b, 0, none⟩)), .int .i64 0, .int .i64 0]) ∧ Below w.heap.size w w' ∧ Rep (w.heap.size ≤ ·) w' (.iface T (.pointer (some ⟨b, 0, none⟩))) t := by
  have hs' : ¬ (2000 : Int) < (s.size : Int) := by omega
  go_enter Tryz.func9, Tryz.ntmps9
  go_wp2_with (first
    | (go_at_call 15; refine (readTokens_ok s m toks _ hs hm hS hl).mono ?_; rintro e w1 ⟨g, cap, rfl, hg1, hg2, htk, hc1, hc2, k1⟩)
    | (go_at_call 16; refine ((parse_sound hI n).filter hp (rd_start htk hg2 hc1 hc2)).mono ?_; rintro e w2 ⟨T, b, rfl, h2, r2⟩; have hr2 := h2.rd; obtain ⟨o, c, ⟨d1, d2, d3, d4, d5, d6, ⟨d7, d8, d9, _⟩⟩⟩ := hr2; have q1 := h2.kept.size; simp only [List.length_singleton, hz] at d1 d2 d7; have hB2 : Below w.heap.size w w2 := k1.trans (Left.belowOf h2 k1.size)))
  have hb2 : w1.heap.size < w2.heap.size := by simp at q1; omega
  go_wp2_with (first
    | (go_at_call 17; refine (firstUnknown_ok (r2.upon (below_alloc _ _)) ho).mono ?_; rintro e w3 ⟨rfl, k3⟩))
  go_ret3
  have hs1 := k1.size
  exact ⟨_, _, rfl, (hB2.alloc hB2.size _).trans (k3.mono (by have := hB2.size; simp; omega)), (((r2.low (by simp; omega)).upon (below_alloc _ _)).upon k3)⟩

end Go.Proofs.Tryz

namespace Go.Proofs.Tryz
open Go.RowKit
set_option maxRecDepth 100000

/-- What a text is read as: the tree, if all of it is taken and all names are known. -/
def readAs (s : ByteArray) : Option Tr :=
  match lexL s 1000 0 with
  | none => none
  | some l => match parse 60 .filter l with
    | some (t, [z]) => if z.kind = 0 ∧ okT [] t = true then some t else none
    | _ => none
theorem readAs_ok (hI : ParsesInt) {s : ByteArray} {t : Tr} (h : readAs s = some t) (w : World) (hs : s.size ≤ 2000) (hS : SignsIn w) :
    Calls Tryz.prog 9 #[.string s] w fun e w' => ∃ T b, e = .returned (.tuple #[.iface T (.pointer (some ⟨b, 0, none⟩)), .int .i64 0, .int .i64 0]) ∧ Below w.heap.size w w' ∧ Rep (w.heap.size ≤ ·) w' (.iface T (.pointer (some ⟨b, 0, none⟩))) t := by
  unfold readAs at h
  split at h
  · cases h
  · rename_i l hl
    split at h
    · rename_i t' z hp
      split at h
      · rename_i hz
        cases h
        exact read_ok hI s 60 1000 l z t w hs (by omega) hS hl hp hz.1 hz.2
      · cases h
    · cases h

/-- .[0] + .[1] -/
def fPlus : ByteArray := ⟨#[46, 91, 48, 93, 32, 43, 32, 46, 91, 49, 93]⟩
/-- .[0] - .[1] -/
def fMinus : ByteArray := ⟨#[46, 91, 48, 93, 32, 45, 32, 46, 91, 49, 93]⟩
/-- .[0] * .[1] -/
def fTimes : ByteArray := ⟨#[46, 91, 48, 93, 32, 42, 32, 46, 91, 49, 93]⟩
/-- .[0] / .[1] -/
def fOver : ByteArray := ⟨#[46, 91, 48, 93, 32, 47, 32, 46, 91, 49, 93]⟩
/-- .[0] % .[1] -/
def fRest : ByteArray := ⟨#[46, 91, 48, 93, 32, 37, 32, 46, 91, 49, 93]⟩
/-- [.[0] == .[1], .[0] < .[1], .[0] <= .[1], .[0] > .[1], .[0] != .[1]] -/
def fOrder : ByteArray := ⟨#[91, 46, 91, 48, 93, 32, 61, 61, 32, 46, 91, 49, 93, 44, 32, 46, 91, 48, 93, 32, 60, 32, 46, 91, 49, 93, 44, 32, 46, 91, 48, 93, 32, 60, 61, 32, 46, 91, 49, 93, 44, 32, 46, 91, 48, 93, 32, 62, 32, 46, 91, 49, 93, 44, 32, 46, 91, 48, 93, 32, 33, 61, 32, 46, 91, 49, 93, 93]⟩
theorem readsPlus : readAs fPlus = some (.bin (.index .ident (.num 0)) ⟨#[43]⟩ (.index .ident (.num 1))) := by kernel_rfl
theorem readsMinus : readAs fMinus = some (.bin (.index .ident (.num 0)) ⟨#[45]⟩ (.index .ident (.num 1))) := by kernel_rfl
theorem readsTimes : readAs fTimes = some (.bin (.index .ident (.num 0)) ⟨#[42]⟩ (.index .ident (.num 1))) := by kernel_rfl
theorem readsOver : readAs fOver = some (.bin (.index .ident (.num 0)) ⟨#[47]⟩ (.index .ident (.num 1))) := by kernel_rfl
theorem readsRest : readAs fRest = some (.bin (.index .ident (.num 0)) ⟨#[37]⟩ (.index .ident (.num 1))) := by kernel_rfl
def cmp (op : ByteArray) : Tr := .bin (.index .ident (.num 0)) op (.index .ident (.num 1))
theorem readsOrder : readAs fOrder = some (.collect (.bin (.bin (.bin (.bin (cmp ⟨#[61, 61]⟩) ⟨#[44]⟩ (cmp ⟨#[60]⟩)) ⟨#[44]⟩ (cmp ⟨#[60, 61]⟩)) ⟨#[44]⟩ (cmp ⟨#[62]⟩)) ⟨#[44]⟩ (cmp ⟨#[33, 61]⟩))) := by kernel_rfl
/-- The definitions that there are, and a point behind them. -/
def fDefs : ByteArray := ⟨#[10, 100, 101, 102, 32, 109, 97, 112, 40, 102, 41, 58, 32, 91, 46, 91, 93, 32, 124, 32, 102, 93, 59, 10, 100, 101, 102, 32, 115, 101, 108, 101, 99, 116, 40, 102, 41, 58, 32, 105, 102, 32, 102, 32, 116, 104, 101, 110, 32, 46, 32, 101, 108, 115, 101, 32, 101, 109, 112, 116, 121, 32, 101, 110, 100, 59, 10, 100, 101, 102, 32, 114, 101, 99, 117, 114, 115, 101, 40, 102, 41, 58, 32, 46, 44, 32, 40, 102, 32, 124, 32, 114, 101, 99, 117, 114, 115, 101, 40, 102, 41, 41, 59, 10, 100, 101, 102, 32, 117, 110, 116, 105, 108, 40, 99, 59, 32, 102, 41, 58, 32, 105, 102, 32, 99, 32, 116, 104, 101, 110, 32, 46, 32, 101, 108, 115, 101, 32, 40, 102, 32, 124, 32, 117, 110, 116, 105, 108, 40, 99, 59, 32, 102, 41, 41, 32, 101, 110, 100, 59, 10, 100, 101, 102, 32, 114, 101, 112, 101, 97, 116, 40, 102, 41, 58, 32, 46, 44, 32, 40, 102, 32, 124, 32, 114, 101, 112, 101, 97, 116, 40, 102, 41, 41, 59, 10, 100, 101, 102, 32, 119, 104, 105, 108, 101, 40, 99, 59, 32, 102, 41, 58, 32, 105, 102, 32, 99, 32, 116, 104, 101, 110, 32, 46, 44, 32, 40, 102, 32, 124, 32, 119, 104, 105, 108, 101, 40, 99, 59, 32, 102, 41, 41, 32, 101, 108, 115, 101, 32, 101, 109, 112, 116, 121, 32, 101, 110, 100, 59, 10, 100, 101, 102, 32, 105, 115, 118, 97, 108, 105, 100, 40, 102, 41, 58, 32, 116, 114, 121, 32, 40, 102, 32, 124, 32, 116, 114, 117, 101, 41, 32, 99, 97, 116, 99, 104, 32, 102, 97, 108, 115, 101, 59, 10, 100, 101, 102, 32, 108, 97, 115, 116, 40, 102, 41, 58, 32, 114, 101, 100, 117, 99, 101, 32, 102, 32, 97, 115, 32, 36, 120, 32, 40, 110, 117, 108, 108, 59, 32, 36, 120, 41, 59, 10, 46]⟩
theorem readsDefs : (readAs fDefs).isSome = true := by kernel_rfl

end Go.Proofs.Tryz

