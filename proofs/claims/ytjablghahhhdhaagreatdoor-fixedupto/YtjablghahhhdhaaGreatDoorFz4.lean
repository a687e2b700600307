import Derived.Test.YtjablghahhhdhaaGreatDoorNum
import Derived.Test.YtjablghahhhdhaaGreatDoorFy12
import Derived.Test.YtjablghahhhdhaaGreatDoorCanon3
import Derived.Laws.BitsAllLaws
import Derived.Deep.RegionLaw
import Derived.Deep.AppendLies
import Derived.Lib.OthersKept
set_option linter.all false
namespace Go.Proofs.Tryz
open Go.RowKit
set_option maxRecDepth 10000

theorem esc_len (c : UInt8) : 1 ≤ (escB c).length ∧ (escB c).length ≤ 6 := by
  unfold escB
  repeat' split
  all_goals simp
theorem escs_len (l : Bys) : (l.flatMap escB).length ≤ 6 * l.length := by
  induction l with
  | nil => simp
  | cons c l ih =>
    have := esc_len c
    rw [List.flatMap_cons, List.length_append, List.length_cons]
    omega
theorem own_kind {w : World} {B e s n : Nat} {v : Value} {xs : List Value} (h : w.ownsRow B e s v n xs) : ∀ k, v.ownBlock = some k → ∃ c fz, w.heap[k]? = some (.cells c e fz) := by
  intro k hk
  rcases h.2 with ⟨rfl, _⟩ | ⟨g, cap, cur, rfl, _, hb, _⟩
  · cases hk
  · cases hk
    exact ⟨cur, (0, 0), hb⟩
theorem hexS_at {i : Nat} (h : i < 16) {h2} : (⟨#[48, 49, 50, 51, 52, 53, 54, 55, 56, 57, 97, 98, 99, 100, 101, 102]⟩ : ByteArray)[i]'h2 = hexC i := by
  have : ∀ k : Fin 16, (⟨#[48, 49, 50, 51, 52, 53, 54, 55, 56, 57, 97, 98, 99, 100, 101, 102]⟩ : ByteArray)[k.1]'(k.2) = hexC k.1 := by decide
  exact this ⟨i, h⟩
/-- What is written of a string up to j. -/
def strO (s : ByteArray) (j : Nat) : Bys := 34 :: (s.data.toList.take j).flatMap escB
theorem strO_step {s : ByteArray} {j : Nat} (h : j < s.size) : strO s (j + 1) = strO s j ++ escB s[j] := by
  unfold strO
  have ht : s.data.toList.take (j + 1) = s.data.toList.take j ++ [s[j]] := by
    rw [List.take_succ, at_list s j h]; rfl
  rw [ht, List.flatMap_append]
  simp

set_option maxHeartbeats 8000000 in
theorem appendString_any {w : World} {B : Nat} {sv : Value} {out : List UInt8} (s : ByteArray) (hs : s.size ≤ 10000000000) (hown : w.ownsRow B 5 1 sv out.length (Lib.byteCells out)) (hB : B ≤ w.heap.size) (ho : out.length ≤ 10000000000) :
    Calls Tryz.prog 33 #[sv, .string s] w fun e w' => ∃ v', e = .returned v' ∧ w'.ownsRow B 5 1 v' (out.length + (quoteL s.data.toList).length) (Lib.byteCells out ++ Lib.byteCells (quoteL s.data.toList)) ∧ Below B w w' ∧ Lib.OthersKept 5 none w w' := by
  obtain ⟨i0, hi0, hz0, hz1, hz2⟩ := info_parts (show (Tryz.prog.info? 5).map (fun i => (i.zero, i.size, i.bytes)) = some (some (.int .u8 0), 1, 1) by kernel_rfl)
  obtain ⟨oa, ol, oc, rfl⟩ := owns_shape hown
  go_enter Tryz.func33, Tryz.ntmps33
  go_wp2_with (refine wpList_append_lies _ (by rfl) _ _ _ (by rfl) B 5 i0 _ 1 1 Tryz.underlying50 hi0 hz0 hz1 hz2 rfl (by omega) _ out.length (Lib.byteCells out) (by rfl) (hown.alloc _) ⟨w.heap.size, 0, none⟩ 1 1 [.int .u8 34] (by rfl) (by rfl) (World.news_of_block (cs := #[.int .u8 34]) (t := 5) (fr := (0, 0)) (heap_new w _)) (by simp [Value.oneCell']) (by omega) (by unfold maxLen; omega) (by omega) (by simp; omega) (w.heap.size + 1) (by simp) ?_; intro g cap w2 hown2 hgrow2 hat2 hlt2)
  go_loopg [0, 5, 6, 12] s.size (fun k v0 v5 v6 v12 wr => ∃ (j n : Nat), k + j = s.size ∧ v12 = .int .i64 j ∧ Below B w wr ∧ Aside (Lib.OthersKept 5 none w wr) ∧ Hid (n = out.length + (strO s j).length) ∧ n ≤ out.length + 1 + 6 * j ∧ wr.ownsRow B 5 1 v0 n (Lib.byteCells out ++ Lib.byteCells (strO s j)))
  case atStart =>
    refine ⟨0, out.length + 1, by omega, rfl, ?_, ((Lib.OthersKept.refl _ _ w).alloc _).grown hgrow2 (own_kind (hown.alloc _)), rfl, by omega, ?_⟩
    · exact ((Below.refl B w).alloc hB _).grown hgrow2 (by simp; omega) (fun q hq => (hown.lt q hq).1)
    · simpa [Lib.byteCells, strO] using hown2
  case round =>
    clear hown2 hgrow2 hat2 hlt2
    obtain ⟨j, n, hj, rfl, hb, hok, hn, hn2, hown3⟩ := hrel
    obtain ⟨ra, rl, rc, rfl⟩ := owns_shape hown3
    have hbz := hb.size
    by_cases hlt : j < s.size
    · obtain ⟨k, rfl⟩ : ∃ k, gk = k + 1 := ⟨gk - 1, by omega⟩
      have hl' : (j : Int) < (s.size : Int) := by omega
      have ha0 : (0 : Int) ≤ (j : Int) := by omega
      have hst := strO_step hlt
      have hr : (s[j]).toNat < 256 := (s[j]).toNat_lt
      obtain ⟨c, hc⟩ : ∃ c, s[j] = c := ⟨_, rfl⟩
      rw [hc] at hst hr
      obtain ⟨cn, hcn⟩ : ∃ cn : Nat, c.toNat = cn := ⟨_, rfl⟩
      have HST : Hid _ := hst
      have HC : Hid _ := hc
      have hnext : ∀ (more : Bys) (w4 : World) (v4 : Value), escB c = more → more.length ≤ 6 → w4.ownsRow B 5 1 v4 (n + more.length) (Lib.byteCells out ++ Lib.byteCells (strO s j) ++ Lib.byteCells more) → (n + more.length ≤ out.length + 1 + 6 * (j + 1)) ∧ Hid (n + more.length = out.length + (strO s (j + 1)).length) ∧ w4.ownsRow B 5 1 v4 (n + more.length) (Lib.byteCells out ++ Lib.byteCells (strO s (j + 1))) := fun more w4 v4 e1 e2 e3 => by
        refine ⟨by omega, ?_, ?_⟩
        · show _ = _
          rw [HST.out, e1, List.length_append]; have := hn.out; omega
        · rw [HST.out, e1, byteCells_append, ← List.append_assoc]; exact e3
      have HNX : Aside _ := hnext
      clear hst hc hnext
      have HCN : Hid (c.toNat = cn) := hcn
      have hv : ((s[j].toNat : Nat) : Int) = (cn : Int) := by rw [HC.out, hcn]
      have hcc : c = UInt8.ofNat cn := by rw [← hcn]; simp
      have HCC : Hid _ := hcc
      clear hcn hcc
      by_cases k32 : 32 ≤ cn ∧ cn ≠ 34 ∧ cn ≠ 92
      · obtain ⟨p1, p2, p3⟩ := k32
        have q1 : ((cn : Int) == 34) = false := by simp; omega
        have q2 : ((cn : Int) == 92) = false := by simp; omega
        have q3 : ((cn : Int) == 8) = false := by simp; omega
        have q4 : ((cn : Int) == 9) = false := by simp; omega
        have q5 : ((cn : Int) == 10) = false := by simp; omega
        have q6 : ((cn : Int) == 12) = false := by simp; omega
        have q7 : ((cn : Int) == 13) = false := by simp; omega
        have q8 : ¬ (cn : Int) < 32 := by omega
        go_wp2_with (refine wpList_append_lies _ (by rfl) _ _ _ (by rfl) B 5 i0 _ 1 1 Tryz.underlying50 hi0 hz0 hz1 hz2 rfl (by omega) _ n (Lib.byteCells out ++ Lib.byteCells (strO s j)) (by rfl) (hown3.alloc _) ⟨wr.heap.size, 0, none⟩ 1 1 [.int .u8 (cn : Int)] (by rfl) (by rfl) (World.news_of_block (cs := #[.int .u8 (cn : Int)]) (t := 5) (fr := (0, 0)) (heap_new wr _)) (by simp [Value.oneCell']) (by omega) (by unfold maxLen; omega) (by omega) (by simp; omega) (wr.heap.size + 1) (by simp) ?_; intro g4 cap4 w4 hown4 hgrow4 hat4 hlt4)
        go_roundg k
        case measure => omega
        case rel =>
          have he : escB c = [c] := by
            have hcN := HCN.out
            unfold escB
            rw [if_neg (by rintro (e | e) <;> (rw [e] at hcN; simp at hcN; omega)), if_neg (by intro e; rw [e] at hcN; simp at hcN; omega), if_neg (by intro e; rw [e] at hcN; simp at hcN; omega), if_neg (by intro e; rw [e] at hcN; simp at hcN; omega), if_neg (by intro e; rw [e] at hcN; simp at hcN; omega), if_neg (by intro e; rw [e] at hcN; simp at hcN; omega), if_neg (by simp only [UInt8.lt_iff_toNat_lt]; rw [hcN]; simp; omega)]
          obtain ⟨r1, r2, r3⟩ := HNX.out [c] w4 _ he (by simp) (by have := HCN.out; simpa [Lib.byteCells, this] using hown4)
          exact ⟨j + 1, _, by omega, by go_num, (hb.alloc (by omega) _).grown hgrow4 (by simp; omega) (fun q hq => (hown3.lt q hq).1), Lib.OthersKept.grown (Lib.OthersKept.alloc hok.out _) hgrow4 (own_kind (hown3.alloc _)), r2, r1, r3⟩
      · by_cases k34 : cn = 34
        · have hv2 : ((s[j].toNat : Nat) : Int) = 34 := by rw [hv, k34]; rfl
          clear hv
          go_wp2_with (refine wpList_append_lies _ (by rfl) _ _ _ (by rfl) B 5 i0 _ 1 1 Tryz.underlying50 hi0 hz0 hz1 hz2 rfl (by omega) _ n (Lib.byteCells out ++ Lib.byteCells (strO s j)) (by rfl) (hown3.alloc _) ⟨wr.heap.size, 0, none⟩ 2 2 [.int .u8 92, .int .u8 34] (by rfl) (by rfl) (World.news_of_block (cs := #[.int .u8 92, .int .u8 34]) (t := 5) (fr := (0, 0)) (heap_new wr _)) (by simp [Value.oneCell']) (by omega) (by unfold maxLen; omega) (by omega) (by simp; omega) (wr.heap.size + 1) (by simp) ?_; intro g4 cap4 w4 hown4 hgrow4 hat4 hlt4)
          go_roundg k
          case measure => omega
          case rel =>
            obtain ⟨r1, r2, r3⟩ := HNX.out [92, 34] w4 _ (by rw [HCC.out, k34]; decide) (by decide) (by first | exact hown4 | simpa [Lib.byteCells] using hown4)
            exact ⟨j + 1, _, by omega, by go_num, (hb.alloc (by omega) _).grown hgrow4 (by simp; omega) (fun q hq => (hown3.lt q hq).1), Lib.OthersKept.grown (Lib.OthersKept.alloc hok.out _) hgrow4 (own_kind (hown3.alloc _)), r2, r1, r3⟩
        · by_cases k92 : cn = 92
          · have hv2 : ((s[j].toNat : Nat) : Int) = 92 := by rw [hv, k92]; rfl
            clear hv
            go_wp2_with (refine wpList_append_lies _ (by rfl) _ _ _ (by rfl) B 5 i0 _ 1 1 Tryz.underlying50 hi0 hz0 hz1 hz2 rfl (by omega) _ n (Lib.byteCells out ++ Lib.byteCells (strO s j)) (by rfl) (hown3.alloc _) ⟨wr.heap.size, 0, none⟩ 2 2 [.int .u8 92, .int .u8 92] (by rfl) (by rfl) (World.news_of_block (cs := #[.int .u8 92, .int .u8 92]) (t := 5) (fr := (0, 0)) (heap_new wr _)) (by simp [Value.oneCell']) (by omega) (by unfold maxLen; omega) (by omega) (by simp; omega) (wr.heap.size + 1) (by simp) ?_; intro g4 cap4 w4 hown4 hgrow4 hat4 hlt4)
            go_roundg k
            case measure => omega
            case rel =>
              obtain ⟨r1, r2, r3⟩ := HNX.out [92, 92] w4 _ (by rw [HCC.out, k92]; decide) (by decide) (by first | exact hown4 | simpa [Lib.byteCells] using hown4)
              exact ⟨j + 1, _, by omega, by go_num, (hb.alloc (by omega) _).grown hgrow4 (by simp; omega) (fun q hq => (hown3.lt q hq).1), Lib.OthersKept.grown (Lib.OthersKept.alloc hok.out _) hgrow4 (own_kind (hown3.alloc _)), r2, r1, r3⟩
          · by_cases k8 : cn = 8
            · have hv2 : ((s[j].toNat : Nat) : Int) = 8 := by rw [hv, k8]; rfl
              clear hv
              go_wp2_with (refine Lib.wpList_append_own_string _ (by rfl) _ _ 50 9 (by rfl) B 5 i0 Tryz.underlying50 Tryz.underlying9 hi0 hz0 hz1 hz2 _ n (Lib.byteCells out ++ Lib.byteCells (strO s j)) (by rfl) hown3 ⟨#[92, 98]⟩ (by rfl) (by unfold maxLen; simp [ByteArray.size]; omega) (by simp [ByteArray.size]; omega) (by omega) ?_; intro v4 w4 hown4 hgrow4 _; obtain ⟨a4, l4, c4, rfl⟩ := owns_shape hown4)
              go_roundg k
              case measure => omega
              case rel =>
                obtain ⟨r1, r2, r3⟩ := HNX.out [92, 98] w4 _ (by rw [HCC.out, k8]; decide) (by decide) (by first | exact hown4 | simpa [Lib.byteCells] using hown4)
                exact ⟨j + 1, _, by omega, by go_num, hb.grown hgrow4 (by omega) (fun q hq => (hown3.lt q hq).1), Lib.OthersKept.grown hok.out hgrow4 (own_kind hown3), r2, r1, r3⟩
            · by_cases k9 : cn = 9
              · have hv2 : ((s[j].toNat : Nat) : Int) = 9 := by rw [hv, k9]; rfl
                clear hv
                go_wp2_with (refine Lib.wpList_append_own_string _ (by rfl) _ _ 50 9 (by rfl) B 5 i0 Tryz.underlying50 Tryz.underlying9 hi0 hz0 hz1 hz2 _ n (Lib.byteCells out ++ Lib.byteCells (strO s j)) (by rfl) hown3 ⟨#[92, 116]⟩ (by rfl) (by unfold maxLen; simp [ByteArray.size]; omega) (by simp [ByteArray.size]; omega) (by omega) ?_; intro v4 w4 hown4 hgrow4 _; obtain ⟨a4, l4, c4, rfl⟩ := owns_shape hown4)
                go_roundg k
                case measure => omega
                case rel =>
                  obtain ⟨r1, r2, r3⟩ := HNX.out [92, 116] w4 _ (by rw [HCC.out, k9]; decide) (by decide) (by first | exact hown4 | simpa [Lib.byteCells] using hown4)
                  exact ⟨j + 1, _, by omega, by go_num, hb.grown hgrow4 (by omega) (fun q hq => (hown3.lt q hq).1), Lib.OthersKept.grown hok.out hgrow4 (own_kind hown3), r2, r1, r3⟩
              · by_cases k10 : cn = 10
                · have hv2 : ((s[j].toNat : Nat) : Int) = 10 := by rw [hv, k10]; rfl
                  clear hv
                  go_wp2_with (refine Lib.wpList_append_own_string _ (by rfl) _ _ 50 9 (by rfl) B 5 i0 Tryz.underlying50 Tryz.underlying9 hi0 hz0 hz1 hz2 _ n (Lib.byteCells out ++ Lib.byteCells (strO s j)) (by rfl) hown3 ⟨#[92, 110]⟩ (by rfl) (by unfold maxLen; simp [ByteArray.size]; omega) (by simp [ByteArray.size]; omega) (by omega) ?_; intro v4 w4 hown4 hgrow4 _; obtain ⟨a4, l4, c4, rfl⟩ := owns_shape hown4)
                  go_roundg k
                  case measure => omega
                  case rel =>
                    obtain ⟨r1, r2, r3⟩ := HNX.out [92, 110] w4 _ (by rw [HCC.out, k10]; decide) (by decide) (by first | exact hown4 | simpa [Lib.byteCells] using hown4)
                    exact ⟨j + 1, _, by omega, by go_num, hb.grown hgrow4 (by omega) (fun q hq => (hown3.lt q hq).1), Lib.OthersKept.grown hok.out hgrow4 (own_kind hown3), r2, r1, r3⟩
                · by_cases k12 : cn = 12
                  · have hv2 : ((s[j].toNat : Nat) : Int) = 12 := by rw [hv, k12]; rfl
                    clear hv
                    go_wp2_with (refine Lib.wpList_append_own_string _ (by rfl) _ _ 50 9 (by rfl) B 5 i0 Tryz.underlying50 Tryz.underlying9 hi0 hz0 hz1 hz2 _ n (Lib.byteCells out ++ Lib.byteCells (strO s j)) (by rfl) hown3 ⟨#[92, 102]⟩ (by rfl) (by unfold maxLen; simp [ByteArray.size]; omega) (by simp [ByteArray.size]; omega) (by omega) ?_; intro v4 w4 hown4 hgrow4 _; obtain ⟨a4, l4, c4, rfl⟩ := owns_shape hown4)
                    go_roundg k
                    case measure => omega
                    case rel =>
                      obtain ⟨r1, r2, r3⟩ := HNX.out [92, 102] w4 _ (by rw [HCC.out, k12]; decide) (by decide) (by first | exact hown4 | simpa [Lib.byteCells] using hown4)
                      exact ⟨j + 1, _, by omega, by go_num, hb.grown hgrow4 (by omega) (fun q hq => (hown3.lt q hq).1), Lib.OthersKept.grown hok.out hgrow4 (own_kind hown3), r2, r1, r3⟩
                  · by_cases k13 : cn = 13
                    · have hv2 : ((s[j].toNat : Nat) : Int) = 13 := by rw [hv, k13]; rfl
                      clear hv
                      go_wp2_with (refine Lib.wpList_append_own_string _ (by rfl) _ _ 50 9 (by rfl) B 5 i0 Tryz.underlying50 Tryz.underlying9 hi0 hz0 hz1 hz2 _ n (Lib.byteCells out ++ Lib.byteCells (strO s j)) (by rfl) hown3 ⟨#[92, 114]⟩ (by rfl) (by unfold maxLen; simp [ByteArray.size]; omega) (by simp [ByteArray.size]; omega) (by omega) ?_; intro v4 w4 hown4 hgrow4 _; obtain ⟨a4, l4, c4, rfl⟩ := owns_shape hown4)
                      go_roundg k
                      case measure => omega
                      case rel =>
                        obtain ⟨r1, r2, r3⟩ := HNX.out [92, 114] w4 _ (by rw [HCC.out, k13]; decide) (by decide) (by first | exact hown4 | simpa [Lib.byteCells] using hown4)
                        exact ⟨j + 1, _, by omega, by go_num, hb.grown hgrow4 (by omega) (fun q hq => (hown3.lt q hq).1), Lib.OthersKept.grown hok.out hgrow4 (own_kind hown3), r2, r1, r3⟩
                    · have hlow : cn < 32 := by omega
                      have q1 : ((cn : Int) == 34) = false := by simp; omega
                      have q2 : ((cn : Int) == 92) = false := by simp; omega
                      have q3 : ((cn : Int) == 8) = false := by simp; omega
                      have q4 : ((cn : Int) == 9) = false := by simp; omega
                      have q5 : ((cn : Int) == 10) = false := by simp; omega
                      have q6 : ((cn : Int) == 12) = false := by simp; omega
                      have q7 : ((cn : Int) == 13) = false := by simp; omega
                      have q8 : (cn : Int) < 32 := by omega
                      go_wp2_with (refine Lib.wpList_append_own_string _ (by rfl) _ _ 50 9 (by rfl) B 5 i0 Tryz.underlying50 Tryz.underlying9 hi0 hz0 hz1 hz2 _ n (Lib.byteCells out ++ Lib.byteCells (strO s j)) (by rfl) hown3 ⟨#[92, 117, 48, 48]⟩ (by rfl) (by unfold maxLen; simp [ByteArray.size]; omega) (by simp [ByteArray.size]; omega) (by omega) ?_; intro v4 w4 hown4 hgrow4 _; obtain ⟨a4, l4, c4, rfl⟩ := owns_shape hown4)
                      obtain ⟨hi, hhi⟩ : ∃ hi, cn / 16 = hi := ⟨_, rfl⟩
                      obtain ⟨lo, hlo⟩ : ∃ lo, cn % 16 = lo := ⟨_, rfl⟩
                      have eh : (cn : Int) / 16 = (hi : Int) := by omega
                      have el : bits .and .u8 (cn : Int) 15 = (lo : Int) := by
                        have := u8_and_nat cn 15 (by omega) (by omega)
                        rw [show (15 : Nat) = 2 ^ 4 - 1 from rfl, Nat.and_two_pow_sub_one_eq_mod] at this
                        rw [← hlo]; exact this
                      have h1 : (0 : Int) ≤ (hi : Int) := by omega
                      have h2 : (hi : Int) < 16 := by omega
                      have h3 : (0 : Int) ≤ (lo : Int) := by omega
                      have h4 : (lo : Int) < 16 := by omega
                      have h2n : hi < 16 := by omega
                      have h4n : lo < 16 := by omega
                      have HHI : Hid _ := hhi
                      have HLO : Hid _ := hlo
                      clear hhi hlo
                      have hw4 := hgrow4.size
                      go_region_law
                        ((refine step_append_lies _ (by rfl) _ _ _ (by rfl) B 5 i0 _ 1 1 Tryz.underlying50 hi0 hz0 hz1 hz2 rfl (by omega) (.slice a4 l4 c4) (n + 4) (Lib.byteCells out ++ Lib.byteCells (strO s j) ++ Lib.byteCells [92, 117, 48, 48]) (by rfl) (by first | exact World.ownsRow.alloc hown4 _ | exact (World.ownsRow.drew hown4).alloc _) ⟨w4.heap.size, 0, none⟩ 2 2 [.int .u8 (((⟨#[48, 49, 50, 51, 52, 53, 54, 55, 56, 57, 97, 98, 99, 100, 101, 102]⟩ : ByteArray)[hi]'(by show hi < 16; exact h2n)).toNat : Int), .int .u8 (((⟨#[48, 49, 50, 51, 52, 53, 54, 55, 56, 57, 97, 98, 99, 100, 101, 102]⟩ : ByteArray)[lo]'(by show lo < 16; exact h4n)).toNat : Int)] (by rfl) (by rfl) (World.news_of_block (cs := #[.int .u8 (((⟨#[48, 49, 50, 51, 52, 53, 54, 55, 56, 57, 97, 98, 99, 100, 101, 102]⟩ : ByteArray)[hi]'(by show hi < 16; exact h2n)).toNat : Int), .int .u8 (((⟨#[48, 49, 50, 51, 52, 53, 54, 55, 56, 57, 97, 98, 99, 100, 101, 102]⟩ : ByteArray)[lo]'(by show lo < 16; exact h4n)).toNat : Int)]) (t := 5) (fr := (0, 0)) (by first | exact heap_new _ _ | exact heap_alloc_new _ _)) (by simp [Value.oneCell']) (by omega) (by unfold maxLen; omega) (by omega) (by simp; omega) (w4.heap.size + 1) (by simp) ?_; intro g5 cap5 w5 hown5 hgrow5 hat5 hlt5))
                      all_goals
                        go_wp2_with fail
                        go_roundg k
                        case measure => omega
                        case rel =>
                          have he : escB c = [92, 117, 48, 48, hexC hi, hexC lo] := by
                            have hcN := HCN.out
                            unfold escB
                            rw [if_neg (by rintro (e | e) <;> (rw [e] at hcN; simp at hcN; omega)), if_neg (by intro e; rw [e] at hcN; simp at hcN; omega), if_neg (by intro e; rw [e] at hcN; simp at hcN; omega), if_neg (by intro e; rw [e] at hcN; simp at hcN; omega), if_neg (by intro e; rw [e] at hcN; simp at hcN; omega), if_neg (by intro e; rw [e] at hcN; simp at hcN; omega), if_pos (by simp only [UInt8.lt_iff_toNat_lt]; rw [hcN]; simpa using hlow), hcN, HHI.out, HLO.out]
                          have hown5' := hown5
                          rw [hexS_at h2n, hexS_at h4n] at hown5'
                          obtain ⟨r1, r2, r3⟩ := HNX.out [92, 117, 48, 48, hexC hi, hexC lo] w5 _ he (by simp) (by simpa [Lib.byteCells] using hown5')
                          refine ⟨j + 1, _, by omega, by go_num, ?_, Lib.OthersKept.grown (Lib.OthersKept.drew (Lib.OthersKept.alloc (Lib.OthersKept.grown hok.out hgrow4 (own_kind hown3)) _)) hgrow5 (own_kind (World.ownsRow.drew (World.ownsRow.alloc hown4 _))), r2, r1, r3⟩
                          have hb4 : Below B w w4 := hb.grown hgrow4 (by omega) (fun q hq => (hown3.lt q hq).1)
                          exact ((hb4.alloc (by omega) _).trans (belowD _ _ 1)).grown hgrow5 (by simp; omega) (fun q hq => (hown4.lt q hq).1)
    · go_wp2_with (refine wpList_append_lies _ (by rfl) _ _ _ (by rfl) B 5 i0 _ 1 1 Tryz.underlying50 hi0 hz0 hz1 hz2 rfl (by omega) _ n (Lib.byteCells out ++ Lib.byteCells (strO s j)) (by rfl) (hown3.alloc _) ⟨wr.heap.size, 0, none⟩ 1 1 [.int .u8 34] (by rfl) (by rfl) (World.news_of_block (cs := #[.int .u8 34]) (t := 5) (fr := (0, 0)) (heap_new wr _)) (by simp [Value.oneCell']) (by omega) (by unfold maxLen; omega) (by omega) (by simp; omega) (wr.heap.size + 1) (by simp) ?_; intro g3 cap3 w4 hown4 hgrow4 hat4 hlt4)
      go_ret
      have hjs : j = s.size := by omega
      have ht : s.data.toList.take j = s.data.toList := List.take_of_length_le (by rw [size_list]; omega)
      have hq : quoteL s.data.toList = strO s j ++ [34] := by unfold quoteL strO; rw [ht]; simp
      refine ⟨_, rfl, ?_, ?_, Lib.OthersKept.grown (Lib.OthersKept.alloc hok.out _) hgrow4 (own_kind (hown3.alloc _))⟩
      · rw [hq, List.length_append, byteCells_append, ← List.append_assoc]
        have := hn.out
        rw [show out.length + ((strO s j).length + ([34] : List UInt8).length) = n + 1 by simp; omega]
        exact hown4
      · exact (hb.alloc (by omega) _).grown hgrow4 (by simp; omega) (fun q hq => (hown3.lt q hq).1)
end Go.Proofs.Tryz

namespace Go.Proofs.Tryz
open Go.RowKit
set_option maxRecDepth 10000

/-- strconv.AppendInt at base 10: what the library's contract says of it, with what it leaves alone. -/
def AppendsIntK : Prop := ∀ (B n : Nat) (i : Int) (sv : Value) (xs : List Value) (w : World), -9223372036854775808 ≤ i → i ≤ 9223372036854775807 → w.ownsRow B 5 1 sv n xs → B ≤ w.heap.size → n + 21 ≤ 140737488355328 → Lib.TabBelow Tryz.prog B w "internal/strconv.uint64pow10" .u64 Lib.pow10Tab →
  Calls Tryz.prog 32 #[sv, .int .i64 i, .int .i64 10] w fun e w' => ∃ v', e = .returned v' ∧ w'.ownsRow B 5 1 v' (n + (Lib.itoa i).length) (xs ++ Lib.byteCells (Lib.itoa i)) ∧ Below B w w' ∧ Lib.OthersKept 5 none w w'

/-- A value that is begun. -/
structure Fm where
  obj : Bool
  row : Value
  next : Nat
  its : List (IV × Bys)
  ms : List El
def Fm.cells (f : Fm) : List Value := [.int .u8 (if f.obj then 125 else 93), if f.obj then .slice none 0 0 else f.row, if f.obj then f.row else .slice none 0 0, .int .i64 f.next]
def Fm.texts (f : Fm) : List Bys := if f.obj then f.ms.map (fun x => memT (elP x)) else f.its.map (·.2)
/-- What is still to be written of values with commas between them. -/
def restI : Bool → List Bys → Bys
  | _, [] => []
  | true, t :: r => t ++ restI false r
  | false, t :: r => 44 :: (t ++ restI false r)
def Fm.rest (f : Fm) : Bys := restI (f.next == 0) (f.texts.drop f.next) ++ [if f.obj then 125 else 93]
def restAll (fs : List Fm) : Bys := fs.reverse.flatMap Fm.rest
theorem restAll_app (fs : List Fm) (f : Fm) : restAll (fs ++ [f]) = f.rest ++ restAll fs := by simp [restAll]
theorem restI_false : ∀ (u : Bys) (r : List Bys), restI false (u :: r) = 44 :: joinT (u :: r)
  | u, [] => by simp [restI, joinT]
  | u, v :: r => by
    have ih := restI_false v r
    rw [restI, ih, joinT]
theorem join_rest : ∀ ts : List Bys, joinT ts = restI true ts
  | [] => rfl
  | [t] => by simp [joinT, restI]
  | t :: u :: r => by rw [joinT, restI, restI_false]
def FOk (w : World) (W : Nat) (f : Fm) : Prop :=
  (if f.obj then w.ownsRow 0 107 2 f.row f.ms.length (f.ms.flatMap elC) ∧ ∀ x ∈ f.ms, Vl w (· < W) x.2.1 x.2.2
  else w.ownsRow 0 32 1 f.row f.its.length (f.its.map itC) ∧ ∀ x ∈ f.its, Vl w (· < W) x.1 x.2) ∧ (∀ g, f.row.ownBlock = some g → g < W) ∧ f.next ≤ f.texts.length
theorem FOk.keep {w w' : World} {W : Nat} {f : Fm} (h : FOk w W f) (hb : ∀ b, b < W → w'.heap[b]? = w.heap[b]?) : FOk w' W f := by
  obtain ⟨h1, h2, h3⟩ := h
  refine ⟨?_, h2, h3⟩
  split
  · rename_i ho
    rw [if_pos ho] at h1
    exact ⟨owns_same h1.1 (fun k hk => hb k (h2 k hk)), fun x hx => (h1.2 x hx).mono (fun g hg => ⟨hg, hb g hg⟩)⟩
  · rename_i ho
    rw [if_neg ho] at h1
    exact ⟨owns_same h1.1 (fun k hk => hb k (h2 k hk)), fun x hx => (h1.2 x hx).mono (fun g hg => ⟨hg, hb g hg⟩)⟩
/-- The writer at W has written out; what is begun, the outermost first. -/
structure WS (w : World) (B W : Nat) (out : Bys) (fs : List Fm) : Prop where
  lt : W < B
  le : B ≤ w.heap.size
  has : ∃ ov pv, w.heap[W]? = some (.cells #[ov, pv] 53 (0, 0)) ∧ w.ownsRow B 5 1 ov out.length (Lib.byteCells out) ∧ w.ownsRow B 104 4 pv fs.length (fs.flatMap Fm.cells)
  ok : ∀ f ∈ fs, FOk w W f
theorem others_row {w w1 : World} {B n s : Nat} {e : TypeId} {pv : Value} {xs : List Value} (hok : Lib.OthersKept 5 none w w1) (h : w.ownsRow B e s pv n xs) (he : e ≠ 5) : w1.ownsRow B e s pv n xs :=
  owns_same h (fun k hk => by
    obtain ⟨c, fz, hc⟩ := own_kind h k hk
    rw [hc]
    exact hok k _ hc (by simp) (fun c' fz' e' => by cases e'; exact he rfl))
theorem WS.wrote {w w1 : World} {B W : Nat} {out more : Bys} {fs : List Fm} {pv ov v' : Value} (hlt : W < B) (hle : B ≤ w.heap.size) (hb : w.heap[W]? = some (.cells #[ov, pv] 53 (0, 0))) (hpv : w.ownsRow B 104 4 pv fs.length (fs.flatMap Fm.cells)) (hfs : ∀ f ∈ fs, FOk w W f) (k1 : Below B w w1) (hok : Lib.OthersKept 5 none w w1) (hown1 : w1.ownsRow B 5 1 v' (out.length + more.length) (Lib.byteCells out ++ Lib.byteCells more)) :
    WS (w1.setCell ⟨W, 0, none⟩ v') B W (out ++ more) fs ∧ Fr (fun k => k = W ∨ B ≤ k) w (w1.setCell ⟨W, 0, none⟩ v') := by
  have hb1 : w1.heap[W]? = some (.cells #[ov, pv] 53 (0, 0)) := (k1.block W hlt).trans hb
  have hp1 := others_row hok hpv (by decide)
  refine ⟨⟨hlt, by simpa using Nat.le_trans hle k1.size, ⟨v', pv, two_set0 hb1, ?_, ?_⟩, fun f hf => (hfs f hf).keep (fun b hb2 => ?_)⟩, ?_⟩
  · have := owns_off (o := 0) (u := v') hown1 hlt
    rw [List.length_append, byteCells_append]
    exact this
  · exact owns_same hp1 (fun k hk => Below.heap_setCell _ _ _ _ (by have := (hp1.lt k hk).1; simp; omega))
  · rw [Below.heap_setCell _ _ _ _ (by simp; omega)]
    exact k1.block b (by omega)
  · exact Fr.setCell ⟨k1.os, k1.tape, k1.output, k1.size, fun k hk hd => k1.block k (by omega)⟩ _ (.inl (.inl rfl))

/-- What begin leaves behind. -/
def BegW (B W : Nat) (out : Bys) (fs : List Fm) (c : Bys) (w w' : World) : Prop := (∃ out' new, WS w' B W out' (fs ++ new) ∧ out' ++ restAll (fs ++ new) = out ++ (c ++ restAll fs) ∧ out.length < out'.length) ∧ Fr (fun k => k = W ∨ B ≤ k) w w'
theorem BegW.leaf {w w1 w' : World} {B W : Nat} {out more : Bys} {fs : List Fm} (h : WS w' B W (out ++ more) fs ∧ Fr (fun k => k = W ∨ B ≤ k) w w') (hm : more ≠ []) : BegW B W out fs more w w' := by
  refine ⟨⟨out ++ more, [], by simpa using h.1, by simp, ?_⟩, h.2⟩
  have := List.length_pos_iff.2 hm
  rw [List.length_append]
  omega

set_option maxHeartbeats 2000000 in
theorem wbegin_str {w : World} {B W : Nat} {out : Bys} {fs : List Fm} (s : ByteArray) (hs : s.size ≤ 50000000) (h : WS w B W out fs) (ho : out.length ≤ 10000000000) :
    Calls Tryz.prog 13 #[.pointer (some ⟨W, 0, none⟩), .iface 100 (.string s)] w fun e w' => e = .returned (.tuple #[]) ∧ BegW B W out fs (quoteL s.data.toList) w w' := by
  obtain ⟨hlt, hle, ⟨ov, pv, hb, hown, hpv⟩, hfs⟩ := h
  obtain ⟨c0, c1, c2, c3, c4⟩ := two_c0 hb
  obtain ⟨oa, ol, oc, rfl⟩ := owns_shape hown
  have m0 := missVNull; have m1 := missVNumber; have m2 := hitVString; have m3 := missVArray; have m4 := missVObject; have m5 := missVBool
  go_enter Tryz.func13, Tryz.ntmps13
  go_wp2_with (go_at_call 33; refine (appendString_any s (by omega) hown hle ho).mono ?_; rintro e w1 ⟨v', rfl, hown1, k1, hok⟩; obtain ⟨a', l', c', rfl⟩ := owns_shape hown1; obtain ⟨d0, d1, d2, d3, d4⟩ := two_c0 ((k1.block W hlt).trans hb))
  go_end0
  exact ⟨rfl, BegW.leaf (w1 := w1) (WS.wrote hlt hle hb hpv hfs k1 hok hown1) (by simp [quoteL])⟩

theorem itoa_ne (n : Int) : Lib.itoa n ≠ [] := by
  unfold Lib.itoa
  split
  · simp
  · exact dec_ne _
set_option maxHeartbeats 2000000 in
theorem wbegin_num (hA : AppendsIntK) {w : World} {B W : Nat} {out : Bys} {fs : List Fm} (n : Int) (h0 : -9223372036854775808 ≤ n) (h1 : n ≤ 9223372036854775807) (h : WS w B W out fs) (ho : out.length ≤ 10000000000) (ht : Lib.TabBelow Tryz.prog B w "internal/strconv.uint64pow10" .u64 Lib.pow10Tab) :
    Calls Tryz.prog 13 #[.pointer (some ⟨W, 0, none⟩), .iface 98 (.int .i64 n)] w fun e w' => e = .returned (.tuple #[]) ∧ BegW B W out fs (Lib.itoa n) w w' := by
  obtain ⟨hlt, hle, ⟨ov, pv, hb, hown, hpv⟩, hfs⟩ := h
  obtain ⟨c0, c1, c2, c3, c4⟩ := two_c0 hb
  obtain ⟨oa, ol, oc, rfl⟩ := owns_shape hown
  have m0 := missVNull; have m1 := hitVNumber; have m2 := missVString; have m3 := missVArray; have m4 := missVObject; have m5 := missVBool
  go_enter Tryz.func13, Tryz.ntmps13
  go_wp2_with (go_at_call 32; refine (hA B _ n _ _ _ h0 h1 hown hle (by omega) ht).mono ?_; rintro e w1 ⟨v', rfl, hown1, k1, hok⟩; obtain ⟨a', l', c', rfl⟩ := owns_shape hown1; obtain ⟨d0, d1, d2, d3, d4⟩ := two_c0 ((k1.block W hlt).trans hb))
  go_end0
  exact ⟨rfl, BegW.leaf (w1 := w1) (WS.wrote hlt hle hb hpv hfs k1 hok hown1) (itoa_ne n)⟩

set_option maxHeartbeats 2000000 in
theorem iAppendBool_any {w : World} {B : Nat} {sv : Value} {out : Bys} (b : Bool) (hown : w.ownsRow B 5 1 sv out.length (Lib.byteCells out)) (hB : B ≤ w.heap.size) (ho : out.length ≤ 10000000000) :
    Calls Tryz.prog 74 #[sv, .bool b] w fun e w' => ∃ v', e = .returned v' ∧ w'.ownsRow B 5 1 v' (out.length + (boolT b).length) (Lib.byteCells out ++ Lib.byteCells (boolT b)) ∧ Below B w w' ∧ Lib.OthersKept 5 none w w' := by
  obtain ⟨i0, hi0, hz0, hz1, hz2⟩ := info_parts (show (Tryz.prog.info? 5).map (fun i => (i.zero, i.size, i.bytes)) = some (some (.int .u8 0), 1, 1) by kernel_rfl)
  obtain ⟨oa, ol, oc, rfl⟩ := owns_shape hown
  cases b with
  | true =>
    go_enter Tryz.func74, Tryz.ntmps74
    go_wp2_with (refine Lib.wpList_append_own_string _ (by rfl) _ _ 50 9 (by rfl) B 5 i0 Tryz.underlying50 Tryz.underlying9 hi0 hz0 hz1 hz2 _ out.length (Lib.byteCells out) (by rfl) hown ⟨#[116, 114, 117, 101]⟩ (by rfl) (by unfold maxLen; simp [ByteArray.size]; omega) (by simp [ByteArray.size]; omega) hB ?_; intro v' w1 hown1 hgrow1 _; obtain ⟨a', l', c', rfl⟩ := owns_shape hown1)
    go_ret
    exact ⟨_, rfl, hown1, (Below.refl B w).grown hgrow1 hB (fun q hq => (hown.lt q hq).1), (Lib.OthersKept.refl _ _ w).grown hgrow1 (own_kind hown)⟩
  | false =>
    go_enter Tryz.func74, Tryz.ntmps74
    go_wp2_with (refine Lib.wpList_append_own_string _ (by rfl) _ _ 50 9 (by rfl) B 5 i0 Tryz.underlying50 Tryz.underlying9 hi0 hz0 hz1 hz2 _ out.length (Lib.byteCells out) (by rfl) hown ⟨#[102, 97, 108, 115, 101]⟩ (by rfl) (by unfold maxLen; simp [ByteArray.size]; omega) (by simp [ByteArray.size]; omega) hB ?_; intro v' w1 hown1 hgrow1 _; obtain ⟨a', l', c', rfl⟩ := owns_shape hown1)
    go_ret
    exact ⟨_, rfl, hown1, (Below.refl B w).grown hgrow1 hB (fun q hq => (hown.lt q hq).1), (Lib.OthersKept.refl _ _ w).grown hgrow1 (own_kind hown)⟩
set_option maxHeartbeats 2000000 in
theorem AppendBool_any {w : World} {B : Nat} {sv : Value} {out : Bys} (b : Bool) (hown : w.ownsRow B 5 1 sv out.length (Lib.byteCells out)) (hB : B ≤ w.heap.size) (ho : out.length ≤ 10000000000) :
    Calls Tryz.prog 31 #[sv, .bool b] w fun e w' => ∃ v', e = .returned v' ∧ w'.ownsRow B 5 1 v' (out.length + (boolT b).length) (Lib.byteCells out ++ Lib.byteCells (boolT b)) ∧ Below B w w' ∧ Lib.OthersKept 5 none w w' := by
  obtain ⟨oa, ol, oc, rfl⟩ := owns_shape hown
  go_enter Tryz.func31, Tryz.ntmps31
  go_wp2_with (go_at_call 74; refine (iAppendBool_any b hown hB ho).mono ?_; rintro e w1 ⟨v', rfl, hown1, k1, g1⟩; obtain ⟨a', l', c', rfl⟩ := owns_shape hown1)
  go_ret
  exact ⟨_, rfl, hown1, k1, g1⟩
set_option maxHeartbeats 2000000 in
theorem wbegin_bool {w : World} {B W : Nat} {out : Bys} {fs : List Fm} (b : Bool) (h : WS w B W out fs) (ho : out.length ≤ 10000000000) :
    Calls Tryz.prog 13 #[.pointer (some ⟨W, 0, none⟩), .iface 96 (.bool b)] w fun e w' => e = .returned (.tuple #[]) ∧ BegW B W out fs (boolT b) w w' := by
  obtain ⟨hlt, hle, ⟨ov, pv, hb, hown, hpv⟩, hfs⟩ := h
  obtain ⟨c0, c1, c2, c3, c4⟩ := two_c0 hb
  obtain ⟨oa, ol, oc, rfl⟩ := owns_shape hown
  have m0 := missVNull; have m1 := missVNumber; have m2 := missVString; have m3 := missVArray; have m4 := missVObject; have m5 := hitVBool
  go_enter Tryz.func13, Tryz.ntmps13
  go_wp2_with (go_at_call 31; refine (AppendBool_any b hown hle ho).mono ?_; rintro e w1 ⟨v', rfl, hown1, k1, hok⟩; obtain ⟨a', l', c', rfl⟩ := owns_shape hown1; obtain ⟨d0, d1, d2, d3, d4⟩ := two_c0 ((k1.block W hlt).trans hb))
  go_end0
  exact ⟨rfl, BegW.leaf (w1 := w1) (WS.wrote hlt hle hb hpv hfs k1 hok hown1) (by cases b <;> simp [boolT])⟩
set_option maxHeartbeats 2000000 in
theorem wbegin_null {w : World} {B W : Nat} {out : Bys} {fs : List Fm} (h : WS w B W out fs) (ho : out.length ≤ 10000000000) :
    Calls Tryz.prog 13 #[.pointer (some ⟨W, 0, none⟩), .iface 95 (.agg #[])] w fun e w' => e = .returned (.tuple #[]) ∧ BegW B W out fs [110, 117, 108, 108] w w' := by
  obtain ⟨i0, hi0, hz0, hz1, hz2⟩ := info_parts (show (Tryz.prog.info? 5).map (fun i => (i.zero, i.size, i.bytes)) = some (some (.int .u8 0), 1, 1) by kernel_rfl)
  obtain ⟨hlt, hle, ⟨ov, pv, hb, hown, hpv⟩, hfs⟩ := h
  obtain ⟨c0, c1, c2, c3, c4⟩ := two_c0 hb
  obtain ⟨oa, ol, oc, rfl⟩ := owns_shape hown
  have m0 := hitVNull; have m1 := missVNumber; have m2 := missVString; have m3 := missVArray; have m4 := missVObject; have m5 := missVBool
  go_enter Tryz.func13, Tryz.ntmps13
  go_wp2_with (refine Lib.wpList_append_own_string _ (by rfl) _ _ 50 9 (by rfl) B 5 i0 Tryz.underlying50 Tryz.underlying9 hi0 hz0 hz1 hz2 _ out.length (Lib.byteCells out) (by rfl) (by first | exact hown | exact hown.alloc _) ⟨#[110, 117, 108, 108]⟩ (by rfl) (by unfold maxLen; simp [ByteArray.size]; omega) (by simp [ByteArray.size]; omega) (by first | exact hle | (simp; omega)) ?_; intro v' w1 hown1 hgrow1 _; obtain ⟨a', l', c', rfl⟩ := owns_shape hown1; have k1 : Below B w w1 := (by first | exact (Below.refl B w).grown hgrow1 hle (fun q hq => (hown.lt q hq).1) | exact ((Below.refl B w).alloc hle _).grown hgrow1 (by simp; omega) (fun q hq => (hown.lt q hq).1)); have hok : Lib.OthersKept 5 none w w1 := (by first | exact (Lib.OthersKept.refl _ _ w).grown hgrow1 (own_kind hown) | exact ((Lib.OthersKept.refl _ _ w).alloc _).grown hgrow1 (own_kind (hown.alloc _))); obtain ⟨d0, d1, d2, d3, d4⟩ := two_c0 ((k1.block W hlt).trans hb))
  go_end0
  exact ⟨rfl, BegW.leaf (w1 := w1) (WS.wrote hlt hle hb hpv hfs k1 hok hown1) (by simp)⟩
end Go.Proofs.Tryz

namespace Go.Proofs.Tryz
open Go.RowKit
set_option maxRecDepth 10000

set_option maxHeartbeats 4000000 in
theorem wbegin_arr {w : World} {B W : Nat} {out : Bys} {fs : List Fm} {ra : Option Addr} {rl rc : Nat} (its : List (IV × Bys)) (hrow : w.ownsRow 0 32 1 (.slice ra rl rc) its.length (its.map itC)) (hrb : ∀ g, (Value.slice ra rl rc).ownBlock = some g → g < W) (hvs : ∀ x ∈ its, Vl w (· < W) x.1 x.2) (h : WS w B W out fs) (ho : out.length ≤ 10000000000) (hf : fs.length ≤ 10000000000) :
    Calls Tryz.prog 13 #[.pointer (some ⟨W, 0, none⟩), .iface 86 (.slice ra rl rc)] w fun e w' => e = .returned (.tuple #[]) ∧ BegW B W out fs (arrT (its.map (·.2))) w w' := by
  obtain ⟨i0, hi0, hz0, hz1, hz2⟩ := info_parts (show (Tryz.prog.info? 5).map (fun i => (i.zero, i.size, i.bytes)) = some (some (.int .u8 0), 1, 1) by kernel_rfl)
  obtain ⟨j0, hj0, hy0, hy1, hy2⟩ := info_parts (show (Tryz.prog.info? 104).map (fun i => (i.zero, i.size, i.bytes)) = some (some (.agg #[.int .u8 0, .slice none 0 0, .slice none 0 0, .int .i64 0]), 4, 64) by kernel_rfl)
  obtain ⟨hlt, hle, ⟨ov, pv, hb, hown, hpv⟩, hfs⟩ := h
  obtain ⟨c0, c1, c2, c3, c4⟩ := two_c0 hb
  obtain ⟨oa, ol, oc, rfl⟩ := owns_shape hown
  obtain ⟨pa, pl, pc, rfl⟩ := owns_shape2 hpv
  have HROW : Aside _ := hrow
  have HVS : Aside _ := hvs
  have HFS : Aside (∀ f ∈ fs, FOk w W f) := hfs
  have HRB : Aside _ := hrb
  clear hrow hvs hfs hrb
  have m0 := missVNull; have m1 := missVNumber; have m2 := missVString; have m3 := hitVArray; have m4 := missVObject; have m5 := missVBool
  go_enter Tryz.func13, Tryz.ntmps13
  go_wp2_with (first
    | (refine wpList_append_lies _ (by rfl) _ _ _ (by rfl) B 5 i0 _ 1 1 Tryz.underlying50 hi0 hz0 hz1 hz2 rfl (by omega) _ out.length (Lib.byteCells out) (by rfl) (hown.alloc _) ⟨w.heap.size, 0, none⟩ 1 1 [.int .u8 91] (by rfl) (by rfl) (World.news_of_block (cs := #[.int .u8 91]) (t := 5) (fr := (0, 0)) (heap_new w _)) (by simp [Value.oneCell']) (by omega) (by unfold maxLen; omega) (by omega) (by simp; omega) (w.heap.size + 1) (by simp) ?_; intro g1 cap1 w1 hown1 hgrow1 hat1 hlt1; have k1 : Below B w w1 := ((Below.refl B w).alloc hle _).grown hgrow1 (by simp; omega) (fun q hq => (hown.lt q hq).1); have hok1 : Aside (Lib.OthersKept 5 none w w1) := ((Lib.OthersKept.refl _ _ w).alloc _).grown hgrow1 (own_kind (hown.alloc _)); have hb1 := (k1.block W hlt).trans hb; obtain ⟨d0, d1, d2, d3, d4⟩ := two_c0 hb1; have hp1 := others_row hok1.out hpv (by decide); have hpW : (w1.setCell ⟨W, 0, none⟩ (.slice (some ⟨g1, 0, none⟩) (out.length + 1) cap1)).ownsRow B 104 4 (.slice pa pl pc) fs.length (fs.flatMap Fm.cells) := owns_same hp1 (fun k hk => Below.heap_setCell _ _ _ _ (by have := (hp1.lt k hk).1; simp; omega)); have hsz1 := k1.size)
    | (refine wpList_append_lies _ (by rfl) _ _ _ (by rfl) B 104 j0 _ 4 64 Tryz.underlying51 hj0 hy0 hy1 hy2 rfl (by omega) _ fs.length (fs.flatMap Fm.cells) (by rfl) (hpW.alloc _) ⟨w1.heap.size, 0, none⟩ 1 1 [.int .u8 93, .slice ra rl rc, .slice none 0 0, .int .i64 0] (by rfl) (by rfl) (World.news_of_block (cs := #[.int .u8 93, .slice ra rl rc, .slice none 0 0, .int .i64 0]) (t := 104) (fr := (0, 0)) (heap_news _ _ (by simp))) (by simp [Value.oneCell']) (by omega) (by unfold maxLen; omega) (by omega) (by simp; omega) (w1.heap.size + 1) (by simp) ?_; intro g2 cap2 w2 hown2 hgrow2 hat2 hlt2; have k2 : Below B (w1.setCell ⟨W, 0, none⟩ (.slice (some ⟨g1, 0, none⟩) (out.length + 1) cap1)) w2 := ((Below.refl B _).alloc (by simp; omega) _).grown hgrow2 (by simp; omega) (fun q hq => (hpW.lt q hq).1); have hb2 := (k2.block W hlt).trans (two_set0 (u := .slice (some ⟨g1, 0, none⟩) (out.length + 1) cap1) hb1); obtain ⟨f0, f1, f2, f3, f4⟩ := two_c0 hb2))
  go_end0
  have hsz2 := k2.size
  simp at hsz2
  have hbW : ∀ b, b < W → (w2.setCell ⟨W, 1, none⟩ (.slice (some ⟨g2, 0, none⟩) (fs.length + 1) cap2)).heap[b]? = w.heap[b]? := fun b hbl => by
    rw [Below.heap_setCell _ _ _ _ (by simp; omega), k2.block b (by omega), Below.heap_setCell _ _ _ _ (by simp; omega)]
    exact k1.block b (by omega)
  have hf1 : Fr (fun k => k = W ∨ B ≤ k) w w2 := by
    have a1 : Fr (fun k => k = W ∨ B ≤ k) w w1 := ⟨k1.os, k1.tape, k1.output, k1.size, fun k hk hd => k1.block k (by omega)⟩
    exact (a1.setCell (b := W) (o := 0) _ (.inl (.inl rfl))).trans (E := fun k => k = W ∨ B ≤ k) ⟨k2.os, k2.tape, k2.output, k2.size, fun k hk hd => k2.block k (by omega)⟩ (fun _ _ e => e)
  have hg12 : (w1.setCell ⟨W, 0, none⟩ (.slice (some ⟨g1, 0, none⟩) (out.length + 1) cap1)).ownsRow B 5 1 (.slice (some ⟨g1, 0, none⟩) (out.length + 1) cap1) (out.length + 1) (Lib.byteCells out ++ [.int .u8 91]) := owns_off hown1 hlt
  have hne : ∀ k, (Value.slice (some ⟨g1, 0, none⟩) (out.length + 1) cap1).ownBlock = some k → some k ≠ (Value.slice pa pl pc).ownBlock := fun k hk e => by
    obtain ⟨x1, y1, z1⟩ := own_kind hg12 k hk
    obtain ⟨x2, y2, z2⟩ := own_kind hpW k e.symm
    rw [z1] at z2
    simp at z2
  refine ⟨rfl, ⟨⟨out ++ [91], [⟨false, .slice ra rl rc, 0, its, []⟩], ⟨hlt, by simp; omega, ⟨_, _, two_set1 hb2, ?_, ?_⟩, fun f hf => ?_⟩, ?_, by simp⟩, hf1.setCell _ (.inl (.inl rfl))⟩⟩
  · rw [List.length_append, byteCells_append]
    exact owns_off (owns_same hg12 (fun k hk => (hgrow2.block k (by have := (hg12.lt k hk).2; simp at this ⊢; omega) (hne k hk)).trans ((below_alloc _ _).block k (hg12.lt k hk).2))) hlt
  · rw [List.length_append, List.flatMap_append]
    refine owns_same (w := w2) ?_ (fun k hk => Below.heap_setCell _ _ _ _ (by cases hk; have := (hown2.lt g2 rfl).1; simp; omega))
    simpa [Fm.cells] using hown2
  · rcases List.mem_append.1 hf with hf | hf
    · exact (HFS.out f hf).keep hbW
    · rw [List.mem_singleton] at hf
      subst hf
      refine ⟨?_, fun g hg => HRB.out g hg, Nat.zero_le _⟩
      rw [if_neg (by simp)]
      exact ⟨owns_same HROW.out (fun k hk => hbW k (HRB.out k hk)), fun x hx => (HVS.out x hx).mono (fun g hg => ⟨hg, hbW g hg⟩)⟩
  · rw [restAll_app]
    simp [Fm.rest, Fm.texts, arrT, join_rest]

set_option maxHeartbeats 4000000 in
theorem wbegin_obj {w : World} {B W : Nat} {out : Bys} {fs : List Fm} {ra : Option Addr} {rl rc : Nat} (ms : List El) (hrow : w.ownsRow 0 107 2 (.slice ra rl rc) ms.length (ms.flatMap elC)) (hrb : ∀ g, (Value.slice ra rl rc).ownBlock = some g → g < W) (hvs : ∀ x ∈ ms, Vl w (· < W) x.2.1 x.2.2) (h : WS w B W out fs) (ho : out.length ≤ 10000000000) (hf : fs.length ≤ 10000000000) :
    Calls Tryz.prog 13 #[.pointer (some ⟨W, 0, none⟩), .iface 102 (.slice ra rl rc)] w fun e w' => e = .returned (.tuple #[]) ∧ BegW B W out fs (objT (ms.map fun x => (elKey x, x.2.2))) w w' := by
  obtain ⟨i0, hi0, hz0, hz1, hz2⟩ := info_parts (show (Tryz.prog.info? 5).map (fun i => (i.zero, i.size, i.bytes)) = some (some (.int .u8 0), 1, 1) by kernel_rfl)
  obtain ⟨j0, hj0, hy0, hy1, hy2⟩ := info_parts (show (Tryz.prog.info? 104).map (fun i => (i.zero, i.size, i.bytes)) = some (some (.agg #[.int .u8 0, .slice none 0 0, .slice none 0 0, .int .i64 0]), 4, 64) by kernel_rfl)
  obtain ⟨hlt, hle, ⟨ov, pv, hb, hown, hpv⟩, hfs⟩ := h
  obtain ⟨c0, c1, c2, c3, c4⟩ := two_c0 hb
  obtain ⟨oa, ol, oc, rfl⟩ := owns_shape hown
  obtain ⟨pa, pl, pc, rfl⟩ := owns_shape2 hpv
  have HROW : Aside _ := hrow
  have HVS : Aside _ := hvs
  have HFS : Aside (∀ f ∈ fs, FOk w W f) := hfs
  have HRB : Aside _ := hrb
  clear hrow hvs hfs hrb
  have m0 := missVNull; have m1 := missVNumber; have m2 := missVString; have m3 := missVArray; have m4 := hitVObject; have m5 := missVBool
  go_enter Tryz.func13, Tryz.ntmps13
  go_wp2_with (first
    | (refine wpList_append_lies _ (by rfl) _ _ _ (by rfl) B 5 i0 _ 1 1 Tryz.underlying50 hi0 hz0 hz1 hz2 rfl (by omega) _ out.length (Lib.byteCells out) (by rfl) (hown.alloc _) ⟨w.heap.size, 0, none⟩ 1 1 [.int .u8 123] (by rfl) (by rfl) (World.news_of_block (cs := #[.int .u8 123]) (t := 5) (fr := (0, 0)) (heap_new w _)) (by simp [Value.oneCell']) (by omega) (by unfold maxLen; omega) (by omega) (by simp; omega) (w.heap.size + 1) (by simp) ?_; intro g1 cap1 w1 hown1 hgrow1 hat1 hlt1; have k1 : Below B w w1 := ((Below.refl B w).alloc hle _).grown hgrow1 (by simp; omega) (fun q hq => (hown.lt q hq).1); have hok1 : Aside (Lib.OthersKept 5 none w w1) := ((Lib.OthersKept.refl _ _ w).alloc _).grown hgrow1 (own_kind (hown.alloc _)); have hb1 := (k1.block W hlt).trans hb; obtain ⟨d0, d1, d2, d3, d4⟩ := two_c0 hb1; have hp1 := others_row hok1.out hpv (by decide); have hpW : (w1.setCell ⟨W, 0, none⟩ (.slice (some ⟨g1, 0, none⟩) (out.length + 1) cap1)).ownsRow B 104 4 (.slice pa pl pc) fs.length (fs.flatMap Fm.cells) := owns_same hp1 (fun k hk => Below.heap_setCell _ _ _ _ (by have := (hp1.lt k hk).1; simp; omega)); have hsz1 := k1.size)
    | (refine wpList_append_lies _ (by rfl) _ _ _ (by rfl) B 104 j0 _ 4 64 Tryz.underlying51 hj0 hy0 hy1 hy2 rfl (by omega) _ fs.length (fs.flatMap Fm.cells) (by rfl) (hpW.alloc _) ⟨w1.heap.size, 0, none⟩ 1 1 [.int .u8 125, .slice none 0 0, .slice ra rl rc, .int .i64 0] (by rfl) (by rfl) (World.news_of_block (cs := #[.int .u8 125, .slice none 0 0, .slice ra rl rc, .int .i64 0]) (t := 104) (fr := (0, 0)) (heap_news _ _ (by simp))) (by simp [Value.oneCell']) (by omega) (by unfold maxLen; omega) (by omega) (by simp; omega) (w1.heap.size + 1) (by simp) ?_; intro g2 cap2 w2 hown2 hgrow2 hat2 hlt2; have k2 : Below B (w1.setCell ⟨W, 0, none⟩ (.slice (some ⟨g1, 0, none⟩) (out.length + 1) cap1)) w2 := ((Below.refl B _).alloc (by simp; omega) _).grown hgrow2 (by simp; omega) (fun q hq => (hpW.lt q hq).1); have hb2 := (k2.block W hlt).trans (two_set0 (u := .slice (some ⟨g1, 0, none⟩) (out.length + 1) cap1) hb1); obtain ⟨f0, f1, f2, f3, f4⟩ := two_c0 hb2))
  go_end0
  have hsz2 := k2.size
  simp at hsz2
  have hbW : ∀ b, b < W → (w2.setCell ⟨W, 1, none⟩ (.slice (some ⟨g2, 0, none⟩) (fs.length + 1) cap2)).heap[b]? = w.heap[b]? := fun b hbl => by
    rw [Below.heap_setCell _ _ _ _ (by simp; omega), k2.block b (by omega), Below.heap_setCell _ _ _ _ (by simp; omega)]
    exact k1.block b (by omega)
  have hf1 : Fr (fun k => k = W ∨ B ≤ k) w w2 := by
    have a1 : Fr (fun k => k = W ∨ B ≤ k) w w1 := ⟨k1.os, k1.tape, k1.output, k1.size, fun k hk hd => k1.block k (by omega)⟩
    exact (a1.setCell (b := W) (o := 0) _ (.inl (.inl rfl))).trans (E := fun k => k = W ∨ B ≤ k) ⟨k2.os, k2.tape, k2.output, k2.size, fun k hk hd => k2.block k (by omega)⟩ (fun _ _ e => e)
  have hg12 : (w1.setCell ⟨W, 0, none⟩ (.slice (some ⟨g1, 0, none⟩) (out.length + 1) cap1)).ownsRow B 5 1 (.slice (some ⟨g1, 0, none⟩) (out.length + 1) cap1) (out.length + 1) (Lib.byteCells out ++ [.int .u8 123]) := owns_off hown1 hlt
  have hne : ∀ k, (Value.slice (some ⟨g1, 0, none⟩) (out.length + 1) cap1).ownBlock = some k → some k ≠ (Value.slice pa pl pc).ownBlock := fun k hk e => by
    obtain ⟨x1, y1, z1⟩ := own_kind hg12 k hk
    obtain ⟨x2, y2, z2⟩ := own_kind hpW k e.symm
    rw [z1] at z2
    simp at z2
  refine ⟨rfl, ⟨⟨out ++ [123], [⟨true, .slice ra rl rc, 0, [], ms⟩], ⟨hlt, by simp; omega, ⟨_, _, two_set1 hb2, ?_, ?_⟩, fun f hf => ?_⟩, ?_, by simp⟩, hf1.setCell _ (.inl (.inl rfl))⟩⟩
  · rw [List.length_append, byteCells_append]
    exact owns_off (owns_same hg12 (fun k hk => (hgrow2.block k (by have := (hg12.lt k hk).2; simp at this ⊢; omega) (hne k hk)).trans ((below_alloc _ _).block k (hg12.lt k hk).2))) hlt
  · rw [List.length_append, List.flatMap_append]
    refine owns_same (w := w2) ?_ (fun k hk => Below.heap_setCell _ _ _ _ (by cases hk; have := (hown2.lt g2 rfl).1; simp; omega))
    simpa [Fm.cells] using hown2
  · rcases List.mem_append.1 hf with hf | hf
    · exact (HFS.out f hf).keep hbW
    · rw [List.mem_singleton] at hf
      subst hf
      refine ⟨?_, fun g hg => HRB.out g hg, Nat.zero_le _⟩
      rw [if_pos rfl]
      exact ⟨owns_same HROW.out (fun k hk => hbW k (HRB.out k hk)), fun x hx => (HVS.out x hx).mono (fun g hg => ⟨hg, hbW g hg⟩)⟩
  · rw [restAll_app]
    simp [Fm.rest, Fm.texts, objT, join_rest, elP]; rfl

end Go.Proofs.Tryz

namespace Go.Proofs.Tryz
open Go.RowKit
set_option maxRecDepth 10000

theorem wbegin_leaf (hA : AppendsIntK) {w : World} {B W : Nat} {out : Bys} {fs : List Fm} {v : IV} {c : Bys} (hv : leafV v c) (h : WS w B W out fs) (ho : out.length ≤ 10000000000) (ht : Lib.TabBelow Tryz.prog B w "internal/strconv.uint64pow10" .u64 Lib.pow10Tab) :
    Calls Tryz.prog 13 #[.pointer (some ⟨W, 0, none⟩), iv v] w fun e w' => e = .returned (.tuple #[]) ∧ BegW B W out fs c w w' := by
  rcases hv with ⟨rfl, rfl⟩ | ⟨b, rfl, rfl⟩ | ⟨n, h0, h1, rfl, rfl⟩ | ⟨t, h0, rfl, rfl⟩
  · exact wbegin_null h ho
  · exact wbegin_bool b h ho
  · exact wbegin_num hA n h0 h1 h ho ht
  · exact wbegin_str t h0 h ho
theorem wbegin_any (hA : AppendsIntK) {w : World} {B W : Nat} {out : Bys} {fs : List Fm} {v : IV} {c : Bys} (hv : Vl w (· < W) v c) (h : WS w B W out fs) (ho : out.length ≤ 10000000000) (hf : fs.length ≤ 10000000000) (ht : Lib.TabBelow Tryz.prog B w "internal/strconv.uint64pow10" .u64 Lib.pow10Tab) :
    Calls Tryz.prog 13 #[.pointer (some ⟨W, 0, none⟩), iv v] w fun e w' => e = .returned (.tuple #[]) ∧ BegW B W out fs c w w' := by
  obtain ⟨d, hd⟩ := hv
  cases d with
  | zero => exact wbegin_leaf hA hd h ho ht
  | succ d =>
    rcases hd with hd | ⟨r, its, rfl, ow, hp, hi, rfl⟩ | ⟨r, ms, rfl, ow, hp, hi, rfl⟩
    · exact wbegin_leaf hA hd h ho ht
    · obtain ⟨ra, rl, rc, rfl⟩ := owns_shape2 ow
      exact wbegin_arr its ow hp (fun x hx => ⟨d, hi x hx⟩) h ho hf
    · obtain ⟨ra, rl, rc, rfl⟩ := owns_shape2 ow
      exact wbegin_obj ms ow hp (fun x hx => ⟨d, hi x hx⟩) h ho hf

/-- What a step leaves behind. -/
def StepW (B W : Nat) (out : Bys) (fs : List Fm) (w w' : World) : Prop := (∃ out' fs', WS w' B W out' fs' ∧ out' ++ restAll fs' = out ++ restAll fs ∧ out.length < out'.length) ∧ Fr (fun k => k = W ∨ B ≤ k) w w'
theorem fcells_len (fs : List Fm) : (fs.flatMap Fm.cells).length = fs.length * 4 := by
  induction fs with
  | nil => rfl
  | cons h t ih => rw [List.flatMap_cons, List.length_append, ih]; simp [Fm.cells]; omega
/-- The innermost of what is begun. -/
theorem topF {w : World} {B : Nat} {pv : Value} {lo : List Fm} {f : Fm} (ow : w.ownsRow B 104 4 pv (lo ++ [f]).length ((lo ++ [f]).flatMap Fm.cells)) : ∃ g cap, pv = .slice (some ⟨g, 0, none⟩) (lo.length + 1) cap ∧ B ≤ g ∧ lo.length + 1 ≤ cap ∧ cap ≤ 9223372036854775807 ∧ (∀ i v, f.cells[i]? = some v → w.cell? ⟨g, lo.length * 4 + i, none⟩ = some v) ∧ (∀ q, w.frozen? ⟨g, q, none⟩ = false) ∧ g < w.heap.size := by
  rw [List.length_append, List.length_singleton] at ow
  rcases ow.2 with ⟨_, h0⟩ | ⟨g, cap, cur, e, hg, hb, hn, hm, hs, ht⟩
  · omega
  · refine ⟨g, cap, e, hg, hn, by simpa [maxLen] using hm, fun i v hi => ?_, fun q => cells_free hb, lt_of_block hb⟩
    have hi4 : i < 4 := by have := (List.getElem?_eq_some_iff.1 hi).1; simpa [Fm.cells] using this
    have h2 : cur.toList[lo.length * 4 + i]? = some v := by
      rw [← List.getElem?_take_of_lt (show lo.length * 4 + i < (lo.length + 1) * 4 by omega), ht, List.flatMap_append, List.getElem?_append_right (by rw [fcells_len]; omega), fcells_len, Nat.add_sub_cancel_left]
      simpa using hi
    exact cells_cell hb (by simpa using h2)
theorem texts_len_arr {f : Fm} (ho : f.obj = false) : f.texts.length = f.its.length := by unfold Fm.texts; simp [ho]
theorem texts_len_obj {f : Fm} (ho : f.obj = true) : f.texts.length = f.ms.length := by unfold Fm.texts; simp [ho]
theorem rest_end {f : Fm} (h : f.next = f.texts.length) : f.rest = [if f.obj then 125 else 93] := by
  unfold Fm.rest
  rw [h, List.drop_length]
  simp [restI]
theorem popF {w : World} {B g cap : Nat} {lo : List Fm} {f : Fm} (ow : w.ownsRow B 104 4 (.slice (some ⟨g, 0, none⟩) (lo.length + 1) cap) (lo ++ [f]).length ((lo ++ [f]).flatMap Fm.cells)) : w.ownsRow B 104 4 (.slice (some ⟨g, 0, none⟩) lo.length cap) lo.length (lo.flatMap Fm.cells) := by
  rw [List.length_append, List.length_singleton] at ow
  rcases ow.2 with ⟨e, _⟩ | ⟨g', cap', cur, e, hg, hb, hn, hm, hs, ht⟩
  · cases e
  · cases e
    refine ⟨fcells_len lo, .inr ⟨g, cap, cur, rfl, hg, hb, by omega, hm, hs, ?_⟩⟩
    have : cur.toList.take (lo.length * 4) = (cur.toList.take ((lo.length + 1) * 4)).take (lo.length * 4) := by
      rw [List.take_take]; congr 1; omega
    rw [this, ht, List.flatMap_append, ← fcells_len lo, List.take_left]

set_option maxHeartbeats 4000000 in
theorem step_end_arr {w : World} {B W : Nat} {out : Bys} {lo : List Fm} {f : Fm} (h : WS w B W out (lo ++ [f])) (hn : f.next = f.texts.length) (hob : f.obj = false) (ho : out.length ≤ 10000000000) (hlo : lo.length ≤ 10000000000) (hcnt : f.texts.length ≤ 9223372036854775807) :
    Calls Tryz.prog 14 #[.pointer (some ⟨W, 0, none⟩)] w fun e w' => e = .returned (.tuple #[]) ∧ StepW B W out (lo ++ [f]) w w' := by
  obtain ⟨i0, hi0, hz0, hz1, hz2⟩ := info_parts (show (Tryz.prog.info? 5).map (fun i => (i.zero, i.size, i.bytes)) = some (some (.int .u8 0), 1, 1) by kernel_rfl)
  obtain ⟨hlt, hle, ⟨ov, pv, hb, hown, hpv⟩, hfs⟩ := h
  obtain ⟨c0, c1, c2, c3, c4⟩ := two_c0 hb
  obtain ⟨oa, ol, oc, rfl⟩ := owns_shape hown
  obtain ⟨g, cap, rfl, hgB, hcap, hcm, hcell, hfz, hgl⟩ := topF hpv
  have e0 := hcell 0 _ rfl
  have e1 := hcell 1 _ rfl
  have e2 := hcell 2 _ rfl
  have e3 := hcell 3 _ rfl
  simp only [hob, Bool.false_eq_true, if_false, Nat.add_zero] at e0 e1 e2
  have hl := texts_len_arr hob
  have hfo := hfs f (by simp)
  have hfo' := hfo.1
  rw [if_neg (by simp [hob])] at hfo'
  obtain ⟨ra, rl, rc, hrow⟩ := owns_shape hfo'.1
  have hrl : rl = f.next := by
    have := hfo'.1.2
    rw [hrow] at this
    rcases this with ⟨e, h0⟩ | ⟨_, _, _, e, _⟩
    · cases e; omega
    · cases e; omega
  rw [hrow] at e1
  subst hrl
  obtain ⟨nx, hnx⟩ : ∃ nx, f.next = nx := ⟨_, rfl⟩
  have hre := rest_end hn
  rw [hob] at hre
  have HRE : Hid _ := hre
  have hnl : nx ≤ 9223372036854775807 := by omega
  have ngW : ¬ g = W := by omega
  have nWg : ¬ W = g := by omega
  have HFS : Aside (∀ x ∈ lo ++ [f], FOk w W x) := hfs
  have HPV : Aside (w.ownsRow B 104 4 (.slice (some ⟨g, 0, none⟩) (lo.length + 1) cap) (lo ++ [f]).length ((lo ++ [f]).flatMap Fm.cells)) := hpv
  have hgo : some g ≠ (Value.slice oa ol oc).ownBlock := fun e => by
    obtain ⟨x1, y1, z1⟩ := own_kind hown g e.symm
    obtain ⟨x2, y2, z2⟩ := own_kind hpv g rfl
    rw [z1] at z2
    simp at z2
  have HGO : Aside _ := hgo
  clear hcell hfs hfo hfo' hpv hre hl hn hgo
  simp only [hnx] at e1 e2 e3
  clear hnx hcnt hrow
  go_enter Tryz.func14, Tryz.ntmps14
  go_wp2_with fail
  go_quiet (fail)
  go_wp2_with fail
  go_quiet (fail)
  go_wp2_with fail
  have y0 : ∀ m o, ((w.drewN m).alloc o).cell? ⟨W, 0, none⟩ = some (.slice oa ol oc) := fun m o => ((below_alloc (w.drewN m) o).cell (p := ⟨W, 0, none⟩) (by simpa using c4)).trans c0
  have y1 : ∀ m o, ((w.drewN m).alloc o).frozen? ⟨W, 0, none⟩ = false := fun m o => ((below_alloc (w.drewN m) o).frozen (p := ⟨W, 0, none⟩) (by simpa using c4)).trans c2
  go_region_law ((refine step_append_lies _ (by rfl) _ _ _ (by rfl) B 5 i0 _ 1 1 Tryz.underlying50 hi0 hz0 hz1 hz2 rfl (by omega) (.slice oa ol oc) out.length (Lib.byteCells out) (by rfl) (owns_same hown (fun k hk => (below_alloc w _).block k (hown.lt k hk).2)) ⟨w.heap.size, 0, none⟩ 1 1 [.int .u8 93] (by rfl) (by rfl) (World.news_of_block (cs := #[.int .u8 93]) (t := 5) (fr := (0, 0)) (heap_new w _)) (by simp [Value.oneCell']) (by omega) (by unfold maxLen; omega) (by omega) (by simp; omega) (w.heap.size + 1) (by simp) ?_; intro g1 cap1 w1 hown1 hgrow1 hat1 hlt1; have hbl : ∀ k, k < w.heap.size → some k ≠ (Value.slice oa ol oc).ownBlock → w1.heap[k]? = w.heap[k]? := (fun k hk hd => (hgrow1.block k (by simp; omega) hd).trans ((below_alloc w (.cells #[.int .u8 93] 5)).block k hk)); have hnb : ∀ k, k < B → some k ≠ (Value.slice oa ol oc).ownBlock := (fun k hk e => by have := (hown.lt k e.symm).1; omega); obtain ⟨d0, d1, d2, d3, d4⟩ := two_c0 ((hbl W (by omega) (hnb W hlt)).trans hb)))
  all_goals
    go_wp2_with fail
    go_region
    all_goals
      go_wp2_with fail
      have hgs := hgrow1.size
      simp at hgs
      have hf1 : Fr (fun k => k = W ∨ B ≤ k) w w1 := ⟨hgrow1.os, hgrow1.tape, hgrow1.output, by omega, fun k hk hd => hbl k hk (hnb k (by omega))⟩
      have hpo := popF HPV.out
      refine bodyPost_ret (v := .tuple #[]) (by simp [results, Tryz.results14, go_sem]) rfl ⟨rfl, ⟨⟨out ++ [93], lo, ⟨hlt, by simp; omega, ⟨_, _, two_set1 (two_set0 ((hbl W (by omega) (hnb W hlt)).trans hb)), ?_, ?_⟩, fun x hx => ?_⟩, ?_, by simp⟩, ((hf1.setCell _ (.inl (.inl rfl))).setCell _ (.inl (.inl rfl))).drewN 1⟩⟩
      · rw [List.length_append, byteCells_append]
        exact owns_off (owns_off hown1 hlt) hlt
      · refine owns_same (w := w) hpo (fun k hk => ?_)
        cases hk
        show ((w1.setCell ⟨W, 0, none⟩ _).setCell ⟨W, 1, none⟩ _).heap[g]? = _
        rw [Below.heap_setCell _ _ _ _ (by simp; omega), Below.heap_setCell _ _ _ _ (by simp; omega)]
        exact hbl g hgl HGO.out
      · refine (HFS.out x (by simp [hx])).keep (fun b hb2 => ?_)
        show ((w1.setCell ⟨W, 0, none⟩ _).setCell ⟨W, 1, none⟩ _).heap[b]? = _
        rw [Below.heap_setCell _ _ _ _ (by simp; omega), Below.heap_setCell _ _ _ _ (by simp; omega)]
        exact hbl b (by omega) (hnb b (by omega))
      · rw [restAll_app, HRE.out]
        simp

set_option maxHeartbeats 4000000 in
theorem step_end_obj {w : World} {B W : Nat} {out : Bys} {lo : List Fm} {f : Fm} (h : WS w B W out (lo ++ [f])) (hn : f.next = f.texts.length) (hob : f.obj = true) (ho : out.length ≤ 10000000000) (hlo : lo.length ≤ 10000000000) (hcnt : f.texts.length ≤ 9223372036854775807) :
    Calls Tryz.prog 14 #[.pointer (some ⟨W, 0, none⟩)] w fun e w' => e = .returned (.tuple #[]) ∧ StepW B W out (lo ++ [f]) w w' := by
  obtain ⟨i0, hi0, hz0, hz1, hz2⟩ := info_parts (show (Tryz.prog.info? 5).map (fun i => (i.zero, i.size, i.bytes)) = some (some (.int .u8 0), 1, 1) by kernel_rfl)
  obtain ⟨hlt, hle, ⟨ov, pv, hb, hown, hpv⟩, hfs⟩ := h
  obtain ⟨c0, c1, c2, c3, c4⟩ := two_c0 hb
  obtain ⟨oa, ol, oc, rfl⟩ := owns_shape hown
  obtain ⟨g, cap, rfl, hgB, hcap, hcm, hcell, hfz, hgl⟩ := topF hpv
  have e0 := hcell 0 _ rfl
  have e1 := hcell 1 _ rfl
  have e2 := hcell 2 _ rfl
  have e3 := hcell 3 _ rfl
  simp only [hob, if_true, Nat.add_zero] at e0 e1 e2
  have hl := texts_len_obj hob
  have hfo := hfs f (by simp)
  have hfo' := hfo.1
  rw [if_pos (by simp [hob])] at hfo'
  obtain ⟨ra, rl, rc, hrow⟩ := owns_shape2 hfo'.1
  have hrl : rl = f.next := by
    have := hfo'.1.2
    rw [hrow] at this
    rcases this with ⟨e, h0⟩ | ⟨_, _, _, e, _⟩
    · cases e; omega
    · cases e; omega
  rw [hrow] at e2
  subst hrl
  obtain ⟨nx, hnx⟩ : ∃ nx, f.next = nx := ⟨_, rfl⟩
  have hre := rest_end hn
  rw [hob] at hre
  have HRE : Hid _ := hre
  have hnl : nx ≤ 9223372036854775807 := by omega
  have ngW : ¬ g = W := by omega
  have nWg : ¬ W = g := by omega
  have HFS : Aside (∀ x ∈ lo ++ [f], FOk w W x) := hfs
  have HPV : Aside (w.ownsRow B 104 4 (.slice (some ⟨g, 0, none⟩) (lo.length + 1) cap) (lo ++ [f]).length ((lo ++ [f]).flatMap Fm.cells)) := hpv
  have hgo : some g ≠ (Value.slice oa ol oc).ownBlock := fun e => by
    obtain ⟨x1, y1, z1⟩ := own_kind hown g e.symm
    obtain ⟨x2, y2, z2⟩ := own_kind hpv g rfl
    rw [z1] at z2
    simp at z2
  have HGO : Aside _ := hgo
  clear hcell hfs hfo hfo' hpv hre hl hn hgo
  simp only [hnx] at e1 e2 e3
  clear hnx hcnt hrow
  go_enter Tryz.func14, Tryz.ntmps14
  go_wp2_with fail
  go_quiet (fail)
  go_wp2_with fail
  go_quiet (fail)
  go_wp2_with fail
  have y0 : ∀ m o, ((w.drewN m).alloc o).cell? ⟨W, 0, none⟩ = some (.slice oa ol oc) := fun m o => ((below_alloc (w.drewN m) o).cell (p := ⟨W, 0, none⟩) (by simpa using c4)).trans c0
  have y1 : ∀ m o, ((w.drewN m).alloc o).frozen? ⟨W, 0, none⟩ = false := fun m o => ((below_alloc (w.drewN m) o).frozen (p := ⟨W, 0, none⟩) (by simpa using c4)).trans c2
  go_region_law ((refine step_append_lies _ (by rfl) _ _ _ (by rfl) B 5 i0 _ 1 1 Tryz.underlying50 hi0 hz0 hz1 hz2 rfl (by omega) (.slice oa ol oc) out.length (Lib.byteCells out) (by rfl) (owns_same hown (fun k hk => (below_alloc w _).block k (hown.lt k hk).2)) ⟨w.heap.size, 0, none⟩ 1 1 [.int .u8 125] (by rfl) (by rfl) (World.news_of_block (cs := #[.int .u8 125]) (t := 5) (fr := (0, 0)) (heap_new w _)) (by simp [Value.oneCell']) (by omega) (by unfold maxLen; omega) (by omega) (by simp; omega) (w.heap.size + 1) (by simp) ?_; intro g1 cap1 w1 hown1 hgrow1 hat1 hlt1; have hbl : ∀ k, k < w.heap.size → some k ≠ (Value.slice oa ol oc).ownBlock → w1.heap[k]? = w.heap[k]? := (fun k hk hd => (hgrow1.block k (by simp; omega) hd).trans ((below_alloc w (.cells #[.int .u8 125] 5)).block k hk)); have hnb : ∀ k, k < B → some k ≠ (Value.slice oa ol oc).ownBlock := (fun k hk e => by have := (hown.lt k e.symm).1; omega); obtain ⟨d0, d1, d2, d3, d4⟩ := two_c0 ((hbl W (by omega) (hnb W hlt)).trans hb)))
  all_goals
    go_wp2_with fail
    go_region
    all_goals
      go_wp2_with fail
      have hgs := hgrow1.size
      simp at hgs
      have hf1 : Fr (fun k => k = W ∨ B ≤ k) w w1 := ⟨hgrow1.os, hgrow1.tape, hgrow1.output, by omega, fun k hk hd => hbl k hk (hnb k (by omega))⟩
      have hpo := popF HPV.out
      refine bodyPost_ret (v := .tuple #[]) (by simp [results, Tryz.results14, go_sem]) rfl ⟨rfl, ⟨⟨out ++ [125], lo, ⟨hlt, by simp; omega, ⟨_, _, two_set1 (two_set0 ((hbl W (by omega) (hnb W hlt)).trans hb)), ?_, ?_⟩, fun x hx => ?_⟩, ?_, by simp⟩, ((hf1.setCell _ (.inl (.inl rfl))).setCell _ (.inl (.inl rfl))).drewN 1⟩⟩
      · rw [List.length_append, byteCells_append]
        exact owns_off (owns_off hown1 hlt) hlt
      · refine owns_same (w := w) hpo (fun k hk => ?_)
        cases hk
        show ((w1.setCell ⟨W, 0, none⟩ _).setCell ⟨W, 1, none⟩ _).heap[g]? = _
        rw [Below.heap_setCell _ _ _ _ (by simp; omega), Below.heap_setCell _ _ _ _ (by simp; omega)]
        exact hbl g hgl HGO.out
      · refine (HFS.out x (by simp [hx])).keep (fun b hb2 => ?_)
        show ((w1.setCell ⟨W, 0, none⟩ _).setCell ⟨W, 1, none⟩ _).heap[b]? = _
        rw [Below.heap_setCell _ _ _ _ (by simp; omega), Below.heap_setCell _ _ _ _ (by simp; omega)]
        exact hbl b (by omega) (hnb b (by omega))
      · rw [restAll_app, HRE.out]
        simp

end Go.Proofs.Tryz

