import Derived.Test.YtjablghahhhdhaaGreatDoorFx9
import Derived.Lib.Bytealg
import Derived.Shelf.RegionOpenPlain
import Derived.Deep.RegionHeld3
set_option linter.all false
namespace Go.Proofs.Tryz
set_option maxRecDepth 10000

/- Rows with keys, sorted, the order of equals kept: without the program. -/
abbrev Bys := List UInt8
/-- One key ahead of another. -/
def klt (a b : Bys) : Prop := Lib.compareBytes a b < 0
/-- One key not behind another. -/
def kle (a b : Bys) : Prop := ¬ Lib.compareBytes b a < 0

theorem cmp_neg : ∀ a b : Bys, Lib.compareBytes b a = - Lib.compareBytes a b
  | [], [] => by simp [Lib.compareBytes]
  | [], _ :: _ => by simp [Lib.compareBytes]
  | _ :: _, [] => by simp [Lib.compareBytes]
  | a :: al, b :: bs => by
    have ih := cmp_neg al bs
    simp only [Lib.compareBytes]
    by_cases h1 : a < b
    · have h2 : ¬ b < a := by simp only [UInt8.lt_iff_toNat_lt] at *; omega
      simp [h1, h2]
    · by_cases h2 : b < a
      · simp [h1, h2]
      · simp [h1, h2, ih]
theorem cmp_zero : ∀ a b : Bys, Lib.compareBytes a b = 0 → a = b
  | [], [], _ => rfl
  | [], _ :: _, h => by simp [Lib.compareBytes] at h
  | _ :: _, [], h => by simp [Lib.compareBytes] at h
  | a :: al, b :: bs, h => by
    simp only [Lib.compareBytes] at h
    by_cases h1 : a < b
    · simp [h1] at h
    · by_cases h2 : b < a
      · simp [h1, h2] at h
      · simp only [h1, h2, if_false] at h
        have e : a = b := by
          apply UInt8.toNat_inj.1
          simp only [UInt8.lt_iff_toNat_lt] at *
          omega
        rw [e, cmp_zero al bs h]
theorem cmp_self : ∀ a : Bys, Lib.compareBytes a a = 0
  | [] => by simp [Lib.compareBytes]
  | a :: al => by
    have h1 : ¬ a < a := by simp only [UInt8.lt_iff_toNat_lt]; omega
    simp [Lib.compareBytes, h1, cmp_self al]
theorem klt_trans : ∀ {a b c : Bys}, klt a b → klt b c → klt a c
  | _, [], [], _, h => by simp [klt, Lib.compareBytes] at h
  | [], [], _ :: _, h, _ => by simp [klt, Lib.compareBytes] at h
  | _ :: _, [], _ :: _, h, _ => by simp [klt, Lib.compareBytes] at h
  | [], _ :: _, [], _, h => by simp [klt, Lib.compareBytes] at h
  | _ :: _, _ :: _, [], _, h => by simp [klt, Lib.compareBytes] at h
  | [], _ :: _, _ :: _, _, _ => by simp [klt, Lib.compareBytes]
  | a :: al, b :: bs, c :: cs, h, k => by
    have ih := @klt_trans al bs cs
    simp only [klt, Lib.compareBytes] at h k ih ⊢
    simp only [UInt8.lt_iff_toNat_lt] at h k ⊢
    by_cases h1 : a.toNat < b.toNat
    · by_cases h2 : b.toNat < c.toNat
      · rw [if_pos (by omega)]; omega
      · by_cases h3 : c.toNat < b.toNat
        · rw [if_neg h2, if_pos h3] at k; omega
        · rw [if_pos (by omega)]; omega
    · by_cases h2 : b.toNat < a.toNat
      · rw [if_neg h1, if_pos h2] at h; omega
      · rw [if_neg h1, if_neg h2] at h
        by_cases h3 : b.toNat < c.toNat
        · rw [if_pos (by omega)]; omega
        · by_cases h4 : c.toNat < b.toNat
          · rw [if_neg h3, if_pos h4] at k; omega
          · rw [if_neg h3, if_neg h4] at k
            rw [if_neg (by omega), if_neg (by omega)]
            exact ih h k
theorem kle_refl (a : Bys) : kle a a := by rw [kle, cmp_self]; omega
theorem klt_kle {a b : Bys} (h : klt a b) : kle a b := by rw [kle, cmp_neg a b]; rw [klt] at h; omega
theorem not_klt {a b : Bys} : ¬ klt a b ↔ kle b a := Iff.rfl
theorem kle_cases {a b : Bys} (h : kle a b) : klt a b ∨ a = b := by
  by_cases h1 : Lib.compareBytes a b = 0
  · exact .inr (cmp_zero _ _ h1)
  · left
    rw [kle, cmp_neg a b] at h
    rw [klt]; omega
theorem klt_ne {a b : Bys} (h : klt a b) : a ≠ b := fun e => by rw [e, klt, cmp_self] at h; omega
theorem kle_trans {a b c : Bys} (h : kle a b) (k : kle b c) : kle a c := by
  rcases kle_cases h with h | rfl
  · rcases kle_cases k with k | rfl
    · exact klt_kle (klt_trans h k)
    · exact klt_kle h
  · exact k
theorem klt_kle_trans {a b c : Bys} (h : klt a b) (k : kle b c) : klt a c := by
  rcases kle_cases k with k | rfl
  · exact klt_trans h k
  · exact h
theorem kle_klt_trans {a b c : Bys} (h : kle a b) (k : klt b c) : klt a c := by
  rcases kle_cases h with h | rfl
  · exact klt_trans h k
  · exact k
theorem kle_antisymm {a b : Bys} (h : kle a b) (k : kle b a) : a = b := by
  rcases kle_cases h with h | h
  · exact absurd h k
  · exact h

section
variable {α : Type} (key : α → Bys)
/-- Sorted. -/
def Srt (l : List α) : Prop := l.Pairwise (fun x y => kle (key x) (key y))
/-- Those with one key. -/
def flt (k : Bys) (l : List α) : List α := l.filter (fun x => key x == k)
/-- r is l sorted, the order of equals kept. -/
structure StS (l r : List α) : Prop where
  srt : Srt key r
  len : r.length = l.length
  flts : ∀ k, flt key k r = flt key k l
variable {key}
theorem flt_app (k : Bys) (l m : List α) : flt key k (l ++ m) = flt key k l ++ flt key k m := by simp [flt]
theorem flt_self {x : α} (l : List α) : x ∈ flt key (key x) l ↔ x ∈ l := by simp [flt]
theorem StS.mem {l r : List α} (h : StS key l r) (x : α) : x ∈ r ↔ x ∈ l := by
  rw [← flt_self (key := key) r, h.flts, flt_self]
theorem StS.of_srt {l : List α} (h : Srt key l) : StS key l l := ⟨h, rfl, fun _ => rfl⟩
theorem flt_cons (k : Bys) (x : α) (l : List α) : flt key k (x :: l) = if key x = k then x :: flt key k l else flt key k l := by
  by_cases h : key x = k <;> simp [flt, h]
theorem srt_unique : ∀ {r r' : List α}, Srt key r → Srt key r' → (∀ k, flt key k r = flt key k r') → r = r'
  | [], [], _, _, _ => rfl
  | [], y :: t, _, _, h => by
    have := h (key y)
    rw [flt_cons, if_pos rfl] at this
    simp [flt] at this
  | x :: t, [], _, _, h => by
    have := h (key x)
    rw [flt_cons, if_pos rfl] at this
    simp [flt] at this
  | x :: t, y :: t', hr, hr', h => by
    have hx : x ∈ y :: t' := by rw [← flt_self (key := key), ← h, flt_self]; simp
    have hy : y ∈ x :: t := by rw [← flt_self (key := key), h, flt_self]; simp
    have kxy : key x = key y := by
      refine kle_antisymm ?_ ?_
      · rcases List.mem_cons.1 hy with e | e
        · rw [e]; exact kle_refl _
        · exact (List.pairwise_cons.1 hr).1 _ e
      · rcases List.mem_cons.1 hx with e | e
        · rw [e]; exact kle_refl _
        · exact (List.pairwise_cons.1 hr').1 _ e
    have h1 := h (key x)
    rw [flt_cons, if_pos rfl, flt_cons, if_pos kxy.symm] at h1
    have exy : x = y := (List.cons.inj h1).1
    subst exy
    rw [srt_unique (List.pairwise_cons.1 hr).2 (List.pairwise_cons.1 hr').2 (fun k => by
      have := h k
      rw [flt_cons, flt_cons] at this
      by_cases e : key x = k
      · rw [if_pos e, if_pos e] at this; exact (List.cons.inj this).2
      · rw [if_neg e, if_neg e] at this; exact this)]
theorem StS.unique {l r r' : List α} (h : StS key l r) (h' : StS key l r') : r = r' := srt_unique h.srt h'.srt (fun k => (h.flts k).trans (h'.flts k).symm)
theorem StS.two {A A' B B' C : List α} (h : StS key A A') (k : StS key B B') (m : StS key (A' ++ B') C) : StS key (A ++ B) C :=
  ⟨m.srt, by rw [m.len, List.length_append, List.length_append, h.len, k.len], fun q => by rw [m.flts, flt_app, flt_app, h.flts, k.flts]⟩
theorem srt_app {A B : List α} : Srt key (A ++ B) ↔ Srt key A ∧ Srt key B ∧ ∀ x ∈ A, ∀ y ∈ B, kle (key x) (key y) := List.pairwise_append
theorem flt_swap {A B : List α} (h : ∀ y ∈ B, ∀ x ∈ A, klt (key y) (key x)) (k : Bys) : flt key k B ++ flt key k A = flt key k A ++ flt key k B := by
  cases hA : flt key k A with
  | nil => simp
  | cons x t =>
    cases hB : flt key k B with
    | nil => simp
    | cons y u =>
      exfalso
      have hx : x ∈ flt key k A := by rw [hA]; simp
      have hy : y ∈ flt key k B := by rw [hB]; simp
      simp [flt] at hx hy
      exact klt_ne (h y hy.1 x hx.1) (hy.2.trans hx.2.symm)
theorem StS.cat {A1 A2 B1 B2 C1 C2 : List α} (hA : Srt key (A1 ++ A2)) (hB : Srt key (B1 ++ B2)) (h1 : ∀ x ∈ A1, ∀ y ∈ B2, kle (key x) (key y)) (h2 : ∀ y ∈ B1, ∀ x ∈ A2, klt (key y) (key x)) (s1 : StS key (A1 ++ B1) C1) (s2 : StS key (A2 ++ B2) C2) : StS key ((A1 ++ A2) ++ (B1 ++ B2)) (C1 ++ C2) := by
  obtain ⟨a1, a2, a3⟩ := srt_app.1 hA
  obtain ⟨b1, b2, b3⟩ := srt_app.1 hB
  refine ⟨srt_app.2 ⟨s1.srt, s2.srt, fun x hx y hy => ?_⟩, ?_, fun k => ?_⟩
  · rw [s1.mem, List.mem_append] at hx
    rw [s2.mem, List.mem_append] at hy
    rcases hx with hx | hx <;> rcases hy with hy | hy
    · exact a3 x hx y hy
    · exact h1 x hx y hy
    · exact klt_kle (h2 x hx y hy)
    · exact b3 x hx y hy
  · have := s1.len
    have := s2.len
    simp only [List.length_append] at *
    omega
  · rw [flt_app, s1.flts, s2.flts, flt_app, flt_app, flt_app, flt_app, flt_app, List.append_assoc, List.append_assoc, ← List.append_assoc (flt key k B1), flt_swap h2 k, List.append_assoc]

/-- The key at a place. -/
def kat (key : α → Bys) (l : List α) (i : Nat) : Bys := (l[i]?.map key).getD []
theorem kat_eq {l : List α} {i : Nat} (h : i < l.length) : kat key l i = key l[i] := by simp [kat, h]
theorem Srt.at {l : List α} (h : Srt key l) {i j : Nat} (hij : i ≤ j) (hj : j < l.length) : kle (kat key l i) (kat key l j) := by
  rw [kat_eq (by omega), kat_eq hj]
  rcases Nat.lt_or_eq_of_le hij with h' | rfl
  · exact List.pairwise_iff_getElem.1 h i j (by omega) hj h'
  · exact kle_refl _
theorem mem_take_at {l : List α} {u : Nat} {x : α} (h : x ∈ l.take u) : ∃ i, i < u ∧ i < l.length ∧ kat key l i = key x := by
  obtain ⟨i, hi, e⟩ := List.mem_iff_getElem.1 h
  simp only [List.length_take] at hi
  refine ⟨i, by omega, by omega, ?_⟩
  rw [kat_eq (by omega), ← e, List.getElem_take]
theorem mem_drop_at {l : List α} {u : Nat} {x : α} (h : x ∈ l.drop u) : ∃ i, u ≤ i ∧ i < l.length ∧ kat key l i = key x := by
  obtain ⟨i, hi, e⟩ := List.mem_iff_getElem.1 h
  simp only [List.length_drop] at hi
  refine ⟨u + i, by omega, by omega, ?_⟩
  rw [kat_eq (by omega), ← e, List.getElem_drop]
theorem StS.sym {A B C1 C2 : List α} {u v : Nat} (hA : Srt key A) (hB : Srt key B) (hu : u ≤ A.length) (hv : v ≤ B.length) (h1 : u = 0 ∨ v = B.length ∨ kle (kat key A (u - 1)) (kat key B v)) (h2 : u = A.length ∨ v = 0 ∨ klt (kat key B (v - 1)) (kat key A u)) (s1 : StS key (A.take u ++ B.take v) C1) (s2 : StS key (A.drop u ++ B.drop v) C2) : StS key (A ++ B) (C1 ++ C2) := by
  have := StS.cat (A1 := A.take u) (A2 := A.drop u) (B1 := B.take v) (B2 := B.drop v) (by rwa [List.take_append_drop]) (by rwa [List.take_append_drop]) (fun x hx y hy => ?_) (fun y hy x hx => ?_) s1 s2
  · rwa [List.take_append_drop, List.take_append_drop] at this
  · obtain ⟨i, i1, i2, e⟩ := mem_take_at (key := key) hx
    obtain ⟨j, j1, j2, f⟩ := mem_drop_at (key := key) hy
    rw [← e, ← f]
    rcases h1 with h | h | h
    · omega
    · omega
    · exact kle_trans (hA.at (by omega) (by omega)) (kle_trans h (hB.at j1 j2))
  · obtain ⟨j, j1, j2, f⟩ := mem_take_at (key := key) hy
    obtain ⟨i, i1, i2, e⟩ := mem_drop_at (key := key) hx
    rw [← e, ← f]
    rcases h2 with h | h | h
    · omega
    · omega
    · exact kle_klt_trans (hB.at (by omega) (by omega)) (klt_kle_trans h (hA.at i1 i2))

/-- A sort. -/
def insB (key : α → Bys) (x : α) : List α → List α
  | [] => [x]
  | y :: l => if Lib.compareBytes (key y) (key x) < 0 then y :: insB key x l else x :: y :: l
def sortB (key : α → Bys) : List α → List α
  | [] => []
  | x :: l => insB key x (sortB key l)
theorem insB_mem (x : α) : ∀ (l : List α) (z : α), z ∈ insB key x l ↔ z = x ∨ z ∈ l
  | [], z => by simp [insB]
  | y :: l, z => by
    unfold insB
    split
    · rw [List.mem_cons, insB_mem x l z, List.mem_cons]
      constructor
      · rintro (h | h | h) <;> simp [h]
      · rintro (h | h | h) <;> simp [h]
    · rw [List.mem_cons]
theorem insB_sts (x : α) : ∀ (l : List α), Srt key l → StS key (x :: l) (insB key x l)
  | [], _ => StS.of_srt (by simp [Srt])
  | y :: l, h => by
    obtain ⟨h1, h2⟩ := List.pairwise_cons.1 h
    unfold insB
    split
    · rename_i hc
      have ih := insB_sts x l h2
      refine ⟨List.pairwise_cons.2 ⟨fun z hz => ?_, ih.srt⟩, by simp [ih.len], fun k => ?_⟩
      · rcases (insB_mem x l z).1 hz with rfl | hz
        · exact klt_kle hc
        · exact h1 z hz
      · rw [flt_cons, ih.flts, flt_cons, flt_cons, flt_cons]
        by_cases e1 : key y = k
        · by_cases e2 : key x = k
          · exact absurd (e1.trans e2.symm) (klt_ne hc)
          · rw [if_pos e1, if_neg e2, if_neg e2, if_pos e1]
        · by_cases e2 : key x = k
          · rw [if_neg e1, if_pos e2, if_pos e2, if_neg e1]
          · rw [if_neg e1, if_neg e2, if_neg e2, if_neg e1]
    · rename_i hc
      refine StS.of_srt (List.pairwise_cons.2 ⟨fun z hz => ?_, h⟩)
      rcases List.mem_cons.1 hz with rfl | hz
      · exact hc
      · exact kle_trans hc (h1 z hz)
theorem sortB_sts : ∀ (l : List α), StS key l (sortB key l)
  | [] => StS.of_srt (by simp [Srt])
  | x :: l => by
    have ih := sortB_sts l
    have h := insB_sts x _ ih.srt
    refine ⟨h.srt, by show (insB key x (sortB key l)).length = _; rw [h.len]; simp [ih.len], fun k => ?_⟩
    show flt key k (insB key x (sortB key l)) = _
    rw [h.flts, flt_cons, flt_cons, ih.flts]
theorem sortB_of_sts {l r : List α} (h : StS key l r) : r = sortB key l := h.unique (sortB_sts l)
theorem sortB_of_srt {l : List α} (h : Srt key l) : sortB key l = l := (sortB_of_sts (StS.of_srt h)).symm
end
end Go.Proofs.Tryz

namespace Go.Proofs.Tryz
set_option maxRecDepth 10000

/- Swaps in a row: without the program. -/
section
variable {α : Type}
def swp (L : List α) (i j : Nat) : List α := match L[i]?, L[j]? with
  | some x, some y => (L.set i y).set j x
  | _, _ => L
/-- Two stretches of n, swapped. -/
def swpR (L : List α) (a b : Nat) : Nat → List α
  | 0 => L
  | n + 1 => swp (swpR L a b n) (a + n) (b + n)
theorem swp_len (L : List α) (i j : Nat) : (swp L i j).length = L.length := by
  unfold swp
  split
  · simp
  · rfl
theorem swpR_len (L : List α) (a b : Nat) : ∀ n, (swpR L a b n).length = L.length
  | 0 => rfl
  | n + 1 => by rw [swpR, swp_len, swpR_len L a b n]
theorem swp_eq {L : List α} {i j : Nat} {x y : α} (hi : L[i]? = some x) (hj : L[j]? = some y) : swp L i j = (L.set i y).set j x := by
  unfold swp; rw [hi, hj]
theorem swp_at {L : List α} {i j : Nat} (hi : i < L.length) (hj : j < L.length) (k : Nat) : (swp L i j)[k]? = if k = j then L[i]? else if k = i then L[j]? else L[k]? := by
  rw [swp_eq (List.getElem?_eq_getElem hi) (List.getElem?_eq_getElem hj)]
  simp only [List.getElem?_set, List.length_set]
  by_cases h1 : k = j
  · subst h1; simp [hj, hi]
  · have h1' : ¬ j = k := fun e => h1 e.symm
    rw [if_neg h1', if_neg h1]
    by_cases h2 : k = i
    · subst h2; simp [hi, hj]
    · have h2' : ¬ i = k := fun e => h2 e.symm
      rw [if_neg h2', if_neg h2]
theorem swpR_at {L : List α} {a b : Nat} : ∀ {n : Nat}, a + n ≤ b → b + n ≤ L.length → ∀ k, (swpR L a b n)[k]? = if a ≤ k ∧ k < a + n then L[k - a + b]? else if b ≤ k ∧ k < b + n then L[k - b + a]? else L[k]?
  | 0, _, _, k => by
    rw [if_neg (by omega), if_neg (by omega)]; rfl
  | n + 1, h1, h2, k => by
    have ih := @swpR_at L a b n (by omega) (by omega)
    rw [swpR, swp_at (by rw [swpR_len]; omega) (by rw [swpR_len]; omega)]
    by_cases k1 : k = b + n
    · subst k1
      rw [if_pos rfl, ih, if_neg (by omega), if_neg (by omega), if_neg (by omega), if_pos (by omega)]
      congr 1; omega
    · rw [if_neg k1]
      by_cases k2 : k = a + n
      · subst k2
        rw [if_pos rfl, ih, if_neg (by omega), if_neg (by omega), if_pos (by omega)]
        congr 1; omega
      · rw [if_neg k2, ih]
        by_cases k3 : a ≤ k ∧ k < a + n
        · rw [if_pos k3, if_pos (by omega)]
        · rw [if_neg k3, if_neg (by omega : ¬ (a ≤ k ∧ k < a + (n + 1)))]
          by_cases k4 : b ≤ k ∧ k < b + n
          · rw [if_pos k4, if_pos (by omega)]
          · rw [if_neg k4, if_neg (by omega)]
theorem app_at (A B : List α) (k : Nat) : (A ++ B)[k]? = if k < A.length then A[k]? else B[k - A.length]? := List.getElem?_append
theorem swpR_app (X A M B Y : List α) (h : A.length = B.length) : swpR (X ++ (A ++ (M ++ (B ++ Y)))) X.length (X.length + (A.length + M.length)) A.length = X ++ (B ++ (M ++ (A ++ Y))) := by
  apply List.ext_getElem?
  intro k
  rw [swpR_at (by omega) (by simp only [List.length_append]; omega)]
  by_cases k1 : k < X.length
  · rw [if_neg (by omega), if_neg (by omega), app_at, if_pos k1, app_at, if_pos k1]
  · by_cases k2 : k < X.length + A.length
    · rw [if_pos (by omega), app_at, if_neg (by omega), app_at, if_neg (by omega), app_at, if_neg (by omega), app_at, if_pos (by omega), app_at, if_neg (by omega), app_at, if_pos (by omega)]
      congr 1; omega
    · rw [if_neg (by omega)]
      by_cases k3 : k < X.length + (A.length + M.length)
      · rw [if_neg (by omega), app_at, if_neg (by omega), app_at, if_neg (by omega), app_at, if_pos (by omega), app_at, if_neg (by omega), app_at, if_neg (by omega), app_at, if_pos (by omega)]
        congr 1; omega
      · by_cases k4 : k < X.length + (A.length + M.length) + A.length
        · rw [if_pos (by omega), app_at, if_neg (by omega), app_at, if_pos (by omega), app_at, if_neg (by omega), app_at, if_neg (by omega), app_at, if_neg (by omega), app_at, if_pos (by omega)]
          congr 1; omega
        · rw [if_neg (by omega), app_at, if_neg (by omega), app_at, if_neg (by omega), app_at, if_neg (by omega), app_at, if_neg (by omega), app_at, if_neg (by omega), app_at, if_neg (by omega), app_at, if_neg (by omega), app_at, if_neg (by omega)]
          congr 1; omega
end
end Go.Proofs.Tryz

namespace Go.Proofs.Tryz
set_option maxRecDepth 10000

/- What one step of the sort does: without the program. -/
section
variable {α : Type} {key : α → Bys}
theorem swp_adj (Z : List α) (x y : α) (R : List α) : swp (Z ++ x :: y :: R) Z.length (Z.length + 1) = Z ++ y :: x :: R := by
  rw [swp_eq (x := x) (y := y) (by simp) (by simp)]
  simp
theorem swp_adj' (Z : List α) (x y : α) (R : List α) : swp (Z ++ x :: y :: R) (Z.length + 1) Z.length = Z ++ y :: x :: R := by
  rw [swp_eq (x := y) (y := x) (by simp) (by simp)]
  simp
theorem srt_snoc {A : List α} {x : α} (hA : Srt key A) (h : A = [] ∨ kle (kat key A (A.length - 1)) (key x)) : Srt key (A ++ [x]) := by
  refine srt_app.2 ⟨hA, by simp [Srt], fun z hz y hy => ?_⟩
  simp only [List.mem_singleton] at hy
  subst hy
  rcases h with rfl | h
  · simp at hz
  · obtain ⟨i, hi, e⟩ := List.mem_iff_getElem.1 hz
    have : kat key A i = key z := by rw [kat_eq hi, e]
    rw [← this]
    exact kle_trans (hA.at (by omega) (by omega)) h
theorem srt_cons {A : List α} {x : α} (hA : Srt key A) (h : A = [] ∨ kle (key x) (kat key A 0)) : Srt key (x :: A) := by
  refine List.pairwise_cons.2 ⟨fun z hz => ?_, hA⟩
  rcases h with rfl | h
  · simp at hz
  · obtain ⟨i, hi, e⟩ := List.mem_iff_getElem.1 hz
    have : kat key A i = key z := by rw [kat_eq hi, e]
    rw [← this]
    exact kle_trans h (hA.at (by omega) hi)
theorem sts_ins {A0 S1 S2 : List α} {x : α} (h : StS key A0 (S1 ++ S2)) (h2 : ∀ y ∈ S2, klt (key x) (key y)) (h1 : S1 = [] ∨ kle (kat key S1 (S1.length - 1)) (key x)) : StS key (A0 ++ [x]) (S1 ++ (x :: S2)) := by
  obtain ⟨a1, a2, a3⟩ := srt_app.1 h.srt
  have s1 : StS key (S1 ++ [x]) (S1 ++ [x]) := StS.of_srt (srt_snoc a1 h1)
  have s2 : StS key (S2 ++ []) S2 := by rw [List.append_nil]; exact StS.of_srt a2
  have c := StS.cat (A1 := S1) (A2 := S2) (B1 := [x]) (B2 := []) h.srt (by simp [Srt]) (by simp) (by simpa using h2) s1 s2
  have := StS.two h (StS.of_srt (l := [x]) (by simp [Srt])) (C := S1 ++ (x :: S2)) (by simpa using c)
  exact this
theorem sts_left {B : List α} {x : α} {v : Nat} (hB : Srt key B) (hv : v ≤ B.length) (h1 : v = 0 ∨ klt (kat key B (v - 1)) (key x)) (h2 : v = B.length ∨ kle (key x) (kat key B v)) : StS key ([x] ++ B) (B.take v ++ (x :: B.drop v)) := by
  have hs : Srt key (B.take v) ∧ Srt key (B.drop v) := by
    have := srt_app.1 (show Srt key (B.take v ++ B.drop v) by rwa [List.take_append_drop])
    exact ⟨this.1, this.2.1⟩
  refine StS.sym (u := 0) (v := v) (by simp [Srt]) hB (by simp) hv (.inl rfl) ?_ ?_ ?_
  · rcases h1 with h | h
    · exact .inr (.inl h)
    · exact .inr (.inr (by simpa [kat] using h))
  · simpa using StS.of_srt hs.1
  · refine StS.of_srt (l := x :: B.drop v) (srt_cons hs.2 ?_)
    rcases h2 with h | h
    · exact .inl (by rw [h]; simp)
    · right
      simpa [kat, List.getElem?_drop] using h
theorem sts_right {A : List α} {y : α} {u : Nat} (hA : Srt key A) (hu : u ≤ A.length) (h1 : u = 0 ∨ kle (kat key A (u - 1)) (key y)) (h2 : u = A.length ∨ klt (key y) (kat key A u)) : StS key (A ++ [y]) (A.take u ++ (y :: A.drop u)) := by
  have hs : Srt key (A.take u) ∧ Srt key (A.drop u) := by
    have := srt_app.1 (show Srt key (A.take u ++ A.drop u) by rwa [List.take_append_drop])
    exact ⟨this.1, this.2.1⟩
  have c := StS.sym (A := A) (B := [y]) (C1 := A.take u ++ [y]) (C2 := A.drop u) (u := u) (v := 1) hA (by simp [Srt]) hu (by simp) (.inr (.inl rfl)) ?_ ?_ ?_
  · simpa using c
  · rcases h2 with h | h
    · exact .inl h
    · exact .inr (.inr (by simpa [kat] using h))
  · refine StS.of_srt (l := A.take u ++ [y]) (srt_snoc hs.1 ?_)
    rcases h1 with h | h
    · exact .inl (by rw [h]; simp)
    · by_cases h0 : u = 0
      · exact .inl (by rw [h0]; simp)
      · right
        have e : (A.take u).length - 1 = u - 1 := by simp; omega
        rw [e]
        have : kat key (A.take u) (u - 1) = kat key A (u - 1) := by
          simp only [kat]
          rw [List.getElem?_take_of_lt (by omega)]
        rw [this]; exact h
  · simpa using StS.of_srt hs.2

/-- n of a row from i on. -/
def seg (L : List α) (i n : Nat) : List α := (L.drop i).take n
theorem seg_len (L : List α) (i n : Nat) : (seg L i n).length = min n (L.length - i) := by simp [seg]
theorem seg_left {X Z : List α} {i n : Nat} (h : i + n ≤ X.length) : seg (X ++ Z) i n = seg X i n := by
  unfold seg
  rw [List.drop_append_of_le_length (by omega), List.take_append_of_le_length (by simp; omega)]
theorem seg_right {X A C Y : List α} {i n : Nat} (h : A.length = C.length) (hi : X.length + A.length ≤ i) : seg (X ++ (A ++ Y)) i n = seg (X ++ (C ++ Y)) i n := by
  unfold seg
  obtain ⟨k, rfl⟩ := Nat.exists_eq_add_of_le hi
  rw [← List.append_assoc, ← List.append_assoc, show X.length + A.length = (X ++ A).length by simp, List.drop_length_add_append, show (X ++ A).length = (X ++ C).length by simp [h], List.drop_length_add_append]
theorem seg_mid {X A Y : List α} : seg (X ++ (A ++ Y)) X.length A.length = A := by simp [seg]
theorem seg_add (L : List α) (i n m : Nat) : seg L i (n + m) = seg L i n ++ seg L (i + n) m := by
  unfold seg
  rw [List.take_add, List.drop_drop]
theorem seg_all {L : List α} {n : Nat} (h : L.length ≤ n) : seg L 0 n = L := by simp [seg, List.take_of_length_le h]
theorem seg_big {L : List α} {i n m : Nat} (hn : L.length ≤ i + n) (hm : L.length ≤ i + m) : seg L i n = seg L i m := by
  unfold seg
  rw [List.take_of_length_le (by simp; omega), List.take_of_length_le (by simp; omega)]
theorem split3 (L : List α) (i n : Nat) : L = L.take i ++ (seg L i n ++ L.drop (i + n)) := by
  unfold seg
  rw [show L.drop (i + n) = (L.drop i).drop n by rw [List.drop_drop], List.take_append_drop, List.take_append_drop]

/-- Blocks of s are sorted each: up to the place a those of t, from there on those of s. -/
structure Blk (key : α → Bys) (L R : List α) (a s t : Nat) : Prop where
  len : R.length = L.length
  done : ∀ k, (k + 1) * t ≤ a → StS key (seg L (k * t) t) (seg R (k * t) t)
  left : ∀ i, a ≤ i → (∃ k, i = a + k * s) → StS key (seg L i s) (seg R i s)
theorem Blk.step {L R : List α} {a s : Nat} (h : Blk key L R a s (s + s)) (ha : ∃ k, a = k * (s + s)) (hs : 0 < s) {C : List α} (hC : StS key (seg R a s ++ seg R (a + s) s) C) : Blk key L (R.take a ++ (C ++ R.drop (a + (s + s)))) (a + (s + s)) s (s + s) := by
  have hc : C.length = (seg R a (s + s)).length := by rw [hC.len, seg_add]
  have hR := split3 R a (s + s)
  have hlen : (R.take a ++ (C ++ R.drop (a + (s + s)))).length = R.length := by
    conv => rhs; rw [hR]
    simp only [List.length_append, hc]
  obtain ⟨k0, hk0⟩ := ha
  refine ⟨hlen.trans h.len, fun k hk => ?_, fun i hi hik => ?_⟩
  · by_cases hlt : (k + 1) * (s + s) ≤ a
    · have e1 : seg (R.take a ++ (C ++ R.drop (a + (s + s)))) (k * (s + s)) (s + s) = seg R (k * (s + s)) (s + s) := by
        by_cases hal : a ≤ R.length
        · have : (R.take a).length = a := by simp; omega
          rw [seg_left (by rw [this]; rw [Nat.add_mul, Nat.one_mul] at hlt; exact hlt)]
          conv => rhs; rw [hR]
          rw [seg_left (by rw [this]; rw [Nat.add_mul, Nat.one_mul] at hlt; exact hlt)]
        · have e2 : seg R a (s + s) = [] := by simp [seg]; right; omega
          have e3 : C = [] := List.eq_nil_of_length_eq_zero (by rw [hc, e2]; rfl)
          have e4 : R.drop (a + (s + s)) = [] := by simp; omega
          rw [e3, e4, List.append_nil, List.append_nil, List.take_of_length_le (by omega)]
      rw [e1]
      exact h.done k hlt
    · have ek : k * (s + s) = a := by
        subst hk0
        have h1 : k < k0 + 1 := by
          have : (k + 1) * (s + s) ≤ (k0 + 1) * (s + s) := by rw [Nat.add_mul k0, Nat.one_mul]; exact hk
          have := Nat.le_of_mul_le_mul_right this (by omega)
          omega
        have h2 : ¬ k + 1 ≤ k0 := fun e => hlt (Nat.mul_le_mul_right _ e)
        have : k = k0 := by omega
        rw [this]
      rw [ek]
      have l1 := h.left a (Nat.le_refl _) ⟨0, by omega⟩
      have l2 := h.left (a + s) (by omega) ⟨1, by omega⟩
      have e5 : seg (R.take a ++ (C ++ R.drop (a + (s + s)))) a (s + s) = C := by
        by_cases hal : a ≤ R.length
        · have ht : (R.take a).length = a := by simp; omega
          have hcl : C.length = min (s + s) (R.length - a) := by rw [hc, seg_len]
          by_cases hbig : a + (s + s) ≤ R.length
          · have : C.length = s + s := by omega
            conv => lhs; rw [← ht, ← this]
            rw [ht, this]
            have q := seg_mid (X := R.take a) (A := C) (Y := R.drop (a + (s + s)))
            rw [ht, this] at q
            exact q
          · have : R.drop (a + (s + s)) = [] := by simp; omega
            rw [this, List.append_nil]
            have q := List.drop_left (l₁ := R.take a) (l₂ := C)
            rw [ht] at q
            unfold seg
            rw [q]
            exact List.take_of_length_le (by omega)
        · have e2 : seg R a (s + s) = [] := by simp [seg]; right; omega
          have e3 : C = [] := List.eq_nil_of_length_eq_zero (by rw [hc, e2]; rfl)
          have e4 : R.drop (a + (s + s)) = [] := by simp; omega
          rw [e3, e4, List.append_nil, List.append_nil, List.take_of_length_le (by omega)]
          exact e2
      rw [e5, seg_add]
      exact StS.two l1 l2 hC
  · obtain ⟨k, rfl⟩ := hik
    have e6 : seg (R.take a ++ (C ++ R.drop (a + (s + s)))) (a + (s + s) + k * s) s = seg R (a + (s + s) + k * s) s := by
      conv => rhs; rw [hR]
      exact (seg_right hc.symm (by rw [seg_len]; simp; omega)).symm
    rw [e6]
    exact h.left _ (by omega) ⟨k + 2, by rw [Nat.add_mul]; omega⟩
theorem Blk.last {L R : List α} {a s : Nat} (h : Blk key L R a s (s + s)) (ha : ∃ k, a = k * (s + s)) (hs : 0 < s) (hl : L.length ≤ a + s) : Blk key L R (a + (s + s)) s (s + s) := by
  have e : seg R (a + s) s = [] := by have := h.len; simp [seg]; right; omega
  have l1 := h.left a (Nat.le_refl _) ⟨0, by omega⟩
  have := h.step ha hs (C := seg R a s) (by rw [e, List.append_nil]; exact StS.of_srt l1.srt)
  rw [seg_big (m := s + s) (by have := h.len; omega) (by have := h.len; omega), ← split3] at this
  exact this
theorem Blk.next {L R : List α} {a s t : Nat} (h : Blk key L R a s (s + s)) (ha : ∃ k, a = k * (s + s)) (hl : L.length ≤ a) : Blk key L R 0 (s + s) t := by
  refine ⟨h.len, fun k hk => ?_, fun i _ hik => ?_⟩
  · have : t = 0 := by
      rw [Nat.add_mul] at hk; omega
    subst this
    have e1 : seg L (k * 0) 0 = [] := by simp [seg]
    have e2 : seg R (k * 0) 0 = [] := by simp [seg]
    rw [e1, e2]
    exact StS.of_srt (by simp [Srt])
  · obtain ⟨k, rfl⟩ := hik
    rw [Nat.zero_add]
    by_cases hk : (k + 1) * (s + s) ≤ a
    · exact h.done k hk
    · obtain ⟨k0, rfl⟩ := ha
      have : k0 ≤ k := by
        rcases Nat.lt_or_ge k k0 with h' | h'
        · exact absurd (Nat.mul_le_mul_right (s + s) (show k + 1 ≤ k0 by omega)) hk
        · exact h'
      have := Nat.mul_le_mul_right (s + s) this
      have e1 : seg L (k * (s + s)) (s + s) = [] := by simp [seg]; right; omega
      have e2 : seg R (k * (s + s)) (s + s) = [] := by have := h.len; simp [seg]; right; omega
      rw [e1, e2]
      exact StS.of_srt (by simp [Srt])
theorem Blk.whole {L R : List α} {s t : Nat} (h : Blk key L R 0 s t) (hl : L.length ≤ s) : StS key L R := by
  have := h.left 0 (Nat.le_refl _) ⟨0, by omega⟩
  rwa [seg_all hl, seg_all (by rw [h.len]; exact hl)] at this

/-- The first blocks are sorted, up to the place a; what lies behind it is as it was. -/
structure Ini (key : α → Bys) (L R : List α) (a s : Nat) : Prop where
  len : R.length = L.length
  done : ∀ k, (k + 1) * s ≤ a → StS key (seg L (k * s) s) (seg R (k * s) s)
  rest : R.drop a = L.drop a
theorem Ini.step {L R : List α} {a s : Nat} (h : Ini key L R a s) (ha : ∃ k, a = k * s) (hs : 0 < s) {C : List α} (hal : a ≤ L.length) (hC : StS key (seg R a s) C) : Ini key L (R.take a ++ (C ++ R.drop (a + s))) (a + s) s := by
  have hlen0 := h.len
  have hcl : C.length = min s (R.length - a) := by rw [hC.len, seg_len]
  have ht : (R.take a).length = a := by simp; omega
  have hR := split3 R a s
  have hlen : (R.take a ++ (C ++ R.drop (a + s))).length = R.length := by
    conv => rhs; rw [hR]
    simp only [List.length_append, hC.len]
  obtain ⟨k0, hk0⟩ := ha
  refine ⟨hlen.trans h.len, fun k hk => ?_, ?_⟩
  · by_cases hlt : (k + 1) * s ≤ a
    · have e1 : seg (R.take a ++ (C ++ R.drop (a + s))) (k * s) s = seg R (k * s) s := by
        rw [seg_left (by rw [ht]; rw [Nat.add_mul, Nat.one_mul] at hlt; exact hlt)]
        conv => rhs; rw [hR]
        rw [seg_left (by rw [ht]; rw [Nat.add_mul, Nat.one_mul] at hlt; exact hlt)]
      rw [e1]
      exact h.done k hlt
    · have ek : k * s = a := by
        subst hk0
        have h1 : k < k0 + 1 := by
          have : (k + 1) * s ≤ (k0 + 1) * s := by rw [Nat.add_mul k0, Nat.one_mul]; exact hk
          have := Nat.le_of_mul_le_mul_right this (by omega)
          omega
        have h2 : ¬ k + 1 ≤ k0 := fun e => hlt (Nat.mul_le_mul_right _ e)
        have : k = k0 := by omega
        rw [this]
      rw [ek]
      have e5 : seg (R.take a ++ (C ++ R.drop (a + s))) a s = C := by
        by_cases hbig : a + s ≤ R.length
        · have : C.length = s := by omega
          have q := seg_mid (X := R.take a) (A := C) (Y := R.drop (a + s))
          rw [ht, this] at q
          exact q
        · have : R.drop (a + s) = [] := by simp; omega
          rw [this, List.append_nil]
          have q := List.drop_left (l₁ := R.take a) (l₂ := C)
          rw [ht] at q
          unfold seg
          rw [q]
          exact List.take_of_length_le (by omega)
      have e6 : seg R a s = seg L a s := by unfold seg; rw [h.rest]
      rw [e5, ← e6]
      exact hC
  · rw [← List.append_assoc]
    by_cases hbig : a + s ≤ R.length
    · have : (R.take a ++ C).length = a + s := by simp only [List.length_append, ht]; omega
      rw [← this, List.drop_left, this, show R.drop (a + s) = (R.drop a).drop s by rw [List.drop_drop], h.rest, List.drop_drop]
    · rw [List.drop_eq_nil_of_le (by rw [List.append_assoc, hlen]; omega), List.drop_eq_nil_of_le (by omega)]
theorem Ini.blk {L R : List α} {a s t : Nat} (h : Ini key L R a s) (ha : ∃ k, a = k * s) (hl : L.length ≤ a) : Blk key L R 0 s t := by
  refine ⟨h.len, fun k hk => ?_, fun i _ hik => ?_⟩
  · have : t = 0 := by
      rw [Nat.add_mul] at hk; omega
    subst this
    have e1 : seg L (k * 0) 0 = [] := by simp [seg]
    have e2 : seg R (k * 0) 0 = [] := by simp [seg]
    rw [e1, e2]
    exact StS.of_srt (by simp [Srt])
  · obtain ⟨k, rfl⟩ := hik
    rw [Nat.zero_add]
    by_cases hk : (k + 1) * s ≤ a
    · exact h.done k hk
    · obtain ⟨k0, rfl⟩ := ha
      have : k0 ≤ k := by
        rcases Nat.lt_or_ge k k0 with h' | h'
        · exact absurd (Nat.mul_le_mul_right s (show k + 1 ≤ k0 by omega)) hk
        · exact h'
      have := Nat.mul_le_mul_right s this
      have e1 : seg L (k * s) s = [] := by simp [seg]; right; omega
      have e2 : seg R (k * s) s = [] := by have := h.len; simp [seg]; right; omega
      rw [e1, e2]
      exact StS.of_srt (by simp [Srt])
end
end Go.Proofs.Tryz

namespace Go.Proofs.Tryz
open Go.RowKit
set_option maxRecDepth 10000

/-- A member: its key, its value, and (beside the program) the value's text. -/
abbrev El := ByteArray × (IV × Bys)
def elKey (x : El) : Bys := x.1.data.toList
/-- The members that lie in block g. -/
def Mem (w : World) (g C : Nat) (L : List El) : Prop := ∃ cs : Array Value, w.heap[g]? = some (.cells cs 107 (0, 0)) ∧ cs.size = C ∧ 2 * L.length ≤ C ∧ ∀ i x, L[i]? = some x → cs[i * 2]? = some (.string x.1) ∧ cs[i * 2 + 1]? = some (iv x.2.1)
theorem Mem.at {w : World} {g C i : Nat} {L : List El} {x : El} (h : Mem w g C L) (hi : L[i]? = some x) : w.cell? ⟨g, i * 2, none⟩ = some (.string x.1) ∧ w.cell? ⟨g, i * 2 + 1, none⟩ = some (iv x.2.1) := by
  obtain ⟨cs, h0, _, _, h1⟩ := h
  exact ⟨cells_cell h0 (h1 i x hi).1, cells_cell h0 (h1 i x hi).2⟩
theorem Mem.free {w : World} {g C : Nat} {L : List El} (h : Mem w g C L) (o : Nat) : w.frozen? ⟨g, o, none⟩ = false := by
  obtain ⟨cs, h0, _⟩ := h
  exact cells_free h0
theorem Mem.lt {w : World} {g C : Nat} {L : List El} (h : Mem w g C L) : g < w.heap.size := by
  obtain ⟨cs, h0, _⟩ := h
  exact lt_of_block h0
theorem Mem.same {w w' : World} {g C : Nat} {L : List El} (h : Mem w g C L) (e : w'.heap[g]? = w.heap[g]?) : Mem w' g C L := by
  obtain ⟨cs, h0, h1⟩ := h
  exact ⟨cs, e.trans h0, h1⟩
theorem Mem.set {w : World} {g C i : Nat} {L : List El} (h : Mem w g C L) (x : El) (hi : i < L.length) : Mem ((w.setCell ⟨g, i * 2, none⟩ (.string x.1)).setCell ⟨g, i * 2 + 1, none⟩ (iv x.2.1)) g C (L.set i x) := by
  obtain ⟨cs, h0, h1, h2, h3⟩ := h
  refine ⟨_, cells_set (cells_set h0), by simp [h1], by simpa using h2, fun j y hj => ?_⟩
  rw [List.getElem?_set] at hj
  simp only [Array.getElem?_setIfInBounds, Array.size_setIfInBounds]
  by_cases e : i = j
  · subst e
    rw [if_pos rfl, if_pos hi] at hj
    cases hj
    rw [if_neg (by omega), if_pos rfl, if_pos (by omega), if_pos rfl, if_pos (by omega)]
    exact ⟨rfl, rfl⟩
  · rw [if_neg e] at hj
    rw [if_neg (by omega), if_neg (by omega), if_neg (by omega), if_neg (by omega)]
    exact h3 j y hj

set_option maxHeartbeats 2000000 in
theorem swapRange_ok {w : World} {g C cap a b n : Nat} {L : List El} (f : Value) (h : Mem w g C L) (hl : L.length ≤ 10000000) (hab : a + n ≤ b) (hbn : b + n ≤ L.length) :
    Calls Tryz.prog 322 #[.slice (some ⟨g, 0, none⟩) L.length cap, .int .i64 a, .int .i64 b, .int .i64 n, f] w fun e w' => e = .returned (.tuple #[]) ∧ Mem w' g C (swpR L a b n) ∧ Fr (· = g) w w' := by
  go_enter Tryz.func322, Tryz.ntmps322
  go_wp2_with fail
  go_loopg [10] n (fun k v wr => ∃ i : Nat, i + k = n ∧ v = .int .i64 i ∧ Mem wr g C (swpR L a b i) ∧ Fr (· = g) w wr)
  case atStart => exact ⟨0, by omega, rfl, h, Fr.refl _ _⟩
  case round =>
    obtain ⟨i, hik, rfl, hM, hfr⟩ := hrel
    match gk, hik with
    | 0, hik =>
      have hi' : ¬ (i : Int) < (n : Int) := by omega
      go_wp2_with fail
      go_end0
      obtain rfl : i = n := by omega
      exact ⟨rfl, hM, hfr⟩
    | k + 1, hik =>
      have hi' : (i : Int) < (n : Int) := by omega
      have hx : ∃ x, (swpR L a b i)[a + i]? = some x := ⟨_, List.getElem?_eq_getElem (by rw [swpR_len]; omega)⟩
      have hy : ∃ y, (swpR L a b i)[b + i]? = some y := ⟨_, List.getElem?_eq_getElem (by rw [swpR_len]; omega)⟩
      obtain ⟨⟨kx, ⟨Tx, ux⟩, tx⟩, hx⟩ := hx
      obtain ⟨⟨ky, ⟨Ty, uy⟩, ty⟩, hy⟩ := hy
      obtain ⟨x0, x1⟩ := hM.at hx
      obtain ⟨y0, y1⟩ := hM.at hy
      simp only [iv] at x0 x1 y0 y1
      obtain ⟨p, hp⟩ : ∃ p, a + i = p := ⟨_, rfl⟩
      obtain ⟨q, hq⟩ : ∃ q, b + i = q := ⟨_, rfl⟩
      rw [hp] at hx x0 x1
      rw [hq] at hy y0 y1
      have ep : (a : Int) + (i : Int) = (p : Int) := by omega
      have eq : (b : Int) + (i : Int) = (q : Int) := by omega
      have hpl : (p : Int) < (L.length : Int) := by omega
      have hql : (q : Int) < (L.length : Int) := by omega
      have hp0 : (0 : Int) ≤ (p : Int) := by omega
      have hq0 : (0 : Int) ≤ (q : Int) := by omega
      have fz := hM.free
      go_wp2_with fail
      have mixed : Tryz.prog.follows Departure.mixedOrders = true := by kernel_rfl
      go_big_region_o
      go_wp2_with fail
      go_roundg k
      case measure => omega
      case rel =>
        have hpl2 : p < (swpR L a b i).length := by rw [swpR_len]; omega
        have hql2 : q < ((swpR L a b i).set p (ky, (Ty, uy), ty)).length := by rw [List.length_set, swpR_len]; omega
        have h2 := (hM.set (ky, (Ty, uy), ty) hpl2).set (kx, (Tx, ux), tx) hql2
        refine ⟨i + 1, by omega, by go_num, ?_, ?_⟩
        · rw [swpR, hp, hq, swp_eq hx hy]
          exact h2
        · exact ((((hfr.setCell _ (.inl rfl)).setCell _ (.inl rfl)).setCell _ (.inl rfl)).setCell _ (.inl rfl)).drewN 1

/-- One stretch before another, exchanged with what lies behind. -/
theorem rot_gt {X A1 A2 B Y : List El} (h : A1.length = B.length) : swpR (X ++ ((A1 ++ A2) ++ (B ++ Y))) X.length (X.length + (A1 ++ A2).length) B.length = (X ++ B) ++ (A2 ++ (A1 ++ Y)) := by
  have := swpR_app X A1 A2 B Y h
  rw [List.append_assoc, List.length_append, ← h, this, List.append_assoc]
theorem rot_lt {X A B1 B2 Y : List El} (h : A.length = B2.length) : swpR (X ++ (A ++ ((B1 ++ B2) ++ Y))) X.length (X.length + (A.length + B1.length)) A.length = X ++ (B2 ++ (B1 ++ (A ++ Y))) := by
  have := swpR_app X A B1 B2 Y h
  rw [List.append_assoc, this]
theorem rot_eq {X A B Y : List El} (h : A.length = B.length) : swpR (X ++ (A ++ (B ++ Y))) X.length (X.length + A.length) A.length = X ++ (B ++ (A ++ Y)) := by
  have := swpR_app X A [] B Y h
  simpa using this

set_option maxHeartbeats 2000000 in
theorem rotate_ok {w : World} {g C cap a m b : Nat} {X A B Y : List El} (f : Value) (h : Mem w g C (X ++ (A ++ (B ++ Y)))) (hl : (X ++ (A ++ (B ++ Y))).length ≤ 10000000) (ha : X.length = a) (hm : a + A.length = m) (hb : m + B.length = b) (hA : A ≠ []) (hB : B ≠ []) :
    Calls Tryz.prog 302 #[.slice (some ⟨g, 0, none⟩) (X ++ (A ++ (B ++ Y))).length cap, .int .i64 a, .int .i64 m, .int .i64 b, f] w fun e w' => e = .returned (.tuple #[]) ∧ Mem w' g C (X ++ (B ++ (A ++ Y))) ∧ Fr (· = g) w w' := by
  obtain ⟨N, hN⟩ : ∃ N, (X ++ (A ++ (B ++ Y))).length = N := ⟨_, rfl⟩
  obtain ⟨R, hR⟩ : ∃ R, X ++ (B ++ (A ++ Y)) = R := ⟨_, rfl⟩
  rw [hN] at hl ⊢
  rw [hR]
  have hlA : 0 < A.length := List.length_pos_iff.2 hA
  have hlB : 0 < B.length := List.length_pos_iff.2 hB
  have hN' : a + (A.length + (B.length + Y.length)) = N := by rw [← hN]; simp only [List.length_append, ha]
  have HN : Hid _ := hN
  have HR : Hid _ := hR
  have HM : Aside _ := h
  clear hN hR h hA hB
  go_enter Tryz.func302, Tryz.ntmps302
  go_wp2_with fail
  go_loopg [10, 11] (N + N) (fun k v10 v11 wr => ∃ (X' A' B' Y' : List El) (i j : Nat), v10 = .int .i64 i ∧ v11 = .int .i64 j ∧ A'.length = i ∧ B'.length = j ∧ 0 < i ∧ 0 < j ∧ X'.length + i = m ∧ i + j ≤ k ∧ Aside (Mem wr g C (X' ++ (A' ++ (B' ++ Y')))) ∧ Fr (· = g) w wr ∧ Hid (X' ++ (B' ++ (A' ++ Y')) = R) ∧ Hid ((X' ++ (A' ++ (B' ++ Y'))).length = N) ∧ X'.length + (i + (j + Y'.length)) = N)
  case atStart => exact ⟨X, A, B, Y, A.length, B.length, by congr 1; omega, by congr 1; omega, rfl, rfl, hlA, hlB, by omega, by omega, HM, Fr.refl _ _, HR, HN, by omega⟩
  case round =>
    clear HM HN HR hN' hlA hlB
    obtain ⟨X', A', B', Y', i, j, rfl, rfl, hi, hj, i0, j0, hx, hk, hM, hfr, hr, hn, hn'⟩ := hrel
    obtain ⟨p, hp⟩ : ∃ p, X'.length = p := ⟨_, rfl⟩
    rw [hp] at hx hn'
    have ep : (m : Int) - (i : Int) = (p : Int) := by omega
    rcases Nat.lt_trichotomy i j with hc | hc | hc
    · have c1 : ((i : Int) != (j : Int)) = true := by simp; omega
      have c2 : ¬ (j : Int) < (i : Int) := by omega
      obtain ⟨q, hq⟩ : ∃ q, m + j = q := ⟨_, rfl⟩
      obtain ⟨u, hu⟩ : ∃ u, q - i = u := ⟨_, rfl⟩
      have eq : (m : Int) + (j : Int) = (q : Int) := by omega
      have eu : (q : Int) - (i : Int) = (u : Int) := by omega
      have hs := swapRange_ok (cap := cap) (a := p) (b := u) (n := i) f hM.out (by rw [hn.out]; omega) (by omega) (by rw [hn.out]; omega)
      rw [hn.out] at hs
      have HQ : Hid _ := hq
      have HU : Hid _ := hu
      clear hq hu
      go_wp2_with (go_at_call 322; refine hs.mono ?_; rintro e w1 ⟨rfl, hM1, fr1⟩)
      go_roundg j
      case measure => omega
      case rel =>
        obtain ⟨B1, B2, rfl, hl1, hl2⟩ : ∃ B1 B2 : List El, B' = B1 ++ B2 ∧ B1.length = j - i ∧ B2.length = i := ⟨B'.take (j - i), B'.drop (j - i), (List.take_append_drop _ _).symm, by simp; omega, by simp; omega⟩
        have e1 := rot_lt (X := X') (A := A') (B1 := B1) (B2 := B2) (Y := Y') (by omega)
        rw [hp, show p + (A'.length + B1.length) = u by have := HQ.out; have := HU.out; omega, hi] at e1
        rw [e1] at hM1
        refine ⟨X', B2, B1, A' ++ Y', i, j - i, rfl, by congr 1; omega, hl2, hl1, by omega, by omega, by omega, by omega, hM1, hfr.trans fr1 (fun _ _ e => e), ?_, ?_, ?_⟩
        · show _ = _
          rw [← hr.out, List.append_assoc]
        · show _ = _
          rw [← hn.out]; simp only [List.length_append]; omega
        · simp only [List.length_append]; omega
    · subst hc
      have c1 : ((i : Int) != (i : Int)) = false := by simp
      have hs := swapRange_ok (cap := cap) (a := p) (b := m) (n := i) f hM.out (by rw [hn.out]; omega) (by omega) (by rw [hn.out]; omega)
      rw [hn.out] at hs
      go_wp2_with (go_at_call 322; refine hs.mono ?_; rintro e w1 ⟨rfl, hM1, fr1⟩)
      go_end0
      have hmb : m = X'.length + A'.length := by omega
      have e1 : swpR (X' ++ (A' ++ (B' ++ Y'))) p m i = X' ++ (B' ++ (A' ++ Y')) := by
        rw [hmb, ← hp, ← hi]
        exact rot_eq (by omega)
      rw [e1, hr.out] at hM1
      exact ⟨rfl, hM1, hfr.trans fr1 (fun _ _ e => e)⟩
    · have c1 : ((i : Int) != (j : Int)) = true := by simp; omega
      have c2 : (j : Int) < (i : Int) := by omega
      have hs := swapRange_ok (cap := cap) (a := p) (b := m) (n := j) f hM.out (by rw [hn.out]; omega) (by omega) (by rw [hn.out]; omega)
      rw [hn.out] at hs
      go_wp2_with (go_at_call 322; refine hs.mono ?_; rintro e w1 ⟨rfl, hM1, fr1⟩)
      go_roundg i
      case measure => omega
      case rel =>
        obtain ⟨A1, A2, rfl, hl1, hl2⟩ : ∃ A1 A2 : List El, A' = A1 ++ A2 ∧ A1.length = j ∧ A2.length = i - j := ⟨A'.take j, A'.drop j, (List.take_append_drop _ _).symm, by simp; omega, by simp; omega⟩
        have e1 := rot_gt (X := X') (A1 := A1) (A2 := A2) (B := B') (Y := Y') (by omega)
        rw [hp, show p + (A1 ++ A2).length = m by omega, hj] at e1
        rw [e1] at hM1
        refine ⟨X' ++ B', A2, A1, Y', i - j, j, by congr 1; omega, rfl, hl2, hl1, by omega, by omega, by simp only [List.length_append]; omega, by omega, hM1, hfr.trans fr1 (fun _ _ e => e), ?_, ?_, ?_⟩
        · show _ = _
          rw [← hr.out, List.append_assoc, List.append_assoc]
        · show _ = _
          rw [← hn.out]; simp only [List.length_append]; omega
        · simp only [List.length_append]; omega
end Go.Proofs.Tryz

namespace Go.Proofs.Tryz
open Go.RowKit
set_option maxRecDepth 10000

/-- What strings.Compare answers. -/
def ComparesStr : Prop := ∀ (a b : ByteArray) (w : World), Calls Tryz.prog 188 #[.string a, .string b] w fun e w' => e = .returned (.int .i64 (Lib.compareBytes a.data.toList b.data.toList)) ∧ w' = w

/-- A member's cells, as a value. -/
def elV (x : El) : Value := .agg #[.string x.1, .iface x.2.1.1 x.2.1.2]

set_option maxHeartbeats 1000000 in
theorem memCmp_ok (hC : ComparesStr) (kx ky : ByteArray) (Tx Ty : Nat) (ux uy : Value) (w : World) :
    Calls Tryz.prog 187 #[.agg #[.string kx, .iface Tx ux], .agg #[.string ky, .iface Ty uy]] w fun e w' => e = .returned (.int .i64 (Lib.compareBytes kx.data.toList ky.data.toList)) ∧ Below w.heap.size w w' := by
  go_enter Tryz.func187, Tryz.ntmps187
  go_wp2_with (go_at_call 188; refine (hC _ _ _).mono ?_; rintro e w1 ⟨rfl, hw⟩; subst w1)
  go_ret
  exact ⟨rfl, ((Below.refl _ _).alloc (Nat.le_refl _) _).alloc (by simp) _⟩

theorem Mem.swap {w : World} {g C i j : Nat} {L : List El} {kx ky : ByteArray} {Tx Ty : Nat} {ux uy : Value} {tx ty : Bys} (h : Mem w g C L) (hx : L[i]? = some (kx, (Tx, ux), tx)) (hy : L[j]? = some (ky, (Ty, uy), ty)) : Mem ((((w.setCell ⟨g, i * 2, none⟩ (.string ky)).setCell ⟨g, i * 2 + 1, none⟩ (.iface Ty uy)).setCell ⟨g, j * 2, none⟩ (.string kx)).setCell ⟨g, j * 2 + 1, none⟩ (.iface Tx ux)).drew g C (swp L i j) := by
  have h2 := (h.set (ky, (Ty, uy), ty) (List.getElem?_eq_some_iff.1 hx).1).set (kx, (Tx, ux), tx) (i := j) (by rw [List.length_set]; exact (List.getElem?_eq_some_iff.1 hy).1)
  rw [← swp_eq hx hy] at h2
  exact h2
theorem fr_swap {w wr : World} {g i j : Nat} {a b c d : Value} (h : Fr (· = g) w wr) : Fr (· = g) w ((((wr.setCell ⟨g, i * 2, none⟩ a).setCell ⟨g, i * 2 + 1, none⟩ b).setCell ⟨g, j * 2, none⟩ c).setCell ⟨g, j * 2 + 1, none⟩ d).drew :=
  ((((h.setCell _ (.inl rfl)).setCell _ (.inl rfl)).setCell _ (.inl rfl)).setCell _ (.inl rfl)).drewN 1

/-- The function that tells the order of two members. -/
def cmpF : Value := .func (.func 187) #[] #[]
theorem kat_mid {X A Y : List El} {i : Nat} (h0 : X.length ≤ i) (h1 : i < X.length + A.length) : kat elKey (X ++ (A ++ Y)) i = kat elKey A (i - X.length) := by
  unfold kat
  rw [List.getElem?_append_right h0, List.getElem?_append_left (by omega)]
theorem kat_some {L : List El} {i : Nat} {x : El} (h : L[i]? = some x) : kat elKey L i = elKey x := by simp [kat, h]

set_option maxHeartbeats 4000000 in
theorem sym_left (hC : ComparesStr) {w : World} {g C cap a m b : Nat} {X B Y : List El} {x : El} (h : Mem w g C (X ++ ([x] ++ (B ++ Y)))) (hl : (X ++ ([x] ++ (B ++ Y))).length ≤ 10000000) (ha : X.length = a) (hm : a + 1 = m) (hb : m + B.length = b) (hB : Srt elKey B) :
    Calls Tryz.prog 277 #[.slice (some ⟨g, 0, none⟩) (X ++ ([x] ++ (B ++ Y))).length cap, .int .i64 a, .int .i64 m, .int .i64 b, cmpF] w fun e w' => e = .returned (.tuple #[]) ∧ (∃ R, StS elKey ([x] ++ B) R ∧ Mem w' g C (X ++ (R ++ Y))) ∧ Fr (· = g) w w' := by
  obtain ⟨L, hL⟩ : ∃ L, X ++ ([x] ++ (B ++ Y)) = L := ⟨_, rfl⟩
  obtain ⟨N, hN⟩ : ∃ N, L.length = N := ⟨_, rfl⟩
  have hN' : a + (1 + (B.length + Y.length)) = N := by rw [← hN, ← hL]; simp only [List.length_append, ha, List.length_singleton]
  rw [hL] at h hl ⊢
  rw [hN] at hl ⊢
  have hxa : L[a]? = some x := by rw [← hL, ← ha]; simp
  have HL : Hid _ := hL
  have HN : Hid _ := hN
  have HM : Aside _ := h
  have HX : Hid _ := hxa
  obtain ⟨kx, ⟨Tx, ux⟩, tx⟩ := x
  clear hL hN h hxa
  have em : (m : Int) - (a : Int) = 1 := by omega
  unfold cmpF
  go_enter Tryz.func277, Tryz.ntmps277
  go_wp2_with fail

  go_loopg [10, 11] (b - m) (fun k v1 v2 wr => ∃ (i j : Nat), v1 = .int .i64 i ∧ v2 = .int .i64 j ∧ m ≤ i ∧ i ≤ j ∧ j ≤ b ∧ j - i ≤ k ∧ Aside (Mem wr g C L) ∧ Fr (· = g) w wr ∧ Hid (i = m ∨ klt (kat elKey L (i - 1)) kx.data.toList) ∧ Hid (j = b ∨ kle kx.data.toList (kat elKey L j)))
  case atStart => exact ⟨m, b, rfl, rfl, by omega, by omega, by omega, by omega, HM, Fr.refl _ _, .inl rfl, .inl rfl⟩
  case round =>
    clear HM
    obtain ⟨i, j, rfl, rfl, hmi, hij, hjb, hk, hM, hfr, hi, hj⟩ := hrel
    by_cases hlt : i < j
    · have hlt' : (i : Int) < (j : Int) := by omega
      obtain ⟨q, hq⟩ : ∃ q, (i + j) / 2 = q := ⟨_, rfl⟩
      obtain ⟨⟨ky, ⟨Ty, uy⟩, ty⟩, hy⟩ : ∃ y, L[q]? = some y := ⟨_, List.getElem?_eq_getElem (by rw [HN.out]; omega)⟩
      obtain ⟨x0, x1⟩ := hM.out.at HX.out
      obtain ⟨y0, y1⟩ := hM.out.at hy
      simp only [iv] at x0 x1 y0 y1
      have hql : (q : Int) < (N : Int) := by omega
      have hq0 : (0 : Int) ≤ (q : Int) := by omega
      have hal : (a : Int) < (N : Int) := by omega
      have hvl := hM.out.lt
      have eq : ((i : Int) + (j : Int)) / 2 = (q : Int) := by omega
      have HQ : Hid _ := hq
      clear hq
      have hcm := memCmp_ok hC ky kx Ty Tx uy ux
      obtain ⟨cc, hcc⟩ : ∃ cc, Lib.compareBytes ky.data.toList kx.data.toList = cc := ⟨_, rfl⟩
      simp only [hcc] at hcm
      have HCC : Hid _ := hcc
      clear hcc
      go_wp2_with fail
      go_region_held3 (fun w' => w'.cell? ⟨g, q * 2, none⟩ = some (.string ky) ∧ w'.cell? ⟨g, q * 2 + 1, none⟩ = some (.iface Ty uy) ∧ w'.cell? ⟨g, a * 2, none⟩ = some (.string kx) ∧ w'.cell? ⟨g, a * 2 + 1, none⟩ = some (.iface Tx ux)) (first | exact e4 | go_keep)
        (first | (go_at_call 187; refine (hcm _).mono ?_; rintro e w1 ⟨rfl, k1⟩; have e4 : w1.cell? ⟨g, q * 2, none⟩ = some (.string ky) ∧ w1.cell? ⟨g, q * 2 + 1, none⟩ = some (.iface Ty uy) ∧ w1.cell? ⟨g, a * 2, none⟩ = some (.string kx) ∧ w1.cell? ⟨g, a * 2 + 1, none⟩ = some (.iface Tx ux) := ⟨(k1.cell (p := ⟨g, q * 2, none⟩) (by simpa using hvl)).trans (by simpa using y0), (k1.cell (p := ⟨g, q * 2 + 1, none⟩) (by simpa using hvl)).trans (by simpa using y1), (k1.cell (p := ⟨g, a * 2, none⟩) (by simpa using hvl)).trans (by simpa using x0), (k1.cell (p := ⟨g, a * 2 + 1, none⟩) (by simpa using hvl)).trans (by simpa using x1)⟩))
      have hM1 : Mem w1 g C L := hM.out.same ((k1.block g (by simpa using hvl)).trans rfl)
      have fr1 : Fr (· = g) w w1 := (hfr.drewN _).trans (Fr.of_below (D := (· = g)) k1) (fun _ _ e => e)
      have hky : kat elKey L q = ky.data.toList := kat_some hy
      by_cases hc : cc < 0
      · go_wp2_with fail
        go_roundg (j - (q + 1))
        case measure => have := HQ.out; omega
        case rel =>
          refine ⟨q + 1, j, by go_num, rfl, by have := HQ.out; omega, by have := HQ.out; omega, hjb, by omega, hM1, fr1, .inr ?_, hj⟩
          rw [Nat.add_sub_cancel, hky, klt, HCC.out]
          exact hc
      · go_wp2_with fail
        go_roundg (q - i)
        case measure => have := HQ.out; omega
        case rel =>
          refine ⟨i, q, rfl, rfl, hmi, by have := HQ.out; omega, by have := HQ.out; omega, by omega, hM1, fr1, hi, .inr ?_⟩
          rw [hky, kle, HCC.out]
          omega
    · have hlt' : ¬ (i : Int) < (j : Int) := by omega
      obtain rfl : i = j := by omega
      obtain ⟨v, hv⟩ : ∃ v, i - m = v := ⟨_, rfl⟩
      have hL := HL.out
      have hkB : ∀ q, m ≤ q → q < b → kat elKey L q = kat elKey B (q - m) := fun q h1 h2 => by
        rw [← hL]
        have := kat_mid (X := X ++ [(kx, (Tx, ux), tx)]) (A := B) (Y := Y) (i := q) (by simp; omega) (by simp; omega)
        rw [List.append_assoc] at this
        rw [this]
        congr 1
        simp; omega
      have hst : StS elKey ([(kx, (Tx, ux), tx)] ++ B) (B.take v ++ ((kx, (Tx, ux), tx) :: B.drop v)) := by
        refine sts_left hB (by omega) ?_ ?_
        · rcases hi.out with e | e
          · exact .inl (by omega)
          · by_cases e0 : i = m
            · exact .inl (by omega)
            · right
              rw [hkB _ (by omega) (by omega)] at e
              rw [show v - 1 = i - 1 - m by omega]
              exact e
        · rcases hj.out with e | e
          · exact .inl (by omega)
          · by_cases e0 : i = b
            · exact .inl (by omega)
            · right
              rw [hkB _ (by omega) (by omega), hv] at e
              exact e
      obtain ⟨B1, hB1⟩ : ∃ B1, B.take v = B1 := ⟨_, rfl⟩
      obtain ⟨B2, hB2⟩ : ∃ B2, B.drop v = B2 := ⟨_, rfl⟩
      have hB12 : B = B1 ++ B2 := by rw [← hB1, ← hB2, List.take_append_drop]
      have hl1 : B1.length = v := by rw [← hB1]; simp; omega
      rw [hB1, hB2] at hst
      have hl12 : B.length = B1.length + B2.length := by rw [hB12, List.length_append]
      have hM2 : Mem wr g C (X ++ ([] ++ ((kx, (Tx, ux), tx) :: (B1 ++ (B2 ++ Y))))) := by
        have := hM.out
        rw [← hL, hB12] at this
        simpa using this
      have HM2 : Aside _ := hM2
      have HST : Hid _ := hst
      clear hM2 hst hB1 hB2 hB12 hkB hL hi hj hM HX HL hB
      go_wp2_with fail
      go_loopg [13] v (fun k v1 wr => ∃ (P Q : List El) (c : Nat), v1 = .int .i64 c ∧ Hid (c = a + P.length) ∧ P.length + Q.length = v ∧ Q.length ≤ k ∧ Hid (P ++ Q = B1) ∧ Aside (Mem wr g C (X ++ (P ++ ((kx, (Tx, ux), tx) :: (Q ++ (B2 ++ Y)))))) ∧ Fr (· = g) w wr)
      case atStart => exact ⟨[], B1, a, rfl, rfl, by simpa using hl1, by omega, rfl, HM2, hfr⟩
      case round =>
        clear HM2
        obtain ⟨P, Q, c, rfl, hc, hpq, hk2, hPQ, hM, hfr⟩ := hrel
        cases Q with
        | nil =>
          have hcl : ¬ (c : Int) < (i : Int) - 1 := by have := hc.out; simp at hpq; omega
          go_wp2_with fail
          refine bodyPost_ret (v := .tuple #[]) (by simp [results, Tryz.results277, go_sem]) rfl ⟨rfl, ⟨_, HST.out, ?_⟩, hfr⟩
          have e1 : P = B1 := by simpa using hPQ.out
          subst e1
          simpa using hM.out
        | cons y Q =>
          obtain ⟨ky, ⟨Ty, uy⟩, ty⟩ := y
          simp only [List.length_cons] at hpq hk2
          have hcl : (c : Int) < (i : Int) - 1 := by have := hc.out; omega
          obtain ⟨d, hd⟩ : ∃ d, c + 1 = d := ⟨_, rfl⟩
          have ed : (c : Int) + 1 = (d : Int) := by omega
          have hxp : (X ++ P).length = c := by have := hc.out; simp; omega
          have hM' := hM.out
          rw [← List.append_assoc] at hM'
          simp only [List.cons_append] at hM'
          have hx : ((X ++ P) ++ ((kx, (Tx, ux), tx) :: ((ky, (Ty, uy), ty) :: (Q ++ (B2 ++ Y)))))[c]? = some (kx, (Tx, ux), tx) := by rw [← hxp]; simp
          have hy : ((X ++ P) ++ ((kx, (Tx, ux), tx) :: ((ky, (Ty, uy), ty) :: (Q ++ (B2 ++ Y)))))[d]? = some (ky, (Ty, uy), ty) := by rw [← hd, ← hxp, List.getElem?_append_right (by omega)]; simp
          obtain ⟨x0, x1⟩ := hM'.at hx
          obtain ⟨y0, y1⟩ := hM'.at hy
          simp only [iv] at x0 x1 y0 y1
          have hcN : (c : Int) < (N : Int) := by omega
          have hdN : (d : Int) < (N : Int) := by omega
          have hc0 : (0 : Int) ≤ (c : Int) := by omega
          have hd0 : (0 : Int) ≤ (d : Int) := by omega
          have fz := hM'.free
          have mixed : Tryz.prog.follows Departure.mixedOrders = true := by kernel_rfl
          have HD : Hid _ := hd
          clear hd
          go_wp2_with fail
          go_big_region_o
          go_wp2_with fail
          go_roundg Q.length
          case measure => omega
          case rel =>
            have h2 := hM'.swap hx hy
            rw [← HD.out, ← hxp, swp_adj, hxp, HD.out] at h2
            refine ⟨P ++ [(ky, (Ty, uy), ty)], Q, d, rfl, ?_, by simp; omega, by omega, ?_, ?_, ?_⟩
            · show _ = _
              have := hc.out; have := HD.out; simp; omega
            · show _ = _
              rw [← hPQ.out]; simp
            · show Mem _ _ _ _
              simpa using h2
            · exact fr_swap hfr
end Go.Proofs.Tryz

namespace Go.Proofs.Tryz
open Go.RowKit
set_option maxRecDepth 10000

set_option maxHeartbeats 4000000 in
theorem sym_right (hC : ComparesStr) {w : World} {g C cap a m b : Nat} {X A Y : List El} {y : El} (h : Mem w g C (X ++ (A ++ ([y] ++ Y)))) (hl : (X ++ (A ++ ([y] ++ Y))).length ≤ 10000000) (ha : X.length = a) (hm : a + A.length = m) (hb : m + 1 = b) (hA1 : A.length ≠ 1) (hA : Srt elKey A) :
    Calls Tryz.prog 277 #[.slice (some ⟨g, 0, none⟩) (X ++ (A ++ ([y] ++ Y))).length cap, .int .i64 a, .int .i64 m, .int .i64 b, cmpF] w fun e w' => e = .returned (.tuple #[]) ∧ (∃ R, StS elKey (A ++ [y]) R ∧ Mem w' g C (X ++ (R ++ Y))) ∧ Fr (· = g) w w' := by
  obtain ⟨L, hL⟩ : ∃ L, X ++ (A ++ ([y] ++ Y)) = L := ⟨_, rfl⟩
  obtain ⟨N, hN⟩ : ∃ N, L.length = N := ⟨_, rfl⟩
  have hN' : a + (A.length + (1 + Y.length)) = N := by rw [← hN, ← hL]; simp only [List.length_append, ha, List.length_singleton]
  rw [hL] at h hl ⊢
  rw [hN] at hl ⊢
  have hxm : L[m]? = some y := by
    rw [← hL, ← hm, ← ha, List.getElem?_append_right (by omega), List.getElem?_append_right (by omega), Nat.add_sub_cancel_left]
    simp
  have HL : Hid _ := hL
  have HN : Hid _ := hN
  have HM : Aside _ := h
  have HX : Hid _ := hxm
  obtain ⟨ky, ⟨Ty, uy⟩, ty⟩ := y
  clear hL hN h hxm
  have em : ((m : Int) - (a : Int) == 1) = false := by simp; omega
  have eb : (b : Int) - (m : Int) = 1 := by omega
  unfold cmpF
  go_enter Tryz.func277, Tryz.ntmps277
  go_wp2_with fail
  go_loopg [14, 15] (m - a) (fun k v1 v2 wr => ∃ (i j : Nat), v1 = .int .i64 i ∧ v2 = .int .i64 j ∧ a ≤ i ∧ i ≤ j ∧ j ≤ m ∧ j - i ≤ k ∧ Aside (Mem wr g C L) ∧ Fr (· = g) w wr ∧ Hid (i = a ∨ kle (kat elKey L (i - 1)) ky.data.toList) ∧ Hid (j = m ∨ klt ky.data.toList (kat elKey L j)))
  case atStart => exact ⟨a, m, rfl, rfl, by omega, by omega, by omega, by omega, HM, Fr.refl _ _, .inl rfl, .inl rfl⟩
  case round =>
    clear HM
    obtain ⟨i, j, rfl, rfl, hmi, hij, hjb, hk, hM, hfr, hi, hj⟩ := hrel
    by_cases hlt : i < j
    · have hlt' : (i : Int) < (j : Int) := by omega
      obtain ⟨q, hq⟩ : ∃ q, (i + j) / 2 = q := ⟨_, rfl⟩
      obtain ⟨⟨kx, ⟨Tx, ux⟩, tx⟩, hx⟩ : ∃ x, L[q]? = some x := ⟨_, List.getElem?_eq_getElem (by rw [HN.out]; omega)⟩
      obtain ⟨y0, y1⟩ := hM.out.at HX.out
      obtain ⟨x0, x1⟩ := hM.out.at hx
      simp only [iv] at x0 x1 y0 y1
      have hql : (q : Int) < (N : Int) := by omega
      have hq0 : (0 : Int) ≤ (q : Int) := by omega
      have hml : (m : Int) < (N : Int) := by omega
      have hvl := hM.out.lt
      have eq : ((i : Int) + (j : Int)) / 2 = (q : Int) := by omega
      have HQ : Hid _ := hq
      clear hq
      have hcm := memCmp_ok hC ky kx Ty Tx uy ux
      obtain ⟨cc, hcc⟩ : ∃ cc, Lib.compareBytes ky.data.toList kx.data.toList = cc := ⟨_, rfl⟩
      simp only [hcc] at hcm
      have HCC : Hid _ := hcc
      clear hcc
      have hM1 : ∀ n w1, Below (wr.drewN n).heap.size (wr.drewN n) w1 → Mem w1 g C L := fun n w1 k1 => hM.out.same ((k1.block g (by simpa using hvl)).trans rfl)
      have fr1 : ∀ n w1, Below (wr.drewN n).heap.size (wr.drewN n) w1 → Fr (· = g) w w1 := fun n w1 k1 => (hfr.drewN n).trans (Fr.of_below (D := (· = g)) k1) (fun _ _ e => e)
      have hkx : kat elKey L q = kx.data.toList := kat_some hx
      by_cases hc : cc < 0
      · have hc' : decide (cc < 0) = true := by simpa using hc
        go_wp2_with fail
        go_region_held3 (fun w' => w'.cell? ⟨g, q * 2, none⟩ = some (.string kx) ∧ w'.cell? ⟨g, q * 2 + 1, none⟩ = some (.iface Tx ux) ∧ w'.cell? ⟨g, m * 2, none⟩ = some (.string ky) ∧ w'.cell? ⟨g, m * 2 + 1, none⟩ = some (.iface Ty uy)) (first | exact e4 | go_keep)
          (first | (go_at_call 187; refine (hcm _).mono ?_; rintro e w1 ⟨rfl, k1⟩; have e4 : w1.cell? ⟨g, q * 2, none⟩ = some (.string kx) ∧ w1.cell? ⟨g, q * 2 + 1, none⟩ = some (.iface Tx ux) ∧ w1.cell? ⟨g, m * 2, none⟩ = some (.string ky) ∧ w1.cell? ⟨g, m * 2 + 1, none⟩ = some (.iface Ty uy) := ⟨(k1.cell (p := ⟨g, q * 2, none⟩) (by simpa using hvl)).trans (by simpa using x0), (k1.cell (p := ⟨g, q * 2 + 1, none⟩) (by simpa using hvl)).trans (by simpa using x1), (k1.cell (p := ⟨g, m * 2, none⟩) (by simpa using hvl)).trans (by simpa using y0), (k1.cell (p := ⟨g, m * 2 + 1, none⟩) (by simpa using hvl)).trans (by simpa using y1)⟩))
        have hM2 := hM1 _ _ k1
        have fr2 := fr1 _ _ k1
        go_wp2_with fail
        go_roundg (q - i)
        case measure => have := HQ.out; omega
        case rel =>
          refine ⟨i, q, rfl, rfl, hmi, by have := HQ.out; omega, by have := HQ.out; omega, by omega, hM2, fr2, hi, .inr ?_⟩
          rw [hkx, klt, HCC.out]
          exact hc
      · have hc' : decide (cc < 0) = false := by simpa using hc
        go_wp2_with fail
        go_region_held3 (fun w' => w'.cell? ⟨g, q * 2, none⟩ = some (.string kx) ∧ w'.cell? ⟨g, q * 2 + 1, none⟩ = some (.iface Tx ux) ∧ w'.cell? ⟨g, m * 2, none⟩ = some (.string ky) ∧ w'.cell? ⟨g, m * 2 + 1, none⟩ = some (.iface Ty uy)) (first | exact e4 | go_keep)
          (first | (go_at_call 187; refine (hcm _).mono ?_; rintro e w1 ⟨rfl, k1⟩; have e4 : w1.cell? ⟨g, q * 2, none⟩ = some (.string kx) ∧ w1.cell? ⟨g, q * 2 + 1, none⟩ = some (.iface Tx ux) ∧ w1.cell? ⟨g, m * 2, none⟩ = some (.string ky) ∧ w1.cell? ⟨g, m * 2 + 1, none⟩ = some (.iface Ty uy) := ⟨(k1.cell (p := ⟨g, q * 2, none⟩) (by simpa using hvl)).trans (by simpa using x0), (k1.cell (p := ⟨g, q * 2 + 1, none⟩) (by simpa using hvl)).trans (by simpa using x1), (k1.cell (p := ⟨g, m * 2, none⟩) (by simpa using hvl)).trans (by simpa using y0), (k1.cell (p := ⟨g, m * 2 + 1, none⟩) (by simpa using hvl)).trans (by simpa using y1)⟩))
        have hM2 := hM1 _ _ k1
        have fr2 := fr1 _ _ k1
        go_wp2_with fail
        go_roundg (j - (q + 1))
        case measure => have := HQ.out; omega
        case rel =>
          refine ⟨q + 1, j, by go_num, rfl, by have := HQ.out; omega, by have := HQ.out; omega, hjb, by omega, hM2, fr2, .inr ?_, hj⟩
          rw [Nat.add_sub_cancel, hkx, kle, HCC.out]
          omega
    · have hlt' : ¬ (i : Int) < (j : Int) := by omega
      obtain rfl : i = j := by omega
      obtain ⟨v, hv⟩ : ∃ v, i - a = v := ⟨_, rfl⟩
      have hL := HL.out
      have hkA : ∀ q, a ≤ q → q < m → kat elKey L q = kat elKey A (q - a) := fun q h1 h2 => by
        rw [← hL, kat_mid (by omega) (by omega), ha]
      have hst : StS elKey (A ++ [(ky, (Ty, uy), ty)]) (A.take v ++ ((ky, (Ty, uy), ty) :: A.drop v)) := by
        refine sts_right hA (by omega) ?_ ?_
        · rcases hi.out with e | e
          · exact .inl (by omega)
          · by_cases e0 : i = a
            · exact .inl (by omega)
            · right
              rw [hkA _ (by omega) (by omega)] at e
              rw [show v - 1 = i - 1 - a by omega]
              exact e
        · rcases hj.out with e | e
          · exact .inl (by omega)
          · by_cases e0 : i = m
            · exact .inl (by omega)
            · right
              rw [hkA _ (by omega) (by omega), hv] at e
              exact e
      obtain ⟨A1, hA1'⟩ : ∃ A1, A.take v = A1 := ⟨_, rfl⟩
      obtain ⟨A2, hA2'⟩ : ∃ A2, A.drop v = A2 := ⟨_, rfl⟩
      have hA12 : A = A1 ++ A2 := by rw [← hA1', ← hA2', List.take_append_drop]
      have hl1 : A1.length = v := by rw [← hA1']; simp; omega
      rw [hA1', hA2'] at hst
      have hl12 : A.length = A1.length + A2.length := by rw [hA12, List.length_append]
      have hM2 : Mem wr g C (X ++ (A1 ++ (A2 ++ ((ky, (Ty, uy), ty) :: ([] ++ Y))))) := by
        have := hM.out
        rw [← hL, hA12] at this
        simpa using this
      have HM2 : Aside _ := hM2
      have HST : Hid _ := hst
      clear hM2 hst hA1' hA2' hA12 hkA hL hi hj hM HX HL hA
      go_wp2_with fail
      go_loopg [17] (m - i) (fun k v1 wr => ∃ (P Q : List El) (c : Nat), v1 = .int .i64 c ∧ Hid (c = i + P.length) ∧ P.length + Q.length = m - i ∧ P.length ≤ k ∧ Hid (P ++ Q = A2) ∧ Aside (Mem wr g C (X ++ (A1 ++ (P ++ ((ky, (Ty, uy), ty) :: (Q ++ Y)))))) ∧ Fr (· = g) w wr)
      case atStart => exact ⟨A2, [], m, rfl, show _ = _ by omega, by simp; omega, by omega, show _ = _ by simp, HM2, hfr⟩
      case round =>
        clear HM2
        obtain ⟨P, Q, c, rfl, hc, hpq, hk2, hPQ, hM, hfr⟩ := hrel
        rcases List.eq_nil_or_concat P with e | ⟨P', x, e⟩
        · subst e
          have hcl : ¬ (i : Int) < (c : Int) := by have := hc.out; simp at this; omega
          go_wp2_with fail
          refine bodyPost_ret (v := .tuple #[]) (by simp [results, Tryz.results277, go_sem]) rfl ⟨rfl, ⟨_, HST.out, ?_⟩, hfr⟩
          have e1 : Q = A2 := by simpa using hPQ.out
          subst e1
          simpa using hM.out
        · subst e
          obtain ⟨kx, ⟨Tx, ux⟩, tx⟩ := x
          simp only [List.length_append, List.length_singleton, List.concat_eq_append] at hpq hk2 hc
          have hcl : (i : Int) < (c : Int) := by have := hc.out; omega
          obtain ⟨d, hd⟩ : ∃ d, c - 1 = d := ⟨_, rfl⟩
          have ed : (c : Int) - 1 = (d : Int) := by omega
          have hxp : (X ++ (A1 ++ P')).length = d := by have := hc.out; simp; omega
          have hM' := hM.out
          simp only [List.concat_eq_append, List.append_assoc, List.singleton_append] at hM'
          rw [← List.append_assoc A1, ← List.append_assoc X] at hM'
          have hx : ((X ++ (A1 ++ P')) ++ ((kx, (Tx, ux), tx) :: ((ky, (Ty, uy), ty) :: (Q ++ Y))))[d]? = some (kx, (Tx, ux), tx) := by rw [← hxp]; simp
          have hy : ((X ++ (A1 ++ P')) ++ ((kx, (Tx, ux), tx) :: ((ky, (Ty, uy), ty) :: (Q ++ Y))))[c]? = some (ky, (Ty, uy), ty) := by rw [show c = d + 1 by omega, ← hxp, List.getElem?_append_right (by omega)]; simp
          obtain ⟨x0, x1⟩ := hM'.at hx
          obtain ⟨y0, y1⟩ := hM'.at hy
          simp only [iv] at x0 x1 y0 y1
          have hcN : (c : Int) < (N : Int) := by have := hc.out; omega
          have hdN : (d : Int) < (N : Int) := by omega
          have hc0 : (0 : Int) ≤ (c : Int) := by omega
          have hd0 : (0 : Int) ≤ (d : Int) := by omega
          have fz := hM'.free
          have mixed : Tryz.prog.follows Departure.mixedOrders = true := by kernel_rfl
          have HD : Hid (c = d + 1) := show _ = _ by omega
          clear hd
          go_wp2_with fail
          go_big_region_o
          go_wp2_with fail
          go_roundg P'.length
          case measure => omega
          case rel =>
            have h2 := hM'.swap hy hx
            rw [HD.out, ← hxp, swp_adj', hxp, ← HD.out] at h2
            refine ⟨P', (kx, (Tx, ux), tx) :: Q, d, rfl, ?_, by simp; omega, by omega, ?_, ?_, ?_⟩
            · show _ = _
              have := hc.out; have := HD.out; omega
            · show _ = _
              rw [← hPQ.out]; simp
            · show Mem _ _ _ _
              simpa using h2
            · exact fr_swap hfr
end Go.Proofs.Tryz

