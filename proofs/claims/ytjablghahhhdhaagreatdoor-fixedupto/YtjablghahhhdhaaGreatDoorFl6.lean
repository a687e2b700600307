import Derived.Test.YtjablghahhhdhaaGreatDoorFl5
set_option linter.all false
namespace Go.Proofs.Tryz
open Go.RowKit
set_option maxRecDepth 10000

/- Blanks around a text. -/
theorem blanks_spec {s : ByteArray} : ∀ (k a : Nat), s.size < a + k → a ≤ s.size → (∀ i, a ≤ i → i < blanksV s k a → blankB (byteAt s i) = true) ∧ blankB (byteAt s (blanksV s k a)) = false
  | 0, a, h, h' => by omega
  | k + 1, a, h, h' => by
    rw [blanksV]
    split
    · rename_i hb
      have hlt := blank_lt hb
      obtain ⟨h1, h2⟩ := blanks_spec (s := s) k (a + 1) (by omega) (by omega)
      refine ⟨fun i hi hi2 => ?_, h2⟩
      by_cases e : i = a
      · rw [e]; exact hb
      · exact h1 i (by omega) hi2
    · rename_i hb
      exact ⟨fun i hi hi2 => by omega, by simpa using hb⟩
theorem blanks_char {s : ByteArray} {b : Nat} (hb : blankB (byteAt s b) = false) : ∀ (n k a : Nat), a + n = b → n < k → (∀ i, a ≤ i → i < b → blankB (byteAt s i) = true) → blanksV s k a = b
  | 0, 0, a, _, hk, _ => by omega
  | 0, k + 1, a, e, hk, h => by
    rw [Nat.add_zero] at e
    rw [blanksV, e, hb]
    simp
  | n + 1, 0, a, e, hk, h => by omega
  | n + 1, k + 1, a, e, hk, h => by
    rw [blanksV, if_pos (h a (by omega) (by omega)), blanks_char hb n k (a + 1) (by omega) (by omega) (fun i hi hi2 => h i (by omega) hi2)]
theorem blk_spec {s : ByteArray} {a : Nat} (h : a ≤ s.size) : (∀ i, a ≤ i → i < blk s a → blankB (byteAt s i) = true) ∧ blankB (byteAt s (blk s a)) = false := blanks_spec _ _ (by omega) h
theorem blk_char {s : ByteArray} {a b : Nat} (hab : a ≤ b) (hs : b ≤ s.size) (hb : blankB (byteAt s b) = false) (h : ∀ i, a ≤ i → i < b → blankB (byteAt s i) = true) : blk s a = b :=
  blanks_char hb (b - a) _ a (by omega) (by omega) h

/-- The text t is s with d bytes ahead of it and blanks behind it. -/
structure Around (s t : ByteArray) (d : Nat) : Prop where
  byte : ∀ i, i < s.size → byteAt t (i + d) = byteAt s i
  size : s.size + d < t.size
  post : ∀ i, s.size + d ≤ i → i < t.size → blankB (byteAt t i) = true
  part : ∀ a n, a + n ≤ s.size → (t.data.toList.drop (a + d)).take n = (s.data.toList.drop a).take n
variable {s t : ByteArray} {d : Nat}
theorem Around.pos (h : Around s t d) {i : Nat} (hb : byteAt s i ≠ 0) : byteAt t (i + d) = byteAt s i := h.byte i (byte_pos hb)
theorem Around.blk (h : Around s t d) {a : Nat} (ha : a ≤ s.size) (hb : blk s a < s.size) : blk t (a + d) = blk s a + d := by
  obtain ⟨h1, h2⟩ := blk_spec ha
  have h3 := blk_le ha
  have := h.size
  refine blk_char (by omega) (by omega) (by rw [h.byte _ hb]; exact h2) (fun i hi hi2 => ?_)
  have := h1 (i - d) (by omega) (by omega)
  rw [← h.byte (i - d) (by omega), show i - d + d = i by omega] at this
  exact this
theorem Around.blkEnd (h : Around s t d) {a : Nat} (ha : a ≤ s.size) (hb : Go.Proofs.Tryz.blk s a = s.size) : Go.Proofs.Tryz.blk t (a + d) = t.size := by
  obtain ⟨h1, h2⟩ := blk_spec ha
  have := h.size
  refine blk_char (by omega) (by omega) (by rw [byteAt_end (by omega)]; rfl) (fun i hi hi2 => ?_)
  by_cases hlt : i < s.size + d
  · have := h1 (i - d) (by omega) (by omega)
    rw [← h.byte (i - d) (by omega), show i - d + d = i by omega] at this
    exact this
  · exact h.post i (by omega) hi2
theorem Around.blkAt (h : Around s t d) {a : Nat} (ha : a ≤ s.size) (hb : byteAt s (Go.Proofs.Tryz.blk s a) ≠ 0) : Go.Proofs.Tryz.blk t (a + d) = Go.Proofs.Tryz.blk s a + d ∧ byteAt t (Go.Proofs.Tryz.blk s a + d) = byteAt s (Go.Proofs.Tryz.blk s a) :=
  ⟨h.blk ha (byte_pos hb), h.pos hb⟩
theorem Around.word (h : Around s t d) {wd : ByteArray} (hz : ∀ i, i < wd.size → byteAt wd i ≠ 0) : ∀ (k i a : Nat), i + k ≤ wd.size → (wordV s wd k i a).2 = true → wordV t wd k i (a + d) = ((wordV s wd k i a).1 + d, true)
  | 0, _, _, _, _ => rfl
  | k + 1, i, a, hi, hok => by
    rw [wordV] at hok ⊢
    split at hok
    · rename_i e
      rw [wordV, if_pos e]
      rw [if_pos (by rw [h.pos (by rw [e]; exact hz i (by omega)), e]), show a + d + 1 = a + 1 + d by omega]
      exact h.word hz k (i + 1) (a + 1) (by omega) hok
    · cases hok
theorem Around.tail (h : Around s t d) : ∀ (k a : Nat) (lo hi : Int), a ≤ s.size → (tailL s k a lo hi).2 = true → tailL t k (a + d) lo hi = ((tailL s k a lo hi).1 + d, true)
  | 0, _, _, _, _, _ => rfl
  | k + 1, a, lo, hi, ha, hok => by
    have hz := h.size
    rw [tailL] at hok ⊢
    split at hok
    · cases hok
    · rename_i h0
      rw [tailL, if_neg h0]
      split at hok
      · cases hok
      · rename_i h1
        rw [if_neg h1]
        split at hok
        · cases hok
        · rename_i h2
          rw [if_neg h2, if_neg (by omega), h.byte a (by omega), if_neg h1, if_neg h2, show a + d + 1 = a + 1 + d by omega]
          exact h.tail k (a + 1) 128 191 (by omega) hok
theorem Around.half (h : Around s t d) {start : Nat} {first : Int} : ∀ (k i : Nat) (sec : Int), (halfL s start first k i sec).2.2 = true → halfL t (start + d) first k i sec = ((halfL s start first k i sec).1, (halfL s start first k i sec).2.1 + d, true)
  | 0, _, _, _ => by
    simp only [halfL]
    congr 2
    omega
  | k + 1, i, sec, hok => by
    have hz := h.size
    have hp : byteAt s (start + 6 + i) ≠ 0 → byteAt t (start + d + 6 + i) = byteAt s (start + 6 + i) ∧ ¬ start + d + 6 + i = t.size := fun hb => by
      have h1 := h.pos hb
      have := byte_pos hb
      rw [show start + 6 + i + d = start + d + 6 + i by omega] at h1
      exact ⟨h1, by omega⟩
    rw [halfL] at hok ⊢
    split at hok
    · cases hok
    · rename_i hz0
      rw [halfL, if_neg hz0]
      split at hok
      · rename_i h0
        rw [if_pos h0, if_pos h0]
        split at hok
        · rename_i h1
          obtain ⟨e1, e2⟩ := hp (by rw [h1]; omega)
          rw [if_pos h1, if_neg e2, e1, if_pos h1]
          exact h.half k _ _ hok
        · cases hok
      · rename_i h0
        rw [if_neg h0, if_neg h0]
        split at hok
        · rename_i h1
          rw [if_pos h1, if_pos h1]
          split at hok
          · rename_i h2
            obtain ⟨e1, e2⟩ := hp (by rw [h2]; omega)
            rw [if_pos h2, if_neg e2, e1, if_pos h2]
            exact h.half k _ _ hok
          · cases hok
        · rename_i h1
          rw [if_neg h1, if_neg h1]
          cases hd : hexV (byteAt s (start + 6 + i)) with
          | none => rw [hd] at hok; cases hok
          | some x =>
            obtain ⟨e1, e2⟩ := hp (fun e => by rw [e] at hd; cases hd)
            rw [hd] at hok
            rw [if_neg e2, e1, hd]
            simp only at hok ⊢
            split at hok
            · rename_i h2
              rw [if_pos h2, if_pos h2]
              exact h.half k _ _ hok
            · cases hok
theorem Around.uni (h : Around s t d) {start : Nat} : ∀ (k i : Nat) (ch : Int), (uniL s start k i ch).2.2 = true → uniL t (start + d) k i ch = ((uniL s start k i ch).1, (uniL s start k i ch).2.1 + d, true)
  | 0, _, ch, hok => by
    rw [uniL] at hok ⊢
    rw [uniL]
    split at hok
    · rename_i h0
      rw [if_pos h0, if_pos h0]
      simp only
      congr 2
      omega
    · rename_i h0
      rw [if_neg h0, if_neg h0]
      split at hok
      · rename_i h1
        rw [if_pos h1, if_pos h1]
        simp only
        congr 2
        omega
      · rename_i h1
        rw [if_neg h1, if_neg h1]
        exact h.half _ _ _ hok
  | k + 1, i, ch, hok => by
    have hz := h.size
    have hp : byteAt s (start + 2 + i) ≠ 0 → byteAt t (start + d + 2 + i) = byteAt s (start + 2 + i) ∧ ¬ start + d + 2 + i = t.size := fun hb => by
      have h1 := h.pos hb
      have := byte_pos hb
      rw [show start + 2 + i + d = start + d + 2 + i by omega] at h1
      exact ⟨h1, by omega⟩
    rw [uniL] at hok ⊢
    split at hok
    · cases hok
    · rename_i hz0
      rw [uniL, if_neg hz0]
      cases hd : hexV (byteAt s (start + 2 + i)) with
      | none => rw [hd] at hok; cases hok
      | some x =>
        obtain ⟨e1, e2⟩ := hp (fun e => by rw [e] at hd; cases hd)
        rw [hd] at hok
        rw [if_neg e2, e1, hd]
        simp only at hok ⊢
        split at hok
        · rename_i h1
          rw [if_pos h1, if_pos h1]
          split at hok
          · cases hok
          · rename_i h2
            rw [if_neg h2, if_neg h2]
            exact h.uni k _ _ hok
        · rename_i h1
          rw [if_neg h1, if_neg h1]
          exact h.uni k _ _ hok
theorem Around.escC (h : Around s t d) {a : Nat} {c : Int} (hok : (Go.Proofs.Tryz.escC s a c).2.2 = true) : Go.Proofs.Tryz.escC t (a + d) c = ((Go.Proofs.Tryz.escC s a c).1, (Go.Proofs.Tryz.escC s a c).2.1 + d, true) := by
  unfold Go.Proofs.Tryz.escC at hok ⊢
  by_cases h34 : c = 34
  · subst h34
    simp
    omega
  by_cases h92 : c = 92
  · subst h92
    simp
    omega
  by_cases h47 : c = 47
  · subst h47
    simp
    omega
  by_cases h98 : c = 98
  · subst h98
    simp
    omega
  by_cases h102 : c = 102
  · subst h102
    simp
    omega
  by_cases h110 : c = 110
  · subst h110
    simp
    omega
  by_cases h114 : c = 114
  · subst h114
    simp
    omega
  by_cases h116 : c = 116
  · subst h116
    simp
    omega
  by_cases h117 : c = 117
  · simp only [if_neg h34, if_neg h92, if_neg h47, if_neg h98, if_neg h102, if_neg h110, if_neg h114, if_neg h116, if_pos h117] at hok ⊢
    exact h.uni _ _ _ hok
  · simp only [if_neg h34, if_neg h92, if_neg h47, if_neg h98, if_neg h102, if_neg h110, if_neg h114, if_neg h116, if_neg h117] at hok
    cases hok
theorem Around.esc (h : Around s t d) {a : Nat} (hok : (escV s a).2.2 = true) : escV t (a + d) = ((escV s a).1, (escV s a).2.1 + d, true) := by
  have hz := h.size
  unfold escV at hok ⊢
  split at hok
  · cases hok
  · rename_i h0
    rw [if_neg h0]
    have hb : byteAt s (a + 1) ≠ 0 := fun e => by rw [e] at hok; simp [Go.Proofs.Tryz.escC] at hok
    have h1 := h.pos hb
    have := byte_pos hb
    rw [show a + 1 + d = a + d + 1 by omega] at h1
    rw [if_neg (by omega), h1]
    exact h.escC hok
theorem Around.str (h : Around s t d) : ∀ (k k' a : Nat) (cs : Bys), k ≤ k' → a ≤ s.size → (strL s k a cs).2.2 = true → strL t k' (a + d) cs = ((strL s k a cs).1, (strL s k a cs).2.1 + d, true)
  | 0, _, _, _, _, _, hok => by simp [strL] at hok
  | k + 1, 0, _, _, hk, _, _ => by omega
  | k + 1, k' + 1, a, cs, hk, ha, hok => by
    have hz := h.size
    rw [strL] at hok ⊢
    split at hok
    · cases hok
    · rename_i h0
      have hb := h.byte a (by omega)
      rw [strL, if_neg h0, if_neg (by omega), hb]
      split at hok
      · rename_i h34
        rw [if_pos h34, if_pos h34]
        simp only
        congr 2
        omega
      · rename_i h34
        rw [if_neg h34, if_neg h34]
        split at hok
        · cases hok
        · rename_i h32
          rw [if_neg h32, if_neg h32]
          split at hok
          · rename_i h92
            rw [if_pos h92, if_pos h92]
            split at hok
            · rename_i he
              rw [if_pos he, h.esc he]
              obtain ⟨_, _, q, hq, hq1, hq2⟩ := esc_good (s := s) (a := a) (by omega) he
              simp only [if_true]
              rw [hq, Int.toNat_natCast] at hok ⊢
              rw [show ((q : Int) + d).toNat = q + d by omega]
              exact h.str k k' q _ (by omega) hq2 hok
            · cases hok
          · rename_i h92
            rw [if_neg h92, if_neg h92]
            split at hok
            · cases hok
            · rename_i hf
              rw [if_neg hf, if_neg hf]
              have ht := tail_place (s := s) (followV (byteAt s a)).2.2.toNat (a + 1) (followV (byteAt s a)).1 (followV (byteAt s a)).2.1 (by omega)
              split at hok
              · rename_i he
                rw [if_pos he]
                have e1 := h.tail _ (a + 1) _ _ (by omega) he
                rw [show a + 1 + d = a + d + 1 by omega] at e1
                rw [e1]
                simp only [if_true]
                rw [show (tailL s (followV (byteAt s a)).2.2.toNat (a + 1) (followV (byteAt s a)).1 (followV (byteAt s a)).2.1).1 + d - (a + d) = (tailL s (followV (byteAt s a)).2.2.toNat (a + 1) (followV (byteAt s a)).1 (followV (byteAt s a)).2.1).1 - a by omega, h.part a _ (by omega)]
                exact h.str k k' _ _ (by omega) ht.2 hok
              · cases hok
theorem Around.strAt (h : Around s t d) {a : Nat} (ha : a < s.size) (hok : (Go.Proofs.Tryz.strAt s a).2.2 = true) : Go.Proofs.Tryz.strAt t (a + d) = ((Go.Proofs.Tryz.strAt s a).1, (Go.Proofs.Tryz.strAt s a).2.1 + d, true) := by
  have hz := h.size
  obtain ⟨p, e1, e2, e3⟩ := str_go (s.size + 1) (a + 1) [] (by omega) hok
  have := h.str (s.size + 1) (t.size + 1) (a + 1) [] (by omega) (by omega) hok
  unfold Go.Proofs.Tryz.strAt
  rw [show a + d + 1 = a + 1 + d by omega, this, e1]
  simp only [Int.toNat_natCast]
  congr 2
theorem Around.keyAt (h : Around s t d) {a : Nat} (ha : a ≤ s.size) (hok : (Go.Proofs.Tryz.keyAt s a).2.2 = true) : Go.Proofs.Tryz.keyAt t (a + d) = ((Go.Proofs.Tryz.keyAt s a).1, (Go.Proofs.Tryz.keyAt s a).2.1 + d, true) := by
  unfold Go.Proofs.Tryz.keyAt at hok ⊢
  split at hok
  · rename_i h34
    obtain ⟨e1, e2⟩ := h.blkAt ha (by rw [h34]; omega)
    have hlt : Go.Proofs.Tryz.blk s a < s.size := byte_pos (by rw [h34]; omega)
    rw [if_pos h34, e1, e2, if_pos h34]
    split at hok
    · rename_i hs
      have h2 := strAt_go hlt hs
      rw [if_pos hs, h.strAt hlt hs]
      simp only [if_true]
      split at hok
      · rename_i h58
        obtain ⟨e3, e4⟩ := h.blkAt h2.2 (by rw [h58]; omega)
        rw [if_pos h58, e3, e4, if_pos h58]
        simp only
        congr 2
        omega
      · cases hok
    · cases hok
  · cases hok
theorem Around.digs (h : Around s t d) : ∀ (k k' a : Nat), k ≤ k' → s.size < a + k → a ≤ s.size → digsV t k' (a + d) = digsV s k a + d
  | 0, _, a, _, h1, h2 => by omega
  | k + 1, 0, a, hk, _, _ => by omega
  | k + 1, k' + 1, a, hk, h1, h2 => by
    have hz := h.size
    rw [digsV, digsV]
    by_cases hlt : a < s.size
    · rw [h.byte a hlt]
      split
      · rw [show a + d + 1 = a + 1 + d by omega]
        exact h.digs k k' (a + 1) (by omega) (by omega) (by omega)
      · rfl
    · have e : a = s.size := by omega
      have h0 : digB (byteAt s a) = false := by rw [byteAt_end (by omega)]; rfl
      have h3 : digB (byteAt t (a + d)) = false := by
        have := h.post (a + d) (by omega) (by omega)
        unfold blankB at this
        unfold digB
        simp at this ⊢
        omega
      rw [h0, h3]
      simp
theorem Around.num (h : Around s t d) {p : Nat} {n : Int} (hok : (numL s p).1 = some n) : numL t (p + d) = (some n, (numL s p).2 + d) := by
  have hz := h.size
  have hgo := num_go (s := s) (p := p) (by rw [hok]; rfl)
  unfold numL at hok hgo ⊢
  rw [h.byte p (by omega)]
  obtain ⟨b, hb⟩ : ∃ b, (if byteAt s p = 45 then p + 1 else p) = b := ⟨_, rfl⟩
  have hb2 : (if byteAt s p = 45 then p + d + 1 else p + d) = b + d := by rw [← hb]; split <;> omega
  rw [hb] at hok hgo ⊢
  rw [hb2]
  unfold numAt at hok hgo ⊢
  split at hok
  · rename_i hd
    have hlt := dig_lt hd
    have hr := numEnd_range hd
    rw [if_pos hd] at hgo ⊢
    have he : numEnd t (b + d) = numEnd s b + d := by
      unfold numEnd
      rw [h.byte b hlt]
      split
      · omega
      · rw [show b + d + 1 = b + 1 + d by omega]
        exact h.digs (s.size + 1) (t.size + 1) (b + 1) (by omega) (by omega) (by omega)
    rw [h.byte b hlt, if_pos hd, he]
    cases hq : parsedV (s.extract p (numEnd s b)).data.toList with
    | none => rw [hq] at hok; cases hok
    | some m =>
      rw [hq] at hok hgo
      simp only [numP] at hok hgo
      cases hok
      have hx : (t.extract (p + d) (numEnd s b + d)).data.toList = (s.extract p (numEnd s b)).data.toList := by
        have := h.part p (numEnd s b - p) (by omega)
        simpa [ByteArray.data_extract, show numEnd s b + d - (p + d) = numEnd s b - p by omega] using this
      rw [hx, hq]
      rfl
  · cases hok
theorem Around.hold (h : Around s t d) {a n p : Nat} {obj : Bool} {k : Sum Bys HL} (ha : a < s.size) (hp : k.isRight = true → p < s.size) (hok : bhL s a n obj = (p, some k)) : bhL t (a + d) n obj = (p + d, some k) := by
  unfold bhL at hok ⊢
  rw [show a + d + 1 = a + 1 + d by omega]
  split at hok
  · cases hok
  · rename_i hn
    rw [if_neg hn]
    split at hok
    · rename_i hc
      obtain ⟨e1, e2⟩ := h.blkAt (a := a + 1) (by omega) (by rw [hc]; unfold clB; split <;> omega)
      cases hok
      rw [e1, e2, if_pos hc]
      congr 1
      omega
    · rename_i hc
      split at hok
      · rename_i ho
        split at hok
        · rename_i hk
          have h34 : byteAt s (Go.Proofs.Tryz.blk s (Go.Proofs.Tryz.blk s (a + 1))) = 34 := by
            unfold Go.Proofs.Tryz.keyAt at hk
            split at hk
            · assumption
            · cases hk
          have h1 := blk_le (s := s) (a := a + 1) (by omega)
          have e0 : Go.Proofs.Tryz.blk s (Go.Proofs.Tryz.blk s (a + 1)) = Go.Proofs.Tryz.blk s (a + 1) := blk_none (blk_spec (by omega)).2
          rw [e0] at h34
          obtain ⟨e1, e2⟩ := h.blkAt (a := a + 1) (by omega) (by rw [h34]; omega)
          cases hok
          rw [e1, e2, if_neg hc, if_pos ho, h.keyAt h1.2 hk]
          rfl
        · cases hok
      · rename_i ho
        cases hok
        have hlt := hp rfl
        have e1 := h.blk (a := a + 1) (by omega) hlt
        rw [e1, h.byte _ hlt, if_neg hc, if_neg ho]
theorem Around.beg (h : Around s t d) {a n p : Nat} {k : Sum Bys HL} (ha : a ≤ s.size) (hp : k.isRight = true → p < s.size) (hok : begL s a n = (p, some k)) : begL t (a + d) n = (p + d, some k) := by
  unfold begL at hok ⊢
  have hb : byteAt s (Go.Proofs.Tryz.blk s a) ≠ 0 := fun e => by rw [e] at hok; simp [begC, digB] at hok
  obtain ⟨e1, e2⟩ := h.blkAt ha hb
  have hlt := byte_pos hb
  rw [e1, e2]
  obtain ⟨q, hq⟩ : ∃ q, Go.Proofs.Tryz.blk s a = q := ⟨_, rfl⟩
  rw [hq] at hok hlt ⊢
  have wd : ∀ (wd : ByteArray) (x : Bys), (∀ i, i < wd.size → byteAt wd i ≠ 0) → wdL s wd q x = (p, some k) → wdL t wd (q + d) x = (p + d, some k) := fun wd x hz e => by
    unfold wdL at e ⊢
    split at e
    · rename_i hw
      cases e
      rw [h.word hz _ _ _ (by omega) hw]
      rfl
    · cases e
  have nm : numB s q = (p, some k) → numB t (q + d) = (p + d, some k) := fun e => by
    unfold numB at e ⊢
    cases hn : (numL s q).1 with
    | some n =>
      rw [hn] at e
      cases e
      rw [h.num hn]
    | none => rw [hn] at e; cases e
  unfold begC at hok ⊢
  split at hok
  · rename_i hc
    rw [if_pos hc]
    exact wd _ _ (by decide) hok
  · rename_i hc
    rw [if_neg hc]
    split at hok
    · rename_i hc
      rw [if_pos hc]
      exact wd _ _ (by decide) hok
    · rename_i hc
      rw [if_neg hc]
      split at hok
      · rename_i hc
        rw [if_pos hc]
        exact wd _ _ (by decide) hok
      · rename_i hc
        rw [if_neg hc]
        split at hok
        · rename_i hc
          rw [if_pos hc]
          unfold strB at hok ⊢
          split at hok
          · rename_i hs
            cases hok
            rw [h.strAt hlt hs]
            rfl
          · cases hok
        · rename_i hc
          rw [if_neg hc]
          split at hok
          · rename_i hc
            rw [if_pos hc]
            exact h.hold hlt hp hok
          · rename_i hc
            rw [if_neg hc]
            split at hok
            · rename_i hc
              rw [if_pos hc]
              exact h.hold hlt hp hok
            · rename_i hc
              rw [if_neg hc]
              split at hok
              · rename_i hc
                rw [if_pos hc]
                exact nm hok
              · rename_i hc
                rw [if_neg hc]
                split at hok
                · rename_i hc
                  rw [if_pos hc]
                  exact nm hok
                · cases hok
theorem run_more {s : ByteArray} {k a p : Nat} {st : List HL} {c : Bys} (ha : a ≤ s.size) (h : runL s k none a st = (some c, p)) : a < s.size := by
  cases k with
  | zero => simp [runL] at h
  | succ k =>
    rw [runL] at h
    rcases Nat.lt_or_ge a s.size with hl | hl
    · exact hl
    · have e : begL s a st.length = (a, none) := by
        unfold begL
        rw [blk_none (by rw [byteAt_end hl]; rfl), byteAt_end hl]
        rfl
      rw [e] at h
      cases h
theorem Around.run (h : Around s t d) : ∀ (k k' : Nat) (hand : Option Bys) (a : Nat) (st : List HL) (c : Bys) (p : Nat), k ≤ k' → a ≤ s.size → runL s k hand a st = (some c, p) → ∃ p', runL t k' hand (a + d) st = (some c, p')
  | 0, _, _, _, _, _, _, _, _, e => by simp [runL] at e
  | k + 1, 0, _, _, _, _, _, hk, _, _ => by omega
  | k + 1, k' + 1, none, a, st, c, p, hk, ha, e => by
    rw [runL] at e ⊢
    cases hR : begL s a st.length with
    | mk q x =>
      rw [hR] at e
      cases x with
      | none => cases e
      | some x =>
        have hgo := begL_go ha hR
        cases x with
        | inl u =>
          rw [h.beg ha (by simp) hR]
          exact h.run k k' _ _ _ _ _ (by omega) hgo.2 e
        | inr l =>
          rw [h.beg ha (fun _ => run_more hgo.2 e) hR]
          exact h.run k k' _ _ _ _ _ (by omega) hgo.2 e
  | k + 1, k' + 1, some u, a, [], c, p, hk, ha, e => by
    rw [runL] at e ⊢
    split at e
    · rename_i hb
      cases e
      rw [if_pos (h.blkEnd ha hb)]
      exact ⟨_, rfl⟩
    · cases e
  | k + 1, k' + 1, some u, a, l :: st, c, p, hk, ha, e => by
    have h1 := blk_le ha
    rw [runL] at e ⊢
    split at e
    · rename_i h44
      have hlt : Go.Proofs.Tryz.blk s a < s.size := byte_pos (by rw [h44]; omega)
      obtain ⟨e1, e2⟩ := h.blkAt ha (by rw [h44]; omega)
      rw [e1, e2, if_pos h44]
      split at e
      · rename_i ho
        rw [if_pos ho]
        split at e
        · rename_i hky
          have h3 := keyAt_le (s := s) (a := Go.Proofs.Tryz.blk s a + 1) (by omega)
          rw [show Go.Proofs.Tryz.blk s a + d + 1 = Go.Proofs.Tryz.blk s a + 1 + d by omega, h.keyAt (by omega) hky]
          exact h.run k k' _ _ _ _ _ (by omega) h3 e
        · cases e
      · rename_i ho
        rw [if_neg ho, show Go.Proofs.Tryz.blk s a + d + 1 = Go.Proofs.Tryz.blk s a + 1 + d by omega]
        exact h.run k k' _ _ _ _ _ (by omega) (by omega) e
    · rename_i h44
      split at e
      · rename_i hcl
        have hne : byteAt s (Go.Proofs.Tryz.blk s a) ≠ 0 := by rw [hcl]; unfold clB; split <;> omega
        have hlt : Go.Proofs.Tryz.blk s a < s.size := byte_pos hne
        obtain ⟨e1, e2⟩ := h.blkAt ha hne
        rw [e1, e2, if_neg h44, if_pos hcl, show Go.Proofs.Tryz.blk s a + d + 1 = Go.Proofs.Tryz.blk s a + 1 + d by omega]
        exact h.run k k' _ _ _ _ _ (by omega) (by omega) e
      · cases e
/-- Blanks ahead of a text don't matter. -/
theorem run_skip {t : ByteArray} {d k : Nat} {st : List HL} (hd : d ≤ t.size) (h : ∀ i, i < d → blankB (byteAt t i) = true) : runL t (k + 1) none 0 st = runL t (k + 1) none d st := by
  have e : blk t 0 = blk t d := by
    obtain ⟨h1, h2⟩ := blk_spec hd
    have h3 := blk_le hd
    refine blk_char (by omega) h3.2 h2 (fun i _ hi => ?_)
    by_cases hlt : i < d
    · exact h i hlt
    · exact h1 i (by omega) hi
  rw [runL, runL, begL, begL, e]
theorem read_around {s t : ByteArray} {d : Nat} (h : Around s t d) (hd : ∀ i, i < d → blankB (byteAt t i) = true) {c : Bys} {p : Nat} (e : readL s = (some c, p)) : ∃ p', readL t = (some c, p') := by
  unfold readL at e ⊢
  have hz := h.size
  rw [run_skip (by omega) hd]
  have := h.run (s.size + 1) (t.size + 1) none 0 [] c p (by omega) (by omega) e
  rwa [Nat.zero_add] at this
end Go.Proofs.Tryz

