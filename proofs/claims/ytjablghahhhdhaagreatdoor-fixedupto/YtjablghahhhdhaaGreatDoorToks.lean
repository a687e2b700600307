import Derived.Test.YtjablghahhhdhaaGreatDoorBase
set_option linter.all false
namespace Go.Proofs.Tryz
open Go.RowKit


theorem Reads.below {w w' : World} {rb tb o c : Nat} {l : List Tok} (h : Reads w rb tb o c l) (b : Below w.heap.size w w') : Reads w' rb tb o c l :=
  ⟨(b.cell (p := ⟨rb, 0, none⟩) h.rbs).trans h.cell, h.cap, h.max, (b.frozen (p := ⟨rb, 0, none⟩) h.rbs).trans h.free, h.ne, Nat.lt_of_lt_of_le h.tbs b.size, Toks.same (b.block _ h.tbs) h.toks⟩
theorem below_alloc (w : World) (o : Obj) : Below w.heap.size w (w.alloc o) := (Below.refl _ _).alloc (Nat.le_refl _) _
theorem Reads.alloc {w : World} {rb tb o c : Nat} {l : List Tok} (h : Reads w rb tb o c l) (x : Obj) : Reads (w.alloc x) rb tb o c l := h.below (below_alloc w x)
/-- Onto a world in which nothing old has turned. -/
theorem Left.from {a b c : World} {rb tb : Nat} {l : List Tok} (h : Below a.heap.size a b) (k : Left b c rb tb l) : Left a c rb tb l := ⟨(Kept.of_below h).trans k.kept, k.reads⟩
theorem Left.stay {a b : World} {rb tb o c : Nat} {l : List Tok} (h : Reads a rb tb o c l) (k : Below a.heap.size a b) : Left a b rb tb l := ⟨.of_below k, _, _, h.below k⟩
theorem Left.of_reads {a : World} {rb tb o c : Nat} {l : List Tok} (h : Reads a rb tb o c l) : Left a a rb tb l := ⟨.refl _ _, _, _, h⟩
theorem Left.upto {a b c : World} {rb tb : Nat} {l : List Tok} (h : Left a b rb tb l) (k : Below b.heap.size b c) : Left a c rb tb l := by
  obtain ⟨hk, o, cc, hr⟩ := h
  exact ⟨hk.trans (.of_below k), _, _, hr.below k⟩
/-- Whoever reads l in some way. -/
def Rd (w : World) (rb tb : Nat) (l : List Tok) : Prop := ∃ o c, Reads w rb tb o c l
theorem Left.rd {a b : World} {rb tb : Nat} {l : List Tok} (h : Left a b rb tb l) : Rd b rb tb l := h.reads
theorem Left.of_rd {a : World} {rb tb : Nat} {l : List Tok} (h : Rd a rb tb l) : Left a a rb tb l := ⟨.refl _ _, h⟩
theorem Rd.alloc {w : World} {rb tb : Nat} {l : List Tok} (h : Rd w rb tb l) (x : Obj) : Rd (w.alloc x) rb tb l := by
  obtain ⟨o, c, h⟩ := h; exact ⟨o, c, h.alloc x⟩
theorem Rd.below {w w' : World} {rb tb : Nat} {l : List Tok} (h : Rd w rb tb l) (b : Below w.heap.size w w') : Rd w' rb tb l := by
  obtain ⟨o, c, h⟩ := h; exact ⟨o, c, h.below b⟩
theorem Rd.drewN {w : World} {rb tb : Nat} {l : List Tok} (h : Rd w rb tb l) (n : Nat) : Rd (w.drewN n) rb tb l := by
  obtain ⟨o, c, h⟩ := h; exact ⟨o, c, h.cell, h.cap, h.max, h.free, h.ne, h.tbs, Toks.same (w := w) (w' := w.drewN n) rfl h.toks⟩
theorem Rd.rbs {w : World} {rb tb : Nat} {l : List Tok} (h : Rd w rb tb l) : rb < w.heap.size := by obtain ⟨o, c, h⟩ := h; exact h.rbs

theorem Kept.rules {r : Nat} {w w' : World} (h : Kept r w w') : (∀ b o, b < w.heap.size → b ≠ r → w'.cell? ⟨b, o, none⟩ = w.cell? ⟨b, o, none⟩) ∧ (∀ b o, b < w.heap.size → b ≠ r → w'.frozen? ⟨b, o, none⟩ = w.frozen? ⟨b, o, none⟩) :=
  ⟨fun _ _ hb hr => h.cell hb hr, fun _ _ hb hr => h.frozen hb hr⟩
theorem Left.setNew {a w : World} {rb tb b o : Nat} {l : List Tok} (h : Left a w rb tb l) (u : Value) (hb : a.heap.size ≤ b) (hr : b ≠ rb) (ht : b ≠ tb) : Left a (w.setCell ⟨b, o, none⟩ u) rb tb l := by
  obtain ⟨hk, p, c, h⟩ := h
  have hs := h.rbs
  refine ⟨hk.setNew u hb, p, c, ?_, h.cap, h.max, ?_, h.ne, by simpa using h.tbs, ?_⟩
  · exact (World.cell?_of_block (w := w) (Below.heap_setCell _ _ _ _ (by simpa using fun e : rb = b => hr e.symm))).trans h.cell
  · exact (World.frozen?_of_block (w := w) (Below.heap_setCell _ _ _ _ (by simpa using fun e : rb = b => hr e.symm))).trans h.free
  · exact Toks.same (Below.heap_setCell _ _ _ _ (by simpa using fun e : tb = b => ht e.symm)) h.toks

theorem field_text (k p : Int) (t : ByteArray) (w : World) : Sem.run Tryz.prog (Instr.field 62 (.agg #[.int .u8 k, .string t, .int .i64 p]) 1) w = .ok (.string t) w := by kernel_rfl

/-- A sign or a word with this text. -/
def isTok (t : Tok) (s : ByteArray) : Bool := (t.kind == 7 || t.kind == 3) && t.text.data.toList == s.data.toList

theorem take_rd {w : World} {rb tb : Nat} {t u : Tok} {l : List Tok} (h : Rd w rb tb (t :: u :: l)) :
    Calls Tryz.prog 82 #[.pointer (some ⟨rb, 0, none⟩)] w fun e w' => e = .returned (.agg #[.int .u8 t.kind, .string t.text, .int .i64 t.pos]) ∧ Left w w' rb tb (u :: l) := by
  obtain ⟨o, c, h⟩ := h; exact take_ok h

set_option maxHeartbeats 400000 in
theorem accept_yes {w : World} {rb tb : Nat} {t u : Tok} {l : List Tok} {s : ByteArray} (h : Rd w rb tb (t :: u :: l)) (hs : isTok t s = true) :
    Calls Tryz.prog 37 #[.pointer (some ⟨rb, 0, none⟩), .string s] w fun e w' => e = .returned (.bool true) ∧ Left w w' rb tb (u :: l) := by
  have h' := h
  obtain ⟨o, c, ⟨hr, hcap, hmax, hf, hne, htb, ⟨h0, h1, h2, hrest⟩⟩⟩ := h
  have hrb := cell_lt hr
  simp only [List.length_cons] at hr hcap
  obtain ⟨hk, hs⟩ : (t.kind = 7 ∨ t.kind = 3) ∧ t.text.toList = s.toList := by simpa [isTok, ByteArray.toList_eq] using hs
  go_enter Tryz.func37, Tryz.ntmps37
  rcases hk with hk | hk
  all_goals
    go_wp2_with (go_at_call 82; refine (take_rd (h'.alloc _)).mono ?_; rintro e w1 ⟨rfl, hl⟩)
    go_ret
    exact ⟨rfl, hl.from (below_alloc _ _)⟩

set_option maxHeartbeats 400000 in
theorem accept_no {w : World} {rb tb : Nat} {t : Tok} {s : ByteArray} {l : List Tok} (h : Rd w rb tb (t :: l)) (hs : isTok t s = false) :
    Calls Tryz.prog 37 #[.pointer (some ⟨rb, 0, none⟩), .string s] w fun e w' => e = .returned (.bool false) ∧ Left w w' rb tb (t :: l) := by
  obtain ⟨o, c, h⟩ := h
  have h' := h
  obtain ⟨hr, hcap, hmax, hf, hne, htb, ⟨h0, h1, h2, hrest⟩⟩ := h
  have hrb := cell_lt hr
  simp only [List.length_cons] at hr hcap
  have hk : ¬ t.text.toList = s.toList ∨ (t.kind ≠ 7 ∧ t.kind ≠ 3) := by
    simp [isTok, ← ByteArray.toList_eq] at hs
    by_cases e : t.text.toList = s.toList
    · by_cases k7 : t.kind = 7
      · exact absurd e (hs (.inl k7))
      · by_cases k3 : t.kind = 3
        · exact absurd e (hs (.inr k3))
        · exact .inr ⟨k7, k3⟩
    · exact .inl e
  clear hs
  go_enter Tryz.func37, Tryz.ntmps37
  by_cases hs : t.text.toList = s.toList
  · obtain ⟨k1, k2⟩ : t.kind ≠ 7 ∧ t.kind ≠ 3 := by rcases hk with hk | hk; exact absurd hs hk; exact hk
    have b1 : (t.kind != 7) = true := by simpa using k1
    have b2 : (t.kind != 3) = true := by simpa using k2
    clear k1 k2 hk
    go_wp2
    go_ret
    exact ⟨rfl, .stay h' (below_alloc _ _)⟩
  · clear hk
    go_wp2
    go_ret
    exact ⟨rfl, .stay h' (below_alloc _ _)⟩

set_option maxHeartbeats 400000 in
theorem expect_ok {w : World} {rb tb : Nat} {t u : Tok} {l : List Tok} {s : ByteArray} (h : Rd w rb tb (t :: u :: l)) (hs : isTok t s = true) :
    Calls Tryz.prog 84 #[.pointer (some ⟨rb, 0, none⟩), .string s] w fun e w' => e = .returned (.tuple #[]) ∧ Left w w' rb tb (u :: l) := by
  go_enter Tryz.func84, Tryz.ntmps84
  go_wp2_with (go_at_call 37; refine (accept_yes h hs).mono ?_; rintro e w1 ⟨rfl, hl⟩)
  go_end0
  exact ⟨rfl, hl⟩

set_option maxHeartbeats 400000 in
theorem expectKind_ok {w : World} {rb tb : Nat} {t u : Tok} {l : List Tok} (h : Rd w rb tb (t :: u :: l)) :
    Calls Tryz.prog 83 #[.pointer (some ⟨rb, 0, none⟩), .int .u8 t.kind] w fun e w' => e = .returned (.agg #[.int .u8 t.kind, .string t.text, .int .i64 t.pos]) ∧ Left w w' rb tb (u :: l) := by
  have h' := h
  obtain ⟨o, c, ⟨hr, hcap, hmax, hf, hne, htb, ⟨h0, h1, h2, hrest⟩⟩⟩ := h
  have hrb := cell_lt hr
  simp only [List.length_cons] at hr hcap
  go_enter Tryz.func83, Tryz.ntmps83
  have hb : w.heap.size ≠ rb := by omega
  have hbt : w.heap.size ≠ tb := by omega
  go_wp2_with (go_at_call 82; refine (take_rd (h'.alloc _)).mono ?_; rintro e w1 ⟨rfl, hl⟩; obtain ⟨hc, hz⟩ := hl.kept.rules; have hs := hl.kept.size; simp at hs hc hz)
  exact bodyPost_ret (v := .agg #[.int .u8 t.kind, .string t.text, .int .i64 t.pos]) (by simp [results, Tryz.results83, go_sem, hc, hb]) rfl
    ⟨rfl, (((hl.from (below_alloc _ _)).setNew _ (Nat.le_refl _) hb hbt).setNew _ (Nat.le_refl _) hb hbt).setNew _ (Nat.le_refl _) hb hbt⟩

/-- The row of an operator. -/
def rowOf (s : List UInt8) : Int :=
  if s == [124] then 1 else if s == [44] then 2 else if s == [47, 47] then 3 else if s == [124, 61] || s == [61] then 4 else if s == [111, 114] then 5 else if s == [97, 110, 100] then 6
  else if s == [61, 61] || s == [33, 61] || s == [60] || s == [60, 61] || s == [62] || s == [62, 61] then 7 else if s == [43] || s == [45] then 8 else if s == [42] || s == [47] || s == [37] then 9 else 0

set_option maxHeartbeats 400000 in
theorem rowOf_any (s : ByteArray) (w : World) :
    Calls Tryz.prog 139 #[.string s] w fun e w' => e = .returned (.int .u8 (rowOf s.data.toList)) ∧ w' = w := by
  rw [← ByteArray.toList_eq]
  go_enter Tryz.func139, Tryz.ntmps139
  go_wp2
  all_goals
    go_ret
    refine ⟨?_, rfl⟩
    simp_all [rowOf]

/-- The row of what stands at hand. -/
def opOf (t : Tok) : Int := if t.kind == 7 || t.kind == 3 then rowOf t.text.data.toList else 0

set_option maxHeartbeats 400000 in
theorem operator_any {w : World} {rb tb : Nat} {t : Tok} {l : List Tok} (h : Rd w rb tb (t :: l)) :
    Calls Tryz.prog 86 #[.pointer (some ⟨rb, 0, none⟩)] w fun e w' => e = .returned (.int .u8 (opOf t)) ∧ Left w w' rb tb (t :: l) := by
  obtain ⟨o, c, h⟩ := h
  have h' := h
  obtain ⟨hr, hcap, hmax, hf, hne, htb, ⟨h0, h1, h2, hrest⟩⟩ := h
  have hrb := cell_lt hr
  simp only [List.length_cons] at hr hcap
  go_enter Tryz.func86, Tryz.ntmps86
  by_cases k7 : t.kind = 7
  · go_wp2_with (go_at_call 139; refine (rowOf_any _ _).mono ?_; rintro e w1 ⟨rfl, rfl⟩)
    go_ret
    exact ⟨by simp [opOf, k7], .stay h' (below_alloc _ _)⟩
  · by_cases k3 : t.kind = 3
    · go_wp2_with (go_at_call 139; refine (rowOf_any _ _).mono ?_; rintro e w1 ⟨rfl, rfl⟩)
      go_ret
      exact ⟨by simp [opOf, k3], .stay h' (below_alloc _ _)⟩
    · have b1 : (t.kind != 7) = true := by simpa using k7
      have b2 : (t.kind != 3) = true := by simpa using k3
      go_wp2_with (go_at_call 139; refine (rowOf_any _ _).mono ?_; rintro e w1 ⟨rfl, rfl⟩)
      go_ret
      exact ⟨by simp [opOf, k7, k3], .stay h' (below_alloc _ _)⟩
end Go.Proofs.Tryz

