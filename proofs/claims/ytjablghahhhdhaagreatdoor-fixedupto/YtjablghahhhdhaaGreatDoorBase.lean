import Derived.Test.YtjablghahhhdhaaGreatDoorProg
import Derived.WalkKit
import Derived.WalkSpells
import Derived.WalkLawsBesides
set_option linter.all false
namespace Go.Proofs.Tryz
open Go.RowKit


/-- All blocks that were there but one are as they were. -/
structure Kept (r : Nat) (w w' : World) : Prop where
  os : w'.os = w.os
  tape : w'.tape = w.tape
  output : w'.output = w.output
  size : w.heap.size ≤ w'.heap.size
  block : ∀ k, k < w.heap.size → k ≠ r → w'.heap[k]? = w.heap[k]?

theorem Kept.refl (r : Nat) (w : World) : Kept r w w := ⟨rfl, rfl, rfl, Nat.le_refl _, fun _ _ _ => rfl⟩
theorem Kept.trans {r : Nat} {a b c : World} (h : Kept r a b) (k : Kept r b c) : Kept r a c :=
  ⟨k.os.trans h.os, k.tape.trans h.tape, k.output.trans h.output, Nat.le_trans h.size k.size,
    fun i hi hr => (k.block i (Nat.lt_of_lt_of_le hi h.size) hr).trans (h.block i hi hr)⟩
theorem Kept.of_below {r : Nat} {w w' : World} (h : Below w.heap.size w w') : Kept r w w' :=
  ⟨h.os, h.tape, h.output, h.size, fun k hk _ => h.block k hk⟩
theorem Kept.alloc {r : Nat} {a w : World} (h : Kept r a w) (o : Obj) : Kept r a (w.alloc o) :=
  h.trans (.of_below ((Below.refl _ _).alloc (Nat.le_refl _) _))
theorem Kept.setCell {r : Nat} {a w : World} (h : Kept r a w) {p : Addr} (hp : p.block = r ∨ a.heap.size ≤ p.block) (u : Value) : Kept r a (w.setCell p u) :=
  ⟨h.os, h.tape, h.output, by have := h.size; simpa using this, fun k hk hr => by
    rw [Below.heap_setCell _ _ _ _ (by omega)]; exact h.block k hk hr⟩
theorem Kept.setR {r o : Nat} {a w : World} (h : Kept r a w) (u : Value) : Kept r a (w.setCell ⟨r, o, none⟩ u) := h.setCell (.inl rfl) u
theorem Kept.setNew {r b o : Nat} {a w : World} (h : Kept r a w) (u : Value) (hb : a.heap.size ≤ b) : Kept r a (w.setCell ⟨b, o, none⟩ u) := h.setCell (.inr hb) u
theorem Kept.drewN {r : Nat} {a w : World} (h : Kept r a w) (n : Nat) : Kept r a (w.drewN n) := ⟨h.os, h.tape, h.output, h.size, h.block⟩
theorem Kept.cell {r : Nat} {w w' : World} (h : Kept r w w') {b o : Nat} (hb : b < w.heap.size) (hr : b ≠ r) : w'.cell? ⟨b, o, none⟩ = w.cell? ⟨b, o, none⟩ :=
  World.cell?_of_block (w := w) (h.block b hb hr)
theorem Kept.frozen {r : Nat} {w w' : World} (h : Kept r w w') {b o : Nat} (hb : b < w.heap.size) (hr : b ≠ r) : w'.frozen? ⟨b, o, none⟩ = w.frozen? ⟨b, o, none⟩ :=
  World.frozen?_of_block (w := w) (h.block b hb hr)
theorem cell_lt {w : World} {b o : Nat} {v : Value} (h : w.cell? ⟨b, o, none⟩ = some v) : b < w.heap.size := by
  unfold World.cell? at h
  by_cases hb : b < w.heap.size
  · exact hb
  · simp [Array.getElem?_eq_none (by omega : w.heap.size ≤ b)] at h

/-- A token. -/
structure Tok where
  kind : Int
  text : ByteArray
  pos : Int

/-- The tokens that lie from cell o on in block tb. -/
def Toks (w : World) (tb : Nat) : Nat → List Tok → Prop
  | _, [] => True
  | o, t :: l => w.cell? ⟨tb, o, none⟩ = some (.int .u8 t.kind) ∧ w.cell? ⟨tb, o + 1, none⟩ = some (.string t.text) ∧ w.cell? ⟨tb, o + 2, none⟩ = some (.int .i64 t.pos) ∧ Toks w tb (o + 3) l

theorem Toks.same {w w' : World} {tb : Nat} (h : w'.heap[tb]? = w.heap[tb]?) : ∀ {o : Nat} {l : List Tok}, Toks w tb o l → Toks w' tb o l
  | _, [], _ => trivial
  | _, _ :: _, ⟨a, b, c, d⟩ => ⟨(World.cell?_of_block (w := w) h).trans a, (World.cell?_of_block (w := w) h).trans b, (World.cell?_of_block (w := w) h).trans c, Toks.same h d⟩

/-- The reader at block rb has the tokens l before it. -/
structure Reads (w : World) (rb tb o c : Nat) (l : List Tok) : Prop where
  cell : w.cell? ⟨rb, 0, none⟩ = some (.slice (some ⟨tb, o, none⟩) l.length c)
  cap : l.length ≤ c
  max : c ≤ 9223372036854775807
  free : w.frozen? ⟨rb, 0, none⟩ = false
  ne : tb ≠ rb
  tbs : tb < w.heap.size
  toks : Toks w tb o l

theorem Reads.rbs {w : World} {rb tb o c : Nat} {l : List Tok} (h : Reads w rb tb o c l) : rb < w.heap.size := cell_lt h.cell



/-- What the reader leaves behind it. -/
structure Left (w w' : World) (rb tb : Nat) (l : List Tok) : Prop where
  kept : Kept rb w w'
  reads : ∃ o c, Reads w' rb tb o c l

theorem Left.trans {a b c : World} {rb tb : Nat} {l m : List Tok} (h : Left a b rb tb l) (k : Left b c rb tb m) : Left a c rb tb m := ⟨h.kept.trans k.kept, k.reads⟩

set_option maxHeartbeats 400000 in
theorem take_ok {w : World} {rb tb o c : Nat} {t u : Tok} {l : List Tok} (h : Reads w rb tb o c (t :: u :: l)) :
    Calls Tryz.prog 82 #[.pointer (some ⟨rb, 0, none⟩)] w fun e w' => e = .returned (.agg #[.int .u8 t.kind, .string t.text, .int .i64 t.pos]) ∧ Left w w' rb tb (u :: l) := by
  obtain ⟨hr, hcap, hmax, hf, hne, htb, ⟨h0, h1, h2, hrest⟩⟩ := h
  have hrb := cell_lt hr
  simp only [List.length_cons] at hr hcap
  have hc1 : ¬ c = 1 := by omega
  have hmax' : c ≤ 9223372036854775807 := by omega
  have hn : l.length + 1 + 1 ≤ c := by omega
  go_enter Tryz.func82, Tryz.ntmps82
  go_wp2
  refine bodyPost_ret (v := .agg #[.int .u8 t.kind, .string t.text, .int .i64 t.pos]) (by simp [results, Tryz.results82, go_sem]) rfl ⟨rfl, ?_⟩
  refine ⟨((Kept.refl _ _).setR _).alloc _ |>.alloc _, o + 3, c - 1, ?_⟩
  refine ⟨?_, ?_, by omega, ?_, hne, by simp; omega, ?_⟩
  · simp [hrb, hr, go_sem]
  · simp; omega
  · simp [hrb, hf, go_sem]
  · refine Toks.same (w := w) ?_ hrest
    rw [Below.heap_alloc _ _ _ (by simp; omega), Below.heap_alloc _ _ _ (by simp; omega), Below.heap_setCell _ _ _ _ hne]
end Go.Proofs.Tryz

