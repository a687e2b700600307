import Derived.Test.YtjablghahhhdhaaGreatDoorTree
set_option linter.all false
namespace Go.Proofs.Tryz
open Go.RowKit

def eat (s : ByteArray) : List Tok → Option (List Tok)
  | t :: u :: l => if isTok t s then some (u :: l) else none
  | _ => none
def eatKind (k : Int) : List Tok → Option (Tok × List Tok)
  | t :: u :: l => if t.kind == k then some (t, u :: l) else none
  | _ => none
def sees (s : ByteArray) : List Tok → Option Bool
  | t :: _ => some (isTok t s)
  | _ => none

theorem eat_some {s : ByteArray} {l l' : List Tok} (h : eat s l = some l') : ∃ t u m, l = t :: u :: m ∧ l' = u :: m ∧ isTok t s = true := by
  match l, h with
  | t :: u :: m, h =>
    simp only [eat] at h
    split at h
    · exact ⟨t, u, m, rfl, (Option.some.inj h).symm, by assumption⟩
    · simp at h
theorem eatKind_some {k : Int} {l l' : List Tok} {t : Tok} (h : eatKind k l = some (t, l')) : ∃ u m, l = t :: u :: m ∧ l' = u :: m ∧ t.kind = k := by
  match l, h with
  | t' :: u :: m, h =>
    simp only [eatKind] at h
    split at h
    · simp only [Option.some.injEq, Prod.mk.injEq] at h
      obtain ⟨rfl, rfl⟩ := h
      exact ⟨u, m, rfl, rfl, by simpa using ‹(t'.kind == k) = true›⟩
    · simp at h

theorem accept_eat {w : World} {rb tb : Nat} {l l' : List Tok} {s : ByteArray} (h : Rd w rb tb l) (hs : eat s l = some l') :
    Calls Tryz.prog 37 #[.pointer (some ⟨rb, 0, none⟩), .string s] w fun e w' => e = .returned (.bool true) ∧ Left w w' rb tb l' := by
  obtain ⟨t, u, m, rfl, rfl, ht⟩ := eat_some hs
  exact accept_yes h ht
theorem accept_not {w : World} {rb tb : Nat} {l : List Tok} {s : ByteArray} (h : Rd w rb tb l) (hs : sees s l = some false) :
    Calls Tryz.prog 37 #[.pointer (some ⟨rb, 0, none⟩), .string s] w fun e w' => e = .returned (.bool false) ∧ Left w w' rb tb l := by
  match l, hs with
  | t :: l, hs => exact accept_no h (Option.some.inj hs)
theorem expect_eat {w : World} {rb tb : Nat} {l l' : List Tok} {s : ByteArray} (h : Rd w rb tb l) (hs : eat s l = some l') :
    Calls Tryz.prog 84 #[.pointer (some ⟨rb, 0, none⟩), .string s] w fun e w' => e = .returned (.tuple #[]) ∧ Left w w' rb tb l' := by
  obtain ⟨t, u, m, rfl, rfl, ht⟩ := eat_some hs
  exact expect_ok h ht
theorem expectKind_eat {w : World} {rb tb : Nat} {k : Int} {t : Tok} {l l' : List Tok} (h : Rd w rb tb l) (hs : eatKind k l = some (t, l')) :
    Calls Tryz.prog 83 #[.pointer (some ⟨rb, 0, none⟩), .int .u8 k] w fun e w' => e = .returned (.agg #[.int .u8 k, .string t.text, .int .i64 t.pos]) ∧ Left w w' rb tb l' := by
  obtain ⟨u, m, rfl, rfl, rfl⟩ := eatKind_some hs
  exact expectKind_ok h

theorem Gives.from {a w : World} {rb tb : Nat} {l l' : List Tok} {t : Tr} {e : Ending} {w' : World} (k : Left a w rb tb l') (h : Gives rb tb l t w e w') : Gives rb tb l t a e w' := by
  obtain ⟨T, b, rfl, hl, hr⟩ := h
  exact ⟨T, b, rfl, k.trans hl, hr.low k.kept.size⟩

theorem heap_new (a : World) (o : Obj) : (a.alloc o).heap[a.heap.size]? = some o := by
  show (a.heap.push o)[a.heap.size]? = some o
  simp

/-- A node that is being filled: its block, its cells, and the trees that are read already. -/
structure Nod (a w : World) (rb tb : Nat) (l : List Tok) (N : Nat) (cs : Array Value) (T : Nat) (its : List (Value × Tr)) : Prop where
  left : Left a w rb tb l
  new : a.heap.size ≤ N
  rbs : rb < a.heap.size
  tbs : tb < a.heap.size
  blk : w.heap[N]? = some (.cells cs T)
  its : ∀ x ∈ its, Rep (N + 1 ≤ ·) w x.1 x.2

theorem Nod.lt {a w : World} {rb tb : Nat} {l : List Tok} {N : Nat} {cs : Array Value} {T : Nat} {its : List (Value × Tr)} (h : Nod a w rb tb l N cs T its) : N < w.heap.size := by
  by_cases e : N < w.heap.size
  · exact e
  · have := h.blk; rw [Array.getElem?_eq_none (by omega)] at this; cases this
theorem Nod.cell {a w : World} {rb tb : Nat} {l : List Tok} {N : Nat} {cs : Array Value} {T : Nat} {its : List (Value × Tr)} (h : Nod a w rb tb l N cs T its) (o : Nat) : w.cell? ⟨N, o, none⟩ = cs[o]? := by
  simp [World.cell?, h.blk]
theorem Nod.free {a w : World} {rb tb : Nat} {l : List Tok} {N : Nat} {cs : Array Value} {T : Nat} {its : List (Value × Tr)} (h : Nod a w rb tb l N cs T its) (o : Nat) : w.frozen? ⟨N, o, none⟩ = false := by
  simp [World.frozen?, h.blk]
theorem Nod.rd {a w : World} {rb tb : Nat} {l : List Tok} {N : Nat} {cs : Array Value} {T : Nat} {its : List (Value × Tr)} (h : Nod a w rb tb l N cs T its) : Rd w rb tb l := h.left.rd
theorem Rd.tbs {w : World} {rb tb : Nat} {l : List Tok} (h : Rd w rb tb l) : tb < w.heap.size := by obtain ⟨o, c, h⟩ := h; exact h.tbs
theorem Nod.start {a : World} {rb tb : Nat} {l : List Tok} (h : Rd a rb tb l) (cs : Array Value) (T : Nat) : Nod a (a.alloc (.cells cs T)) rb tb l a.heap.size cs T [] :=
  ⟨(Left.of_rd h).upto (below_alloc _ _), Nat.le_refl _, h.rbs, h.tbs, heap_new _ _, by simp⟩
theorem Nod.startAt {a : World} {rb tb : Nat} {l : List Tok} (h : Rd a rb tb l) (N : Nat) (hN : a.heap.size = N) (cs : Array Value) (T : Nat) : Nod a (a.alloc (.cells cs T)) rb tb l N cs T [] := by
  subst hN; exact Nod.start h cs T
theorem Nod.begin {a b : World} {rb tb : Nat} {l l' : List Tok} (h : Left a b rb tb l) (hr : Rd a rb tb l') (cs : Array Value) (T : Nat) : Nod a (b.alloc (.cells cs T)) rb tb l b.heap.size cs T [] :=
  ⟨h.upto (below_alloc _ _), h.kept.size, hr.rbs, hr.tbs, heap_new _ _, by simp⟩
theorem Nod.call {a w w' : World} {rb tb : Nat} {l l' : List Tok} {N : Nat} {cs : Array Value} {T : Nat} {its : List (Value × Tr)} (h : Nod a w rb tb l N cs T its) (k : Left w w' rb tb l') : Nod a w' rb tb l' N cs T its :=
  ⟨h.left.trans k, h.new, h.rbs, h.tbs, (k.kept.block N h.lt (by have := h.new; have := h.rbs; omega)).trans h.blk, fun x hx => (h.its x hx).kept k.kept (by have := h.new; have := h.rbs; omega)⟩
theorem Nod.item {a w w' : World} {rb tb : Nat} {l l' : List Tok} {N : Nat} {cs : Array Value} {T : Nat} {its : List (Value × Tr)} (h : Nod a w rb tb l N cs T its) (k : Left w w' rb tb l') {v : Value} {t : Tr} (r : Rep (w.heap.size ≤ ·) w' v t) :
    Nod a w' rb tb l' N cs T ((v, t) :: its) :=
  let n := h.call k
  ⟨n.left, n.new, n.rbs, n.tbs, n.blk, fun x hx => by
    rcases List.mem_cons.1 hx with rfl | hx
    · exact r.low (Nat.succ_le_of_lt h.lt)
    · exact n.its x hx⟩
theorem Nod.set {a w : World} {rb tb : Nat} {l : List Tok} {N : Nat} {cs : Array Value} {T : Nat} {its : List (Value × Tr)} (h : Nod a w rb tb l N cs T its) (i : Nat) (v : Value) :
    Nod a (w.setCell ⟨N, i, none⟩ v) rb tb l N (cs.setIfInBounds i v) T its :=
  ⟨h.left.setNew v h.new (by have := h.new; have := h.rbs; omega) (by have := h.new; have := h.tbs; omega), h.new, h.rbs, h.tbs, by simp [World.setCell, Array.getElem?_modify, h.blk],
    fun x hx => (h.its x hx).setOld (Nat.lt_succ_self _)⟩

def stepMinus (P : Pars) (l : List Tok) : Option (Tr × List Tok) := do
  let b ← sees ⟨#[45]⟩ l
  if b then none else P .bound l

set_option maxHeartbeats 400000 in
theorem minus_step {P : Pars} (hP : Sound P) {l : List Tok} {t : Tr} {l' : List Tok} {w : World} {rb tb : Nat} (h : stepMinus P l = some (t, l')) (hr : Rd w rb tb l) :
    Calls Tryz.prog 85 #[.pointer (some ⟨rb, 0, none⟩)] w (Gives rb tb l' t w) := by
  simp only [stepMinus, Option.bind_eq_bind, Option.bind_eq_some_iff] at h
  obtain ⟨b, hb, h⟩ := h
  cases b with
  | true => simp at h
  | false =>
    simp only [Bool.false_eq_true, if_false] at h
    go_enter Tryz.func85, Tryz.ntmps85
    go_wp2_with (first
      | (go_at_call 37; refine (accept_not hr hb).mono ?_; rintro e w1 ⟨rfl, h1⟩)
      | (go_at_call 138; refine (hP.bound h h1.rd).mono ?_; rintro e w2 ⟨T, b, rfl, h2, h3⟩))
    go_ret
    exact ⟨T, b, rfl, h1.trans h2, h3.low h1.kept.size⟩

end Go.Proofs.Tryz

namespace Go.Proofs.Tryz
open Go.RowKit

theorem Rep.left {a b : World} {rb tb B : Nat} {l : List Tok} (k : Left a b rb tb l) (hB : rb < B) {v : Value} {t : Tr} (h : Rep (B ≤ ·) a v t) : Rep (B ≤ ·) b v t := h.kept k.kept hB
theorem Rep.box {a : World} {p : Nat → Prop} (o : Obj) {v : Value} {t : Tr} (h : Rep p a v t) : Rep p (a.alloc o) v t := h.upon (below_alloc _ _)
theorem box_cell (w : World) (cs : Array Value) (T i : Nat) : (w.alloc (.cells cs T)).cell? ⟨w.heap.size, i, none⟩ = cs[i]? := by
  simp
/-- A cell of a block that was made behind a and is not the reader's. -/
theorem Left.cellNew {a b : World} {rb tb : Nat} {l : List Tok} (k : Left a b rb tb l) {n o : Nat} {v : Value} (hn : n ≠ rb) (h : a.cell? ⟨n, o, none⟩ = some v) : b.cell? ⟨n, o, none⟩ = some v :=
  (k.kept.cell (cell_lt h) hn).trans h

def kindAt : List Tok → Option Int
  | t :: _ => some t.kind
  | _ => none

def pSigned (P : Pars) (l : List Tok) : Option (Tr × List Tok) := do
  let b ← sees ⟨#[46]⟩ l
  if b then
    let l1 ← eat ⟨#[46]⟩ l
    let k ← kindAt l1
    if k == 2 then none else some (.ident, l1)
  else
    let b ← sees ⟨#[46, 46]⟩ l
    if b then none else
      let b ← sees ⟨#[40]⟩ l
      if b then
        let l1 ← eat ⟨#[40]⟩ l
        let (f, l2) ← P .filter l1
        let l3 ← eat ⟨#[41]⟩ l2
        some (f, l3)
      else
        let l1 ← eat ⟨#[91]⟩ l
        let b ← sees ⟨#[93]⟩ l1
        if b then none else
          let (f, l2) ← P .filter l1
          let l3 ← eat ⟨#[93]⟩ l2
          some (.collect f, l3)

set_option maxHeartbeats 400000 in
theorem signed_step {P : Pars} (hP : Sound P) {l : List Tok} {t : Tr} {l' : List Tok} {w : World} {rb tb : Nat} (h : pSigned P l = some (t, l')) (hr : Rd w rb tb l) :
    Calls Tryz.prog 283 #[.pointer (some ⟨rb, 0, none⟩)] w (Gives rb tb l' t w) := by
  simp only [pSigned, Option.bind_eq_bind, Option.bind_eq_some_iff] at h
  obtain ⟨b, hb, h⟩ := h
  cases b with
  | true =>
    simp only [if_true, Option.bind_eq_some_iff] at h
    obtain ⟨l1, he, k, hk, h⟩ := h
    split at h
    · simp at h
    rename_i hk2
    simp only [Option.some.injEq, Prod.mk.injEq] at h
    obtain ⟨rfl, rfl⟩ := h
    obtain ⟨t0, u, m, rfl, rfl, ht⟩ := eat_some he
    simp only [kindAt, Option.some.injEq] at hk
    go_enter Tryz.func283, Tryz.ntmps283
    go_wp2_with (first
      | (go_at_call 37; refine (accept_eat hr he).mono ?_; rintro e w1 ⟨rfl, h1⟩; have h1' := h1.rd; obtain ⟨o, c, ⟨c1, c2, c3, c4, c5, c6, ⟨d0, d1, d2, d3⟩⟩⟩ := h1'; simp only [List.length_cons] at c1))
    go_ret
    exact ⟨_, _, rfl, h1.upto (below_alloc _ _), .ident⟩
  | false =>
    simp only [Bool.false_eq_true, if_false, Option.bind_eq_some_iff] at h
    obtain ⟨b, hb2, h⟩ := h
    cases b with
    | true => simp at h
    | false =>
      simp only [Bool.false_eq_true, if_false, Option.bind_eq_some_iff] at h
      obtain ⟨b, hb3, h⟩ := h
      cases b with
      | true =>
        simp only [if_true, Option.bind_eq_some_iff, Prod.exists] at h
        obtain ⟨l1, he, f, l2, hf, l3, he2, h⟩ := h
        simp only [Option.some.injEq, Prod.mk.injEq] at h
        obtain ⟨rfl, rfl⟩ := h
        go_enter Tryz.func283, Tryz.ntmps283
        have hL := Left.of_rd hr
        go_wp2_with (first
          | (go_at_call 37; refine (accept_not (by assumption) (by assumption)).mono ?_; rintro e w1 ⟨rfl, h1⟩; have r1 := h1.rd; have hL := hL.trans h1)
          | (go_at_call 37; refine (accept_eat (by assumption) (by assumption)).mono ?_; rintro e w1 ⟨rfl, h1⟩; have r1 := h1.rd; have hL := hL.trans h1)
          | (go_at_call 16; refine (hP.filter (by assumption) (by assumption)).mono ?_; rintro e w4 ⟨T, b, rfl, h4, r4⟩; have r5 := h4.rd; have hL4 := hL; have hL := hL.trans h4)
          | (go_at_call 84; refine (expect_eat (by assumption) (by assumption)).mono ?_; rintro e w5 ⟨rfl, h5⟩; have hL := hL.trans h5))
        go_ret
        have hs := hL4.kept.size; have hrb := hr.rbs
        exact ⟨_, _, rfl, hL, (r4.left h5 (by omega)).low hs⟩
      | false =>
        simp only [Bool.false_eq_true, if_false, Option.bind_eq_some_iff] at h
        obtain ⟨l1, he, b, hb4, h⟩ := h
        cases b with
        | true => simp at h
        | false =>
          simp only [Bool.false_eq_true, if_false, Option.bind_eq_some_iff, Prod.exists] at h
          obtain ⟨f, l2, hf, l3, he2, h⟩ := h
          simp only [Option.some.injEq, Prod.mk.injEq] at h
          obtain ⟨rfl, rfl⟩ := h
          go_enter Tryz.func283, Tryz.ntmps283
          have hL := Left.of_rd hr
          go_wp2_with (first
            | (go_at_call 37; refine (accept_not (by assumption) (by assumption)).mono ?_; rintro e w1 ⟨rfl, h1⟩; have r1 := h1.rd; have hL := hL.trans h1)
            | (go_at_call 37; refine (accept_eat (by assumption) (by assumption)).mono ?_; rintro e w1 ⟨rfl, h1⟩; have r1 := h1.rd; have hL := hL.trans h1)
            | (go_at_call 16; refine (hP.filter (by assumption) (by assumption)).mono ?_; rintro e w6 ⟨T, b, rfl, h6, r6⟩; have r5 := h6.rd; have hL6 := hL; have hL := hL.trans h6)
            | (go_at_call 84; refine (expect_eat (r5.alloc _) (by assumption)).mono ?_; rintro e w7 ⟨rfl, h7⟩))
          go_ret
          have hrb := hr.rbs
          have hs := hL.kept.size
          have hs6 := hL6.kept.size
          exact ⟨_, _, rfl, hL.trans (h7.from (below_alloc _ _)),
            .collect hs (h7.cellNew (by omega) (box_cell _ _ _ _)) (((r6.box _).left h7 (by omega)).low hs6)⟩

end Go.Proofs.Tryz

