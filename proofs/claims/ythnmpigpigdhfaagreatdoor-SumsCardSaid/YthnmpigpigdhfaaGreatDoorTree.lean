import Derived.Test.YthnmpigpigdhfaaGreatDoorToks
set_option linter.all false
namespace Go.Proofs.Tryz
open Go.RowKit

/-- The filters of Sums and of the definitions that there are, as trees. -/
inductive Tr where
  | ident
  | num (n : Int)
  | null
  | bool (b : Bool)
  | var (name : ByteArray) (pos : Int)
  | index (a b : Tr)
  | each (a : Tr)
  | collect (a : Tr)
  | call0 (name : ByteArray) (pos : Int)
  | call1 (name : ByteArray) (a : Tr) (pos : Int)
  | call2 (name : ByteArray) (a b : Tr) (pos : Int)
  | bin (a : Tr) (op : ByteArray) (b : Tr)
  | tries (a b : Tr)
  | red (src : Tr) (v : ByteArray) (s h : Tr)
  | ite (c a b : Tr)
  | def1 (name p : ByteArray) (body rest : Tr)
  | def2 (name p q : ByteArray) (body rest : Tr)

/-- How a tree lies in memory; every block of it is one of which p holds. -/
inductive Rep (p : Nat → Prop) (w : World) : Value → Tr → Prop
  | ident {b : Nat} : Rep p w (.iface 115 (.pointer (some ⟨b, 0, none⟩))) .ident
  | num {b : Nat} {n : Int} : p b → w.cell? ⟨b, 0, none⟩ = some (.iface 228 (.int .i64 n)) → Rep p w (.iface 230 (.pointer (some ⟨b, 0, none⟩))) (.num n)
  | null {b : Nat} : p b → w.cell? ⟨b, 0, none⟩ = some (.iface 194 (.agg #[])) → Rep p w (.iface 230 (.pointer (some ⟨b, 0, none⟩))) .null
  | bool {b : Nat} {x : Bool} : p b → w.cell? ⟨b, 0, none⟩ = some (.iface 195 (.bool x)) → Rep p w (.iface 230 (.pointer (some ⟨b, 0, none⟩))) (.bool x)
  | var {b : Nat} {name : ByteArray} {pos : Int} : p b → w.cell? ⟨b, 0, none⟩ = some (.string name) → w.cell? ⟨b, 1, none⟩ = some (.int .i64 pos) →
      Rep p w (.iface 233 (.pointer (some ⟨b, 0, none⟩))) (.var name pos)
  | index {b : Nat} {x y : Value} {s t : Tr} : p b → w.cell? ⟨b, 0, none⟩ = some x → w.cell? ⟨b, 1, none⟩ = some y → Rep p w x s → Rep p w y t →
      Rep p w (.iface 125 (.pointer (some ⟨b, 0, none⟩))) (.index s t)
  | each {b : Nat} {x : Value} {s : Tr} : p b → w.cell? ⟨b, 0, none⟩ = some x → Rep p w x s → Rep p w (.iface 130 (.pointer (some ⟨b, 0, none⟩))) (.each s)
  | collect {b : Nat} {x : Value} {s : Tr} : p b → w.cell? ⟨b, 0, none⟩ = some x → Rep p w x s → Rep p w (.iface 236 (.pointer (some ⟨b, 0, none⟩))) (.collect s)
  | call0 {b : Nat} {name : ByteArray} {pos : Int} : p b → w.cell? ⟨b, 0, none⟩ = some (.string name) → w.cell? ⟨b, 1, none⟩ = some (.slice none 0 0) → w.cell? ⟨b, 2, none⟩ = some (.int .i64 pos) →
      Rep p w (.iface 160 (.pointer (some ⟨b, 0, none⟩))) (.call0 name pos)
  | call1 {b d o c : Nat} {name : ByteArray} {pos : Int} {x : Value} {s : Tr} : p b → p d → w.cell? ⟨b, 0, none⟩ = some (.string name) → w.cell? ⟨b, 1, none⟩ = some (.slice (some ⟨d, o, none⟩) 1 c) → w.cell? ⟨b, 2, none⟩ = some (.int .i64 pos) →
      w.cell? ⟨d, o, none⟩ = some x → Rep p w x s → Rep p w (.iface 160 (.pointer (some ⟨b, 0, none⟩))) (.call1 name s pos)
  | call2 {b d o c : Nat} {name : ByteArray} {pos : Int} {x y : Value} {s t : Tr} : p b → p d → w.cell? ⟨b, 0, none⟩ = some (.string name) → w.cell? ⟨b, 1, none⟩ = some (.slice (some ⟨d, o, none⟩) 2 c) → w.cell? ⟨b, 2, none⟩ = some (.int .i64 pos) →
      w.cell? ⟨d, o, none⟩ = some x → w.cell? ⟨d, o + 1, none⟩ = some y → Rep p w x s → Rep p w y t → Rep p w (.iface 160 (.pointer (some ⟨b, 0, none⟩))) (.call2 name s t pos)
  | bin {b : Nat} {x y : Value} {s t : Tr} {op : ByteArray} : p b → w.cell? ⟨b, 0, none⟩ = some x → w.cell? ⟨b, 1, none⟩ = some (.string op) → w.cell? ⟨b, 2, none⟩ = some y → Rep p w x s → Rep p w y t →
      Rep p w (.iface 162 (.pointer (some ⟨b, 0, none⟩))) (.bin s op t)
  | tries {b : Nat} {x y : Value} {s t : Tr} : p b → w.cell? ⟨b, 0, none⟩ = some x → w.cell? ⟨b, 1, none⟩ = some y → Rep p w x s → Rep p w y t →
      Rep p w (.iface 136 (.pointer (some ⟨b, 0, none⟩))) (.tries s t)
  | red {b : Nat} {x y z : Value} {s t u : Tr} {v : ByteArray} : p b → w.cell? ⟨b, 0, none⟩ = some x → w.cell? ⟨b, 1, none⟩ = some (.string v) → w.cell? ⟨b, 2, none⟩ = some y → w.cell? ⟨b, 3, none⟩ = some z → Rep p w x s → Rep p w y t → Rep p w z u →
      Rep p w (.iface 155 (.pointer (some ⟨b, 0, none⟩))) (.red s v t u)
  | ite {b : Nat} {x y z : Value} {s t u : Tr} : p b → w.cell? ⟨b, 0, none⟩ = some x → w.cell? ⟨b, 1, none⟩ = some y → w.cell? ⟨b, 2, none⟩ = some z → Rep p w x s → Rep p w y t → Rep p w z u →
      Rep p w (.iface 149 (.pointer (some ⟨b, 0, none⟩))) (.ite s t u)
  | def1 {b d o c : Nat} {name q : ByteArray} {x y : Value} {s t : Tr} : p b → p d → w.cell? ⟨b, 0, none⟩ = some (.string name) → w.cell? ⟨b, 1, none⟩ = some (.slice (some ⟨d, o, none⟩) 1 c) → w.cell? ⟨d, o, none⟩ = some (.string q) →
      w.cell? ⟨b, 2, none⟩ = some x → w.cell? ⟨b, 3, none⟩ = some y → Rep p w x s → Rep p w y t → Rep p w (.iface 110 (.pointer (some ⟨b, 0, none⟩))) (.def1 name q s t)
  | def2 {b d o c : Nat} {name q r : ByteArray} {x y : Value} {s t : Tr} : p b → p d → w.cell? ⟨b, 0, none⟩ = some (.string name) → w.cell? ⟨b, 1, none⟩ = some (.slice (some ⟨d, o, none⟩) 2 c) → w.cell? ⟨d, o, none⟩ = some (.string q) → w.cell? ⟨d, o + 1, none⟩ = some (.string r) →
      w.cell? ⟨b, 2, none⟩ = some x → w.cell? ⟨b, 3, none⟩ = some y → Rep p w x s → Rep p w y t → Rep p w (.iface 110 (.pointer (some ⟨b, 0, none⟩))) (.def2 name q r s t)

theorem Rep.to {p q : Nat → Prop} {w w' : World} (hq : ∀ b o v, p b → w.cell? ⟨b, o, none⟩ = some v → q b ∧ w'.cell? ⟨b, o, none⟩ = some v) {v : Value} {t : Tr} (h : Rep p w v t) : Rep q w' v t := by
  induction h with
  | ident => exact .ident
  | num a b => exact .num (hq _ _ _ a b).1 (hq _ _ _ a b).2
  | null a b => exact .null (hq _ _ _ a b).1 (hq _ _ _ a b).2
  | bool a b => exact .bool (hq _ _ _ a b).1 (hq _ _ _ a b).2
  | var a b c => exact .var (hq _ _ _ a b).1 (hq _ _ _ a b).2 (hq _ _ _ a c).2
  | index a b c _ _ h1 h2 => exact .index (hq _ _ _ a b).1 (hq _ _ _ a b).2 (hq _ _ _ a c).2 h1 h2
  | each a b _ h1 => exact .each (hq _ _ _ a b).1 (hq _ _ _ a b).2 h1
  | collect a b _ h1 => exact .collect (hq _ _ _ a b).1 (hq _ _ _ a b).2 h1
  | call0 a b c d => exact .call0 (hq _ _ _ a b).1 (hq _ _ _ a b).2 (hq _ _ _ a c).2 (hq _ _ _ a d).2
  | call1 a a' b c d e _ h1 => exact .call1 (hq _ _ _ a b).1 (hq _ _ _ a' e).1 (hq _ _ _ a b).2 (hq _ _ _ a c).2 (hq _ _ _ a d).2 (hq _ _ _ a' e).2 h1
  | call2 a a' b c d e f _ _ h1 h2 => exact .call2 (hq _ _ _ a b).1 (hq _ _ _ a' e).1 (hq _ _ _ a b).2 (hq _ _ _ a c).2 (hq _ _ _ a d).2 (hq _ _ _ a' e).2 (hq _ _ _ a' f).2 h1 h2
  | bin a b c d _ _ h1 h2 => exact .bin (hq _ _ _ a b).1 (hq _ _ _ a b).2 (hq _ _ _ a c).2 (hq _ _ _ a d).2 h1 h2
  | tries a b c _ _ h1 h2 => exact .tries (hq _ _ _ a b).1 (hq _ _ _ a b).2 (hq _ _ _ a c).2 h1 h2
  | red a b c d e _ _ _ h1 h2 h3 => exact .red (hq _ _ _ a b).1 (hq _ _ _ a b).2 (hq _ _ _ a c).2 (hq _ _ _ a d).2 (hq _ _ _ a e).2 h1 h2 h3
  | ite a b c d _ _ _ h1 h2 h3 => exact .ite (hq _ _ _ a b).1 (hq _ _ _ a b).2 (hq _ _ _ a c).2 (hq _ _ _ a d).2 h1 h2 h3
  | def1 a a' b c d e f _ _ h1 h2 => exact .def1 (hq _ _ _ a b).1 (hq _ _ _ a' d).1 (hq _ _ _ a b).2 (hq _ _ _ a c).2 (hq _ _ _ a' d).2 (hq _ _ _ a e).2 (hq _ _ _ a f).2 h1 h2
  | def2 a a' b c d d' e f _ _ h1 h2 => exact .def2 (hq _ _ _ a b).1 (hq _ _ _ a' d).1 (hq _ _ _ a b).2 (hq _ _ _ a c).2 (hq _ _ _ a' d).2 (hq _ _ _ a' d').2 (hq _ _ _ a e).2 (hq _ _ _ a f).2 h1 h2

theorem Rep.kept {r B : Nat} {w w' : World} (k : Kept r w w') (hB : r < B) {v : Value} {t : Tr} (h : Rep (B ≤ ·) w v t) : Rep (B ≤ ·) w' v t :=
  h.to fun b _ _ hb hv => ⟨hb, (k.cell (cell_lt hv) (by have : B ≤ b := hb; omega)).trans hv⟩
theorem Rep.low {B B' : Nat} {w : World} (hB : B' ≤ B) {v : Value} {t : Tr} (h : Rep (B ≤ ·) w v t) : Rep (B' ≤ ·) w v t :=
  h.to fun _ _ _ hb hv => ⟨Nat.le_trans hB hb, hv⟩
theorem Rep.setOld {B N o : Nat} {w : World} (hN : N < B) {u v : Value} {t : Tr} (h : Rep (B ≤ ·) w v t) : Rep (B ≤ ·) (w.setCell ⟨N, o, none⟩ u) v t :=
  h.to fun b _ _ hb hv => ⟨hb, (World.cell?_of_block (w := w) (Below.heap_setCell _ _ _ _ (by have : B ≤ b := hb; simp; omega))).trans hv⟩
theorem Rep.upon {p : Nat → Prop} {w w' : World} (k : Below w.heap.size w w') {v : Value} {t : Tr} (h : Rep p w v t) : Rep p w' v t :=
  h.to fun b o _ hb hv => ⟨hb, (k.cell (p := ⟨b, o, none⟩) (cell_lt hv)).trans hv⟩

/-- What a call of the reader leaves and gives. -/
def Gives (rb tb : Nat) (l : List Tok) (t : Tr) (w : World) (e : Ending) (w' : World) : Prop :=
  ∃ T b, e = .returned (.iface T (.pointer (some ⟨b, 0, none⟩))) ∧ Left w w' rb tb l ∧ Rep (w.heap.size ≤ ·) w' (.iface T (.pointer (some ⟨b, 0, none⟩))) t

/-- The reader's functions. -/
inductive Cat where
  | filter | oper (loosest : Int) | minus | bound | pfix | primary

abbrev Cat.fn : Cat → FuncId
  | .filter => 16
  | .oper _ => 35
  | .minus => 85
  | .bound => 145
  | .pfix => 201
  | .primary => 246
abbrev Cat.args (rb : Nat) : Cat → Array Value
  | .oper r => #[.pointer (some ⟨rb, 0, none⟩), .int .u8 r]
  | _ => #[.pointer (some ⟨rb, 0, none⟩)]

abbrev Pars := Cat → List Tok → Option (Tr × List Tok)

/-- The functions do as P says, wherever P says something. -/
def Sound (P : Pars) : Prop := ∀ (c : Cat) (l : List Tok) (t : Tr) (l' : List Tok) (w : World) (rb tb : Nat), P c l = some (t, l') → Rd w rb tb l →
  Calls Tryz.prog c.fn (c.args rb) w (Gives rb tb l' t w)

theorem Sound.minus {P : Pars} (h : Sound P) {l : List Tok} {t : Tr} {l' : List Tok} {w : World} {rb tb : Nat} (e : P .minus l = some (t, l')) (r : Rd w rb tb l) :
    Calls Tryz.prog 85 #[.pointer (some ⟨rb, 0, none⟩)] w (Gives rb tb l' t w) := h .minus l t l' w rb tb e r
theorem Sound.filter {P : Pars} (h : Sound P) {l : List Tok} {t : Tr} {l' : List Tok} {w : World} {rb tb : Nat} (e : P .filter l = some (t, l')) (r : Rd w rb tb l) :
    Calls Tryz.prog 16 #[.pointer (some ⟨rb, 0, none⟩)] w (Gives rb tb l' t w) := h .filter l t l' w rb tb e r
theorem Sound.oper {P : Pars} (h : Sound P) {r : Int} {l : List Tok} {t : Tr} {l' : List Tok} {w : World} {rb tb : Nat} (e : P (.oper r) l = some (t, l')) (hr : Rd w rb tb l) :
    Calls Tryz.prog 35 #[.pointer (some ⟨rb, 0, none⟩), .int .u8 r] w (Gives rb tb l' t w) := h (.oper r) l t l' w rb tb e hr
theorem Sound.bound {P : Pars} (h : Sound P) {l : List Tok} {t : Tr} {l' : List Tok} {w : World} {rb tb : Nat} (e : P .bound l = some (t, l')) (r : Rd w rb tb l) :
    Calls Tryz.prog 145 #[.pointer (some ⟨rb, 0, none⟩)] w (Gives rb tb l' t w) := h .bound l t l' w rb tb e r
theorem Sound.pfix {P : Pars} (h : Sound P) {l : List Tok} {t : Tr} {l' : List Tok} {w : World} {rb tb : Nat} (e : P .pfix l = some (t, l')) (r : Rd w rb tb l) :
    Calls Tryz.prog 201 #[.pointer (some ⟨rb, 0, none⟩)] w (Gives rb tb l' t w) := h .pfix l t l' w rb tb e r
theorem Sound.primary {P : Pars} (h : Sound P) {l : List Tok} {t : Tr} {l' : List Tok} {w : World} {rb tb : Nat} (e : P .primary l = some (t, l')) (r : Rd w rb tb l) :
    Calls Tryz.prog 246 #[.pointer (some ⟨rb, 0, none⟩)] w (Gives rb tb l' t w) := h .primary l t l' w rb tb e r

end Go.Proofs.Tryz

