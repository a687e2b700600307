import Derived.Test.YtjablghahhhdhaaGreatDoorToks
set_option linter.all false
namespace Go.Proofs.Tryz
open Go.RowKit

/-- What a node of a tree bears. -/
structure Pay where
  s : ByteArray
  q : ByteArray
  r : ByteArray
  n : Int
  b : Bool
def e0 : ByteArray := ⟨#[]⟩
/-- The filters of Sums and of the definitions that there are, as trees: a node's kind, then what it bears and the trees below. -/
abbrev Tr := Ask Pay
def Tr.no : Tr := .done ⟨e0, e0, e0, 0, false⟩
def Tr.nd (kind : Nat) (y : Pay) (a b c : Tr) : Tr := .ask "" kind fun i => match i with
  | 0 => .done y
  | 1 => a
  | 2 => b
  | _ => c
def payOf : Tr → Pay
  | .done y => y
  | .ask _ _ _ => ⟨e0, e0, e0, 0, false⟩
def Tr.ident : Tr := Tr.nd 0 ⟨e0, e0, e0, 0, false⟩ Tr.no Tr.no Tr.no
def Tr.num (n : Int) : Tr := Tr.nd 1 ⟨e0, e0, e0, n, false⟩ Tr.no Tr.no Tr.no
def Tr.null : Tr := Tr.nd 2 ⟨e0, e0, e0, 0, false⟩ Tr.no Tr.no Tr.no
def Tr.bool (x : Bool) : Tr := Tr.nd 3 ⟨e0, e0, e0, 0, x⟩ Tr.no Tr.no Tr.no
def Tr.var (name : ByteArray) (pos : Int) : Tr := Tr.nd 4 ⟨name, e0, e0, pos, false⟩ Tr.no Tr.no Tr.no
def Tr.index (s : Tr) (t : Tr) : Tr := Tr.nd 5 ⟨e0, e0, e0, 0, false⟩ s t Tr.no
def Tr.each (s : Tr) : Tr := Tr.nd 6 ⟨e0, e0, e0, 0, false⟩ s Tr.no Tr.no
def Tr.collect (s : Tr) : Tr := Tr.nd 7 ⟨e0, e0, e0, 0, false⟩ s Tr.no Tr.no
def Tr.call0 (name : ByteArray) (pos : Int) : Tr := Tr.nd 8 ⟨name, e0, e0, pos, false⟩ Tr.no Tr.no Tr.no
def Tr.call1 (name : ByteArray) (s : Tr) (pos : Int) : Tr := Tr.nd 9 ⟨name, e0, e0, pos, false⟩ s Tr.no Tr.no
def Tr.call2 (name : ByteArray) (s : Tr) (t : Tr) (pos : Int) : Tr := Tr.nd 10 ⟨name, e0, e0, pos, false⟩ s t Tr.no
def Tr.bin (s : Tr) (op : ByteArray) (t : Tr) : Tr := Tr.nd 11 ⟨op, e0, e0, 0, false⟩ s t Tr.no
def Tr.tries (s : Tr) (t : Tr) : Tr := Tr.nd 12 ⟨e0, e0, e0, 0, false⟩ s t Tr.no
def Tr.red (s : Tr) (vn : ByteArray) (t : Tr) (u : Tr) : Tr := Tr.nd 13 ⟨vn, e0, e0, 0, false⟩ s t u
def Tr.ite (s : Tr) (t : Tr) (u : Tr) : Tr := Tr.nd 14 ⟨e0, e0, e0, 0, false⟩ s t u
def Tr.def1 (name : ByteArray) (q : ByteArray) (s : Tr) (t : Tr) : Tr := Tr.nd 15 ⟨name, q, e0, 0, false⟩ s t Tr.no
def Tr.def2 (name : ByteArray) (q : ByteArray) (r : ByteArray) (s : Tr) (t : Tr) : Tr := Tr.nd 16 ⟨name, q, r, 0, false⟩ s t Tr.no

/-- How a tree lies in memory; every block of it is one of which p holds. -/
def Rep (p : Nat → Prop) (w : World) : Value → Tr → Prop
  | _, .done _ => False
  | v, .ask _ kind k => match kind with
    | 0 => ∃ (b : Nat), v = .iface 125 (.pointer (some ⟨b, 0, none⟩))
    | 1 => ∃ (b : Nat), v = .iface 224 (.pointer (some ⟨b, 0, none⟩)) ∧ p b ∧ w.cell? ⟨b, 0, none⟩ = some (.iface 98 (.int .i64 (payOf (k 0)).n))
    | 2 => ∃ (b : Nat), v = .iface 224 (.pointer (some ⟨b, 0, none⟩)) ∧ p b ∧ w.cell? ⟨b, 0, none⟩ = some (.iface 95 (.agg #[]))
    | 3 => ∃ (b : Nat), v = .iface 224 (.pointer (some ⟨b, 0, none⟩)) ∧ p b ∧ w.cell? ⟨b, 0, none⟩ = some (.iface 96 (.bool (payOf (k 0)).b))
    | 4 => ∃ (b : Nat), v = .iface 227 (.pointer (some ⟨b, 0, none⟩)) ∧ p b ∧ w.cell? ⟨b, 0, none⟩ = some (.string (payOf (k 0)).s) ∧ w.cell? ⟨b, 1, none⟩ = some (.int .i64 (payOf (k 0)).n)
    | 5 => ∃ (b : Nat) (x y : Value), v = .iface 134 (.pointer (some ⟨b, 0, none⟩)) ∧ p b ∧ w.cell? ⟨b, 0, none⟩ = some x ∧ w.cell? ⟨b, 1, none⟩ = some y ∧ Rep p w x (k 1) ∧ Rep p w y (k 2)
    | 6 => ∃ (b : Nat) (x : Value), v = .iface 139 (.pointer (some ⟨b, 0, none⟩)) ∧ p b ∧ w.cell? ⟨b, 0, none⟩ = some x ∧ Rep p w x (k 1)
    | 7 => ∃ (b : Nat) (x : Value), v = .iface 230 (.pointer (some ⟨b, 0, none⟩)) ∧ p b ∧ w.cell? ⟨b, 0, none⟩ = some x ∧ Rep p w x (k 1)
    | 8 => ∃ (b : Nat), v = .iface 169 (.pointer (some ⟨b, 0, none⟩)) ∧ p b ∧ w.cell? ⟨b, 0, none⟩ = some (.string (payOf (k 0)).s) ∧ w.cell? ⟨b, 1, none⟩ = some (.slice none 0 0) ∧ w.cell? ⟨b, 2, none⟩ = some (.int .i64 (payOf (k 0)).n)
    | 9 => ∃ (b d o c : Nat) (x : Value), v = .iface 169 (.pointer (some ⟨b, 0, none⟩)) ∧ p b ∧ p d ∧ w.cell? ⟨b, 0, none⟩ = some (.string (payOf (k 0)).s) ∧ w.cell? ⟨b, 1, none⟩ = some (.slice (some ⟨d, o, none⟩) 1 c) ∧ w.cell? ⟨b, 2, none⟩ = some (.int .i64 (payOf (k 0)).n) ∧ w.cell? ⟨d, o, none⟩ = some x ∧ Rep p w x (k 1)
    | 10 => ∃ (b d o c : Nat) (x y : Value), v = .iface 169 (.pointer (some ⟨b, 0, none⟩)) ∧ p b ∧ p d ∧ w.cell? ⟨b, 0, none⟩ = some (.string (payOf (k 0)).s) ∧ w.cell? ⟨b, 1, none⟩ = some (.slice (some ⟨d, o, none⟩) 2 c) ∧ w.cell? ⟨b, 2, none⟩ = some (.int .i64 (payOf (k 0)).n) ∧ w.cell? ⟨d, o, none⟩ = some x ∧ w.cell? ⟨d, o + 1, none⟩ = some y ∧ Rep p w x (k 1) ∧ Rep p w y (k 2)
    | 11 => ∃ (b : Nat) (x y : Value), v = .iface 171 (.pointer (some ⟨b, 0, none⟩)) ∧ p b ∧ w.cell? ⟨b, 0, none⟩ = some x ∧ w.cell? ⟨b, 1, none⟩ = some (.string (payOf (k 0)).s) ∧ w.cell? ⟨b, 2, none⟩ = some y ∧ Rep p w x (k 1) ∧ Rep p w y (k 2)
    | 12 => ∃ (b : Nat) (x y : Value), v = .iface 145 (.pointer (some ⟨b, 0, none⟩)) ∧ p b ∧ w.cell? ⟨b, 0, none⟩ = some x ∧ w.cell? ⟨b, 1, none⟩ = some y ∧ Rep p w x (k 1) ∧ Rep p w y (k 2)
    | 13 => ∃ (b : Nat) (x y z : Value), v = .iface 164 (.pointer (some ⟨b, 0, none⟩)) ∧ p b ∧ w.cell? ⟨b, 0, none⟩ = some x ∧ w.cell? ⟨b, 1, none⟩ = some (.string (payOf (k 0)).s) ∧ w.cell? ⟨b, 2, none⟩ = some y ∧ w.cell? ⟨b, 3, none⟩ = some z ∧ Rep p w x (k 1) ∧ Rep p w y (k 2) ∧ Rep p w z (k 3)
    | 14 => ∃ (b : Nat) (x y z : Value), v = .iface 158 (.pointer (some ⟨b, 0, none⟩)) ∧ p b ∧ w.cell? ⟨b, 0, none⟩ = some x ∧ w.cell? ⟨b, 1, none⟩ = some y ∧ w.cell? ⟨b, 2, none⟩ = some z ∧ Rep p w x (k 1) ∧ Rep p w y (k 2) ∧ Rep p w z (k 3)
    | 15 => ∃ (b d o c : Nat) (x y : Value), v = .iface 120 (.pointer (some ⟨b, 0, none⟩)) ∧ p b ∧ p d ∧ w.cell? ⟨b, 0, none⟩ = some (.string (payOf (k 0)).s) ∧ w.cell? ⟨b, 1, none⟩ = some (.slice (some ⟨d, o, none⟩) 1 c) ∧ w.cell? ⟨d, o, none⟩ = some (.string (payOf (k 0)).q) ∧ w.cell? ⟨b, 2, none⟩ = some x ∧ w.cell? ⟨b, 3, none⟩ = some y ∧ Rep p w x (k 1) ∧ Rep p w y (k 2)
    | 16 => ∃ (b d o c : Nat) (x y : Value), v = .iface 120 (.pointer (some ⟨b, 0, none⟩)) ∧ p b ∧ p d ∧ w.cell? ⟨b, 0, none⟩ = some (.string (payOf (k 0)).s) ∧ w.cell? ⟨b, 1, none⟩ = some (.slice (some ⟨d, o, none⟩) 2 c) ∧ w.cell? ⟨d, o, none⟩ = some (.string (payOf (k 0)).q) ∧ w.cell? ⟨d, o + 1, none⟩ = some (.string (payOf (k 0)).r) ∧ w.cell? ⟨b, 2, none⟩ = some x ∧ w.cell? ⟨b, 3, none⟩ = some y ∧ Rep p w x (k 1) ∧ Rep p w y (k 2)
    | _ => False
theorem Rep.ident_of {p : Nat → Prop} {w : World} {v : Value} (h : Rep p w v (Tr.ident)) : ∃ (b : Nat), v = .iface 125 (.pointer (some ⟨b, 0, none⟩)) := h
theorem Rep.ident {p : Nat → Prop} {w : World} {b : Nat} : Rep p w (.iface 125 (.pointer (some ⟨b, 0, none⟩))) (Tr.ident) :=
  (show ∃ (b' : Nat), Value.iface 125 (.pointer (some ⟨b, 0, none⟩)) = .iface 125 (.pointer (some ⟨b', 0, none⟩)) from ⟨b, rfl⟩)
theorem Rep.num_of {p : Nat → Prop} {w : World} {v : Value} {n : Int} (h : Rep p w v (Tr.num n)) : ∃ (b : Nat), v = .iface 224 (.pointer (some ⟨b, 0, none⟩)) ∧ p b ∧ w.cell? ⟨b, 0, none⟩ = some (.iface 98 (.int .i64 n)) := h
theorem Rep.num {p : Nat → Prop} {w : World} {b : Nat} {n : Int} (h0 : p b) (h1 : w.cell? ⟨b, 0, none⟩ = some (.iface 98 (.int .i64 n))) : Rep p w (.iface 224 (.pointer (some ⟨b, 0, none⟩))) (Tr.num n) :=
  (show ∃ (b' : Nat), Value.iface 224 (.pointer (some ⟨b, 0, none⟩)) = .iface 224 (.pointer (some ⟨b', 0, none⟩)) ∧ p b' ∧ w.cell? ⟨b', 0, none⟩ = some (.iface 98 (.int .i64 n)) from ⟨b, rfl, h0, h1⟩)
theorem Rep.null_of {p : Nat → Prop} {w : World} {v : Value} (h : Rep p w v (Tr.null)) : ∃ (b : Nat), v = .iface 224 (.pointer (some ⟨b, 0, none⟩)) ∧ p b ∧ w.cell? ⟨b, 0, none⟩ = some (.iface 95 (.agg #[])) := h
theorem Rep.null {p : Nat → Prop} {w : World} {b : Nat} (h0 : p b) (h1 : w.cell? ⟨b, 0, none⟩ = some (.iface 95 (.agg #[]))) : Rep p w (.iface 224 (.pointer (some ⟨b, 0, none⟩))) (Tr.null) :=
  (show ∃ (b' : Nat), Value.iface 224 (.pointer (some ⟨b, 0, none⟩)) = .iface 224 (.pointer (some ⟨b', 0, none⟩)) ∧ p b' ∧ w.cell? ⟨b', 0, none⟩ = some (.iface 95 (.agg #[])) from ⟨b, rfl, h0, h1⟩)
theorem Rep.bool_of {p : Nat → Prop} {w : World} {v : Value} {x : Bool} (h : Rep p w v (Tr.bool x)) : ∃ (b : Nat), v = .iface 224 (.pointer (some ⟨b, 0, none⟩)) ∧ p b ∧ w.cell? ⟨b, 0, none⟩ = some (.iface 96 (.bool x)) := h
theorem Rep.bool {p : Nat → Prop} {w : World} {b : Nat} {x : Bool} (h0 : p b) (h1 : w.cell? ⟨b, 0, none⟩ = some (.iface 96 (.bool x))) : Rep p w (.iface 224 (.pointer (some ⟨b, 0, none⟩))) (Tr.bool x) :=
  (show ∃ (b' : Nat), Value.iface 224 (.pointer (some ⟨b, 0, none⟩)) = .iface 224 (.pointer (some ⟨b', 0, none⟩)) ∧ p b' ∧ w.cell? ⟨b', 0, none⟩ = some (.iface 96 (.bool x)) from ⟨b, rfl, h0, h1⟩)
theorem Rep.var_of {p : Nat → Prop} {w : World} {v : Value} {name : ByteArray} {pos : Int} (h : Rep p w v (Tr.var name pos)) : ∃ (b : Nat), v = .iface 227 (.pointer (some ⟨b, 0, none⟩)) ∧ p b ∧ w.cell? ⟨b, 0, none⟩ = some (.string name) ∧ w.cell? ⟨b, 1, none⟩ = some (.int .i64 pos) := h
theorem Rep.var {p : Nat → Prop} {w : World} {b : Nat} {name : ByteArray} {pos : Int} (h0 : p b) (h1 : w.cell? ⟨b, 0, none⟩ = some (.string name)) (h2 : w.cell? ⟨b, 1, none⟩ = some (.int .i64 pos)) : Rep p w (.iface 227 (.pointer (some ⟨b, 0, none⟩))) (Tr.var name pos) :=
  (show ∃ (b' : Nat), Value.iface 227 (.pointer (some ⟨b, 0, none⟩)) = .iface 227 (.pointer (some ⟨b', 0, none⟩)) ∧ p b' ∧ w.cell? ⟨b', 0, none⟩ = some (.string name) ∧ w.cell? ⟨b', 1, none⟩ = some (.int .i64 pos) from ⟨b, rfl, h0, h1, h2⟩)
theorem Rep.index_of {p : Nat → Prop} {w : World} {v : Value} {s : Tr} {t : Tr} (h : Rep p w v (Tr.index s t)) : ∃ (b : Nat) (x y : Value), v = .iface 134 (.pointer (some ⟨b, 0, none⟩)) ∧ p b ∧ w.cell? ⟨b, 0, none⟩ = some x ∧ w.cell? ⟨b, 1, none⟩ = some y ∧ Rep p w x s ∧ Rep p w y t := h
theorem Rep.index {p : Nat → Prop} {w : World} {b : Nat} {x y : Value} {s : Tr} {t : Tr} (h0 : p b) (h1 : w.cell? ⟨b, 0, none⟩ = some x) (h2 : w.cell? ⟨b, 1, none⟩ = some y) (h3 : Rep p w x s) (h4 : Rep p w y t) : Rep p w (.iface 134 (.pointer (some ⟨b, 0, none⟩))) (Tr.index s t) :=
  (show ∃ (b' : Nat) (x' y' : Value), Value.iface 134 (.pointer (some ⟨b, 0, none⟩)) = .iface 134 (.pointer (some ⟨b', 0, none⟩)) ∧ p b' ∧ w.cell? ⟨b', 0, none⟩ = some x' ∧ w.cell? ⟨b', 1, none⟩ = some y' ∧ Rep p w x' s ∧ Rep p w y' t from ⟨b, x, y, rfl, h0, h1, h2, h3, h4⟩)
theorem Rep.each_of {p : Nat → Prop} {w : World} {v : Value} {s : Tr} (h : Rep p w v (Tr.each s)) : ∃ (b : Nat) (x : Value), v = .iface 139 (.pointer (some ⟨b, 0, none⟩)) ∧ p b ∧ w.cell? ⟨b, 0, none⟩ = some x ∧ Rep p w x s := h
theorem Rep.each {p : Nat → Prop} {w : World} {b : Nat} {x : Value} {s : Tr} (h0 : p b) (h1 : w.cell? ⟨b, 0, none⟩ = some x) (h2 : Rep p w x s) : Rep p w (.iface 139 (.pointer (some ⟨b, 0, none⟩))) (Tr.each s) :=
  (show ∃ (b' : Nat) (x' : Value), Value.iface 139 (.pointer (some ⟨b, 0, none⟩)) = .iface 139 (.pointer (some ⟨b', 0, none⟩)) ∧ p b' ∧ w.cell? ⟨b', 0, none⟩ = some x' ∧ Rep p w x' s from ⟨b, x, rfl, h0, h1, h2⟩)
theorem Rep.collect_of {p : Nat → Prop} {w : World} {v : Value} {s : Tr} (h : Rep p w v (Tr.collect s)) : ∃ (b : Nat) (x : Value), v = .iface 230 (.pointer (some ⟨b, 0, none⟩)) ∧ p b ∧ w.cell? ⟨b, 0, none⟩ = some x ∧ Rep p w x s := h
theorem Rep.collect {p : Nat → Prop} {w : World} {b : Nat} {x : Value} {s : Tr} (h0 : p b) (h1 : w.cell? ⟨b, 0, none⟩ = some x) (h2 : Rep p w x s) : Rep p w (.iface 230 (.pointer (some ⟨b, 0, none⟩))) (Tr.collect s) :=
  (show ∃ (b' : Nat) (x' : Value), Value.iface 230 (.pointer (some ⟨b, 0, none⟩)) = .iface 230 (.pointer (some ⟨b', 0, none⟩)) ∧ p b' ∧ w.cell? ⟨b', 0, none⟩ = some x' ∧ Rep p w x' s from ⟨b, x, rfl, h0, h1, h2⟩)
theorem Rep.call0_of {p : Nat → Prop} {w : World} {v : Value} {name : ByteArray} {pos : Int} (h : Rep p w v (Tr.call0 name pos)) : ∃ (b : Nat), v = .iface 169 (.pointer (some ⟨b, 0, none⟩)) ∧ p b ∧ w.cell? ⟨b, 0, none⟩ = some (.string name) ∧ w.cell? ⟨b, 1, none⟩ = some (.slice none 0 0) ∧ w.cell? ⟨b, 2, none⟩ = some (.int .i64 pos) := h
theorem Rep.call0 {p : Nat → Prop} {w : World} {b : Nat} {name : ByteArray} {pos : Int} (h0 : p b) (h1 : w.cell? ⟨b, 0, none⟩ = some (.string name)) (h2 : w.cell? ⟨b, 1, none⟩ = some (.slice none 0 0)) (h3 : w.cell? ⟨b, 2, none⟩ = some (.int .i64 pos)) : Rep p w (.iface 169 (.pointer (some ⟨b, 0, none⟩))) (Tr.call0 name pos) :=
  (show ∃ (b' : Nat), Value.iface 169 (.pointer (some ⟨b, 0, none⟩)) = .iface 169 (.pointer (some ⟨b', 0, none⟩)) ∧ p b' ∧ w.cell? ⟨b', 0, none⟩ = some (.string name) ∧ w.cell? ⟨b', 1, none⟩ = some (.slice none 0 0) ∧ w.cell? ⟨b', 2, none⟩ = some (.int .i64 pos) from ⟨b, rfl, h0, h1, h2, h3⟩)
theorem Rep.call1_of {p : Nat → Prop} {w : World} {v : Value} {name : ByteArray} {s : Tr} {pos : Int} (h : Rep p w v (Tr.call1 name s pos)) : ∃ (b d o c : Nat) (x : Value), v = .iface 169 (.pointer (some ⟨b, 0, none⟩)) ∧ p b ∧ p d ∧ w.cell? ⟨b, 0, none⟩ = some (.string name) ∧ w.cell? ⟨b, 1, none⟩ = some (.slice (some ⟨d, o, none⟩) 1 c) ∧ w.cell? ⟨b, 2, none⟩ = some (.int .i64 pos) ∧ w.cell? ⟨d, o, none⟩ = some x ∧ Rep p w x s := h
theorem Rep.call1 {p : Nat → Prop} {w : World} {b d o c : Nat} {x : Value} {name : ByteArray} {s : Tr} {pos : Int} (h0 : p b) (h1 : p d) (h2 : w.cell? ⟨b, 0, none⟩ = some (.string name)) (h3 : w.cell? ⟨b, 1, none⟩ = some (.slice (some ⟨d, o, none⟩) 1 c)) (h4 : w.cell? ⟨b, 2, none⟩ = some (.int .i64 pos)) (h5 : w.cell? ⟨d, o, none⟩ = some x) (h6 : Rep p w x s) : Rep p w (.iface 169 (.pointer (some ⟨b, 0, none⟩))) (Tr.call1 name s pos) :=
  (show ∃ (b' d' o' c' : Nat) (x' : Value), Value.iface 169 (.pointer (some ⟨b, 0, none⟩)) = .iface 169 (.pointer (some ⟨b', 0, none⟩)) ∧ p b' ∧ p d' ∧ w.cell? ⟨b', 0, none⟩ = some (.string name) ∧ w.cell? ⟨b', 1, none⟩ = some (.slice (some ⟨d', o', none⟩) 1 c') ∧ w.cell? ⟨b', 2, none⟩ = some (.int .i64 pos) ∧ w.cell? ⟨d', o', none⟩ = some x' ∧ Rep p w x' s from ⟨b, d, o, c, x, rfl, h0, h1, h2, h3, h4, h5, h6⟩)
theorem Rep.call2_of {p : Nat → Prop} {w : World} {v : Value} {name : ByteArray} {s : Tr} {t : Tr} {pos : Int} (h : Rep p w v (Tr.call2 name s t pos)) : ∃ (b d o c : Nat) (x y : Value), v = .iface 169 (.pointer (some ⟨b, 0, none⟩)) ∧ p b ∧ p d ∧ w.cell? ⟨b, 0, none⟩ = some (.string name) ∧ w.cell? ⟨b, 1, none⟩ = some (.slice (some ⟨d, o, none⟩) 2 c) ∧ w.cell? ⟨b, 2, none⟩ = some (.int .i64 pos) ∧ w.cell? ⟨d, o, none⟩ = some x ∧ w.cell? ⟨d, o + 1, none⟩ = some y ∧ Rep p w x s ∧ Rep p w y t := h
theorem Rep.call2 {p : Nat → Prop} {w : World} {b d o c : Nat} {x y : Value} {name : ByteArray} {s : Tr} {t : Tr} {pos : Int} (h0 : p b) (h1 : p d) (h2 : w.cell? ⟨b, 0, none⟩ = some (.string name)) (h3 : w.cell? ⟨b, 1, none⟩ = some (.slice (some ⟨d, o, none⟩) 2 c)) (h4 : w.cell? ⟨b, 2, none⟩ = some (.int .i64 pos)) (h5 : w.cell? ⟨d, o, none⟩ = some x) (h6 : w.cell? ⟨d, o + 1, none⟩ = some y) (h7 : Rep p w x s) (h8 : Rep p w y t) : Rep p w (.iface 169 (.pointer (some ⟨b, 0, none⟩))) (Tr.call2 name s t pos) :=
  (show ∃ (b' d' o' c' : Nat) (x' y' : Value), Value.iface 169 (.pointer (some ⟨b, 0, none⟩)) = .iface 169 (.pointer (some ⟨b', 0, none⟩)) ∧ p b' ∧ p d' ∧ w.cell? ⟨b', 0, none⟩ = some (.string name) ∧ w.cell? ⟨b', 1, none⟩ = some (.slice (some ⟨d', o', none⟩) 2 c') ∧ w.cell? ⟨b', 2, none⟩ = some (.int .i64 pos) ∧ w.cell? ⟨d', o', none⟩ = some x' ∧ w.cell? ⟨d', o' + 1, none⟩ = some y' ∧ Rep p w x' s ∧ Rep p w y' t from ⟨b, d, o, c, x, y, rfl, h0, h1, h2, h3, h4, h5, h6, h7, h8⟩)
theorem Rep.bin_of {p : Nat → Prop} {w : World} {v : Value} {s : Tr} {op : ByteArray} {t : Tr} (h : Rep p w v (Tr.bin s op t)) : ∃ (b : Nat) (x y : Value), v = .iface 171 (.pointer (some ⟨b, 0, none⟩)) ∧ p b ∧ w.cell? ⟨b, 0, none⟩ = some x ∧ w.cell? ⟨b, 1, none⟩ = some (.string op) ∧ w.cell? ⟨b, 2, none⟩ = some y ∧ Rep p w x s ∧ Rep p w y t := h
theorem Rep.bin {p : Nat → Prop} {w : World} {b : Nat} {x y : Value} {s : Tr} {op : ByteArray} {t : Tr} (h0 : p b) (h1 : w.cell? ⟨b, 0, none⟩ = some x) (h2 : w.cell? ⟨b, 1, none⟩ = some (.string op)) (h3 : w.cell? ⟨b, 2, none⟩ = some y) (h4 : Rep p w x s) (h5 : Rep p w y t) : Rep p w (.iface 171 (.pointer (some ⟨b, 0, none⟩))) (Tr.bin s op t) :=
  (show ∃ (b' : Nat) (x' y' : Value), Value.iface 171 (.pointer (some ⟨b, 0, none⟩)) = .iface 171 (.pointer (some ⟨b', 0, none⟩)) ∧ p b' ∧ w.cell? ⟨b', 0, none⟩ = some x' ∧ w.cell? ⟨b', 1, none⟩ = some (.string op) ∧ w.cell? ⟨b', 2, none⟩ = some y' ∧ Rep p w x' s ∧ Rep p w y' t from ⟨b, x, y, rfl, h0, h1, h2, h3, h4, h5⟩)
theorem Rep.tries_of {p : Nat → Prop} {w : World} {v : Value} {s : Tr} {t : Tr} (h : Rep p w v (Tr.tries s t)) : ∃ (b : Nat) (x y : Value), v = .iface 145 (.pointer (some ⟨b, 0, none⟩)) ∧ p b ∧ w.cell? ⟨b, 0, none⟩ = some x ∧ w.cell? ⟨b, 1, none⟩ = some y ∧ Rep p w x s ∧ Rep p w y t := h
theorem Rep.tries {p : Nat → Prop} {w : World} {b : Nat} {x y : Value} {s : Tr} {t : Tr} (h0 : p b) (h1 : w.cell? ⟨b, 0, none⟩ = some x) (h2 : w.cell? ⟨b, 1, none⟩ = some y) (h3 : Rep p w x s) (h4 : Rep p w y t) : Rep p w (.iface 145 (.pointer (some ⟨b, 0, none⟩))) (Tr.tries s t) :=
  (show ∃ (b' : Nat) (x' y' : Value), Value.iface 145 (.pointer (some ⟨b, 0, none⟩)) = .iface 145 (.pointer (some ⟨b', 0, none⟩)) ∧ p b' ∧ w.cell? ⟨b', 0, none⟩ = some x' ∧ w.cell? ⟨b', 1, none⟩ = some y' ∧ Rep p w x' s ∧ Rep p w y' t from ⟨b, x, y, rfl, h0, h1, h2, h3, h4⟩)
theorem Rep.red_of {p : Nat → Prop} {w : World} {v : Value} {s : Tr} {vn : ByteArray} {t : Tr} {u : Tr} (h : Rep p w v (Tr.red s vn t u)) : ∃ (b : Nat) (x y z : Value), v = .iface 164 (.pointer (some ⟨b, 0, none⟩)) ∧ p b ∧ w.cell? ⟨b, 0, none⟩ = some x ∧ w.cell? ⟨b, 1, none⟩ = some (.string vn) ∧ w.cell? ⟨b, 2, none⟩ = some y ∧ w.cell? ⟨b, 3, none⟩ = some z ∧ Rep p w x s ∧ Rep p w y t ∧ Rep p w z u := h
theorem Rep.red {p : Nat → Prop} {w : World} {b : Nat} {x y z : Value} {s : Tr} {vn : ByteArray} {t : Tr} {u : Tr} (h0 : p b) (h1 : w.cell? ⟨b, 0, none⟩ = some x) (h2 : w.cell? ⟨b, 1, none⟩ = some (.string vn)) (h3 : w.cell? ⟨b, 2, none⟩ = some y) (h4 : w.cell? ⟨b, 3, none⟩ = some z) (h5 : Rep p w x s) (h6 : Rep p w y t) (h7 : Rep p w z u) : Rep p w (.iface 164 (.pointer (some ⟨b, 0, none⟩))) (Tr.red s vn t u) :=
  (show ∃ (b' : Nat) (x' y' z' : Value), Value.iface 164 (.pointer (some ⟨b, 0, none⟩)) = .iface 164 (.pointer (some ⟨b', 0, none⟩)) ∧ p b' ∧ w.cell? ⟨b', 0, none⟩ = some x' ∧ w.cell? ⟨b', 1, none⟩ = some (.string vn) ∧ w.cell? ⟨b', 2, none⟩ = some y' ∧ w.cell? ⟨b', 3, none⟩ = some z' ∧ Rep p w x' s ∧ Rep p w y' t ∧ Rep p w z' u from ⟨b, x, y, z, rfl, h0, h1, h2, h3, h4, h5, h6, h7⟩)
theorem Rep.ite_of {p : Nat → Prop} {w : World} {v : Value} {s : Tr} {t : Tr} {u : Tr} (h : Rep p w v (Tr.ite s t u)) : ∃ (b : Nat) (x y z : Value), v = .iface 158 (.pointer (some ⟨b, 0, none⟩)) ∧ p b ∧ w.cell? ⟨b, 0, none⟩ = some x ∧ w.cell? ⟨b, 1, none⟩ = some y ∧ w.cell? ⟨b, 2, none⟩ = some z ∧ Rep p w x s ∧ Rep p w y t ∧ Rep p w z u := h
theorem Rep.ite {p : Nat → Prop} {w : World} {b : Nat} {x y z : Value} {s : Tr} {t : Tr} {u : Tr} (h0 : p b) (h1 : w.cell? ⟨b, 0, none⟩ = some x) (h2 : w.cell? ⟨b, 1, none⟩ = some y) (h3 : w.cell? ⟨b, 2, none⟩ = some z) (h4 : Rep p w x s) (h5 : Rep p w y t) (h6 : Rep p w z u) : Rep p w (.iface 158 (.pointer (some ⟨b, 0, none⟩))) (Tr.ite s t u) :=
  (show ∃ (b' : Nat) (x' y' z' : Value), Value.iface 158 (.pointer (some ⟨b, 0, none⟩)) = .iface 158 (.pointer (some ⟨b', 0, none⟩)) ∧ p b' ∧ w.cell? ⟨b', 0, none⟩ = some x' ∧ w.cell? ⟨b', 1, none⟩ = some y' ∧ w.cell? ⟨b', 2, none⟩ = some z' ∧ Rep p w x' s ∧ Rep p w y' t ∧ Rep p w z' u from ⟨b, x, y, z, rfl, h0, h1, h2, h3, h4, h5, h6⟩)
theorem Rep.def1_of {p : Nat → Prop} {w : World} {v : Value} {name : ByteArray} {q : ByteArray} {s : Tr} {t : Tr} (h : Rep p w v (Tr.def1 name q s t)) : ∃ (b d o c : Nat) (x y : Value), v = .iface 120 (.pointer (some ⟨b, 0, none⟩)) ∧ p b ∧ p d ∧ w.cell? ⟨b, 0, none⟩ = some (.string name) ∧ w.cell? ⟨b, 1, none⟩ = some (.slice (some ⟨d, o, none⟩) 1 c) ∧ w.cell? ⟨d, o, none⟩ = some (.string q) ∧ w.cell? ⟨b, 2, none⟩ = some x ∧ w.cell? ⟨b, 3, none⟩ = some y ∧ Rep p w x s ∧ Rep p w y t := h
theorem Rep.def1 {p : Nat → Prop} {w : World} {b d o c : Nat} {x y : Value} {name : ByteArray} {q : ByteArray} {s : Tr} {t : Tr} (h0 : p b) (h1 : p d) (h2 : w.cell? ⟨b, 0, none⟩ = some (.string name)) (h3 : w.cell? ⟨b, 1, none⟩ = some (.slice (some ⟨d, o, none⟩) 1 c)) (h4 : w.cell? ⟨d, o, none⟩ = some (.string q)) (h5 : w.cell? ⟨b, 2, none⟩ = some x) (h6 : w.cell? ⟨b, 3, none⟩ = some y) (h7 : Rep p w x s) (h8 : Rep p w y t) : Rep p w (.iface 120 (.pointer (some ⟨b, 0, none⟩))) (Tr.def1 name q s t) :=
  (show ∃ (b' d' o' c' : Nat) (x' y' : Value), Value.iface 120 (.pointer (some ⟨b, 0, none⟩)) = .iface 120 (.pointer (some ⟨b', 0, none⟩)) ∧ p b' ∧ p d' ∧ w.cell? ⟨b', 0, none⟩ = some (.string name) ∧ w.cell? ⟨b', 1, none⟩ = some (.slice (some ⟨d', o', none⟩) 1 c') ∧ w.cell? ⟨d', o', none⟩ = some (.string q) ∧ w.cell? ⟨b', 2, none⟩ = some x' ∧ w.cell? ⟨b', 3, none⟩ = some y' ∧ Rep p w x' s ∧ Rep p w y' t from ⟨b, d, o, c, x, y, rfl, h0, h1, h2, h3, h4, h5, h6, h7, h8⟩)
theorem Rep.def2_of {p : Nat → Prop} {w : World} {v : Value} {name : ByteArray} {q : ByteArray} {r : ByteArray} {s : Tr} {t : Tr} (h : Rep p w v (Tr.def2 name q r s t)) : ∃ (b d o c : Nat) (x y : Value), v = .iface 120 (.pointer (some ⟨b, 0, none⟩)) ∧ p b ∧ p d ∧ w.cell? ⟨b, 0, none⟩ = some (.string name) ∧ w.cell? ⟨b, 1, none⟩ = some (.slice (some ⟨d, o, none⟩) 2 c) ∧ w.cell? ⟨d, o, none⟩ = some (.string q) ∧ w.cell? ⟨d, o + 1, none⟩ = some (.string r) ∧ w.cell? ⟨b, 2, none⟩ = some x ∧ w.cell? ⟨b, 3, none⟩ = some y ∧ Rep p w x s ∧ Rep p w y t := h
theorem Rep.def2 {p : Nat → Prop} {w : World} {b d o c : Nat} {x y : Value} {name : ByteArray} {q : ByteArray} {r : ByteArray} {s : Tr} {t : Tr} (h0 : p b) (h1 : p d) (h2 : w.cell? ⟨b, 0, none⟩ = some (.string name)) (h3 : w.cell? ⟨b, 1, none⟩ = some (.slice (some ⟨d, o, none⟩) 2 c)) (h4 : w.cell? ⟨d, o, none⟩ = some (.string q)) (h5 : w.cell? ⟨d, o + 1, none⟩ = some (.string r)) (h6 : w.cell? ⟨b, 2, none⟩ = some x) (h7 : w.cell? ⟨b, 3, none⟩ = some y) (h8 : Rep p w x s) (h9 : Rep p w y t) : Rep p w (.iface 120 (.pointer (some ⟨b, 0, none⟩))) (Tr.def2 name q r s t) :=
  (show ∃ (b' d' o' c' : Nat) (x' y' : Value), Value.iface 120 (.pointer (some ⟨b, 0, none⟩)) = .iface 120 (.pointer (some ⟨b', 0, none⟩)) ∧ p b' ∧ p d' ∧ w.cell? ⟨b', 0, none⟩ = some (.string name) ∧ w.cell? ⟨b', 1, none⟩ = some (.slice (some ⟨d', o', none⟩) 2 c') ∧ w.cell? ⟨d', o', none⟩ = some (.string q) ∧ w.cell? ⟨d', o' + 1, none⟩ = some (.string r) ∧ w.cell? ⟨b', 2, none⟩ = some x' ∧ w.cell? ⟨b', 3, none⟩ = some y' ∧ Rep p w x' s ∧ Rep p w y' t from ⟨b, d, o, c, x, y, rfl, h0, h1, h2, h3, h4, h5, h6, h7, h8, h9⟩)

theorem Rep.to {p q : Nat → Prop} {w w' : World} (hq : ∀ b o v, p b → w.cell? ⟨b, o, none⟩ = some v → q b ∧ w'.cell? ⟨b, o, none⟩ = some v) : ∀ {v : Value} {t : Tr}, Rep p w v t → Rep q w' v t
  | _, .done _, h => h
  | v, .ask _ 0 k, h => h
  | v, .ask _ 1 k, h =>
    have ⟨b, e, h0, h1⟩ := (show ∃ (b : Nat), v = .iface 224 (.pointer (some ⟨b, 0, none⟩)) ∧ p b ∧ w.cell? ⟨b, 0, none⟩ = some (.iface 98 (.int .i64 (payOf (k 0)).n)) from h)
    show ∃ (b : Nat), v = .iface 224 (.pointer (some ⟨b, 0, none⟩)) ∧ q b ∧ w'.cell? ⟨b, 0, none⟩ = some (.iface 98 (.int .i64 (payOf (k 0)).n)) from ⟨b, e, (hq _ _ _ h0 h1).1, (hq _ _ _ h0 h1).2⟩
  | v, .ask _ 2 k, h =>
    have ⟨b, e, h0, h1⟩ := (show ∃ (b : Nat), v = .iface 224 (.pointer (some ⟨b, 0, none⟩)) ∧ p b ∧ w.cell? ⟨b, 0, none⟩ = some (.iface 95 (.agg #[])) from h)
    show ∃ (b : Nat), v = .iface 224 (.pointer (some ⟨b, 0, none⟩)) ∧ q b ∧ w'.cell? ⟨b, 0, none⟩ = some (.iface 95 (.agg #[])) from ⟨b, e, (hq _ _ _ h0 h1).1, (hq _ _ _ h0 h1).2⟩
  | v, .ask _ 3 k, h =>
    have ⟨b, e, h0, h1⟩ := (show ∃ (b : Nat), v = .iface 224 (.pointer (some ⟨b, 0, none⟩)) ∧ p b ∧ w.cell? ⟨b, 0, none⟩ = some (.iface 96 (.bool (payOf (k 0)).b)) from h)
    show ∃ (b : Nat), v = .iface 224 (.pointer (some ⟨b, 0, none⟩)) ∧ q b ∧ w'.cell? ⟨b, 0, none⟩ = some (.iface 96 (.bool (payOf (k 0)).b)) from ⟨b, e, (hq _ _ _ h0 h1).1, (hq _ _ _ h0 h1).2⟩
  | v, .ask _ 4 k, h =>
    have ⟨b, e, h0, h1, h2⟩ := (show ∃ (b : Nat), v = .iface 227 (.pointer (some ⟨b, 0, none⟩)) ∧ p b ∧ w.cell? ⟨b, 0, none⟩ = some (.string (payOf (k 0)).s) ∧ w.cell? ⟨b, 1, none⟩ = some (.int .i64 (payOf (k 0)).n) from h)
    show ∃ (b : Nat), v = .iface 227 (.pointer (some ⟨b, 0, none⟩)) ∧ q b ∧ w'.cell? ⟨b, 0, none⟩ = some (.string (payOf (k 0)).s) ∧ w'.cell? ⟨b, 1, none⟩ = some (.int .i64 (payOf (k 0)).n) from ⟨b, e, (hq _ _ _ h0 h1).1, (hq _ _ _ h0 h1).2, (hq _ _ _ h0 h2).2⟩
  | v, .ask _ 5 k, h =>
    have ⟨b, x, y, e, h0, h1, h2, h3, h4⟩ := (show ∃ (b : Nat) (x y : Value), v = .iface 134 (.pointer (some ⟨b, 0, none⟩)) ∧ p b ∧ w.cell? ⟨b, 0, none⟩ = some x ∧ w.cell? ⟨b, 1, none⟩ = some y ∧ Rep p w x (k 1) ∧ Rep p w y (k 2) from h)
    show ∃ (b : Nat) (x y : Value), v = .iface 134 (.pointer (some ⟨b, 0, none⟩)) ∧ q b ∧ w'.cell? ⟨b, 0, none⟩ = some x ∧ w'.cell? ⟨b, 1, none⟩ = some y ∧ Rep q w' x (k 1) ∧ Rep q w' y (k 2) from ⟨b, x, y, e, (hq _ _ _ h0 h1).1, (hq _ _ _ h0 h1).2, (hq _ _ _ h0 h2).2, Rep.to hq h3, Rep.to hq h4⟩
  | v, .ask _ 6 k, h =>
    have ⟨b, x, e, h0, h1, h2⟩ := (show ∃ (b : Nat) (x : Value), v = .iface 139 (.pointer (some ⟨b, 0, none⟩)) ∧ p b ∧ w.cell? ⟨b, 0, none⟩ = some x ∧ Rep p w x (k 1) from h)
    show ∃ (b : Nat) (x : Value), v = .iface 139 (.pointer (some ⟨b, 0, none⟩)) ∧ q b ∧ w'.cell? ⟨b, 0, none⟩ = some x ∧ Rep q w' x (k 1) from ⟨b, x, e, (hq _ _ _ h0 h1).1, (hq _ _ _ h0 h1).2, Rep.to hq h2⟩
  | v, .ask _ 7 k, h =>
    have ⟨b, x, e, h0, h1, h2⟩ := (show ∃ (b : Nat) (x : Value), v = .iface 230 (.pointer (some ⟨b, 0, none⟩)) ∧ p b ∧ w.cell? ⟨b, 0, none⟩ = some x ∧ Rep p w x (k 1) from h)
    show ∃ (b : Nat) (x : Value), v = .iface 230 (.pointer (some ⟨b, 0, none⟩)) ∧ q b ∧ w'.cell? ⟨b, 0, none⟩ = some x ∧ Rep q w' x (k 1) from ⟨b, x, e, (hq _ _ _ h0 h1).1, (hq _ _ _ h0 h1).2, Rep.to hq h2⟩
  | v, .ask _ 8 k, h =>
    have ⟨b, e, h0, h1, h2, h3⟩ := (show ∃ (b : Nat), v = .iface 169 (.pointer (some ⟨b, 0, none⟩)) ∧ p b ∧ w.cell? ⟨b, 0, none⟩ = some (.string (payOf (k 0)).s) ∧ w.cell? ⟨b, 1, none⟩ = some (.slice none 0 0) ∧ w.cell? ⟨b, 2, none⟩ = some (.int .i64 (payOf (k 0)).n) from h)
    show ∃ (b : Nat), v = .iface 169 (.pointer (some ⟨b, 0, none⟩)) ∧ q b ∧ w'.cell? ⟨b, 0, none⟩ = some (.string (payOf (k 0)).s) ∧ w'.cell? ⟨b, 1, none⟩ = some (.slice none 0 0) ∧ w'.cell? ⟨b, 2, none⟩ = some (.int .i64 (payOf (k 0)).n) from ⟨b, e, (hq _ _ _ h0 h1).1, (hq _ _ _ h0 h1).2, (hq _ _ _ h0 h2).2, (hq _ _ _ h0 h3).2⟩
  | v, .ask _ 9 k, h =>
    have ⟨b, d, o, c, x, e, h0, h1, h2, h3, h4, h5, h6⟩ := (show ∃ (b d o c : Nat) (x : Value), v = .iface 169 (.pointer (some ⟨b, 0, none⟩)) ∧ p b ∧ p d ∧ w.cell? ⟨b, 0, none⟩ = some (.string (payOf (k 0)).s) ∧ w.cell? ⟨b, 1, none⟩ = some (.slice (some ⟨d, o, none⟩) 1 c) ∧ w.cell? ⟨b, 2, none⟩ = some (.int .i64 (payOf (k 0)).n) ∧ w.cell? ⟨d, o, none⟩ = some x ∧ Rep p w x (k 1) from h)
    show ∃ (b d o c : Nat) (x : Value), v = .iface 169 (.pointer (some ⟨b, 0, none⟩)) ∧ q b ∧ q d ∧ w'.cell? ⟨b, 0, none⟩ = some (.string (payOf (k 0)).s) ∧ w'.cell? ⟨b, 1, none⟩ = some (.slice (some ⟨d, o, none⟩) 1 c) ∧ w'.cell? ⟨b, 2, none⟩ = some (.int .i64 (payOf (k 0)).n) ∧ w'.cell? ⟨d, o, none⟩ = some x ∧ Rep q w' x (k 1) from ⟨b, d, o, c, x, e, (hq _ _ _ h0 h2).1, (hq _ _ _ h1 h5).1, (hq _ _ _ h0 h2).2, (hq _ _ _ h0 h3).2, (hq _ _ _ h0 h4).2, (hq _ _ _ h1 h5).2, Rep.to hq h6⟩
  | v, .ask _ 10 k, h =>
    have ⟨b, d, o, c, x, y, e, h0, h1, h2, h3, h4, h5, h6, h7, h8⟩ := (show ∃ (b d o c : Nat) (x y : Value), v = .iface 169 (.pointer (some ⟨b, 0, none⟩)) ∧ p b ∧ p d ∧ w.cell? ⟨b, 0, none⟩ = some (.string (payOf (k 0)).s) ∧ w.cell? ⟨b, 1, none⟩ = some (.slice (some ⟨d, o, none⟩) 2 c) ∧ w.cell? ⟨b, 2, none⟩ = some (.int .i64 (payOf (k 0)).n) ∧ w.cell? ⟨d, o, none⟩ = some x ∧ w.cell? ⟨d, o + 1, none⟩ = some y ∧ Rep p w x (k 1) ∧ Rep p w y (k 2) from h)
    show ∃ (b d o c : Nat) (x y : Value), v = .iface 169 (.pointer (some ⟨b, 0, none⟩)) ∧ q b ∧ q d ∧ w'.cell? ⟨b, 0, none⟩ = some (.string (payOf (k 0)).s) ∧ w'.cell? ⟨b, 1, none⟩ = some (.slice (some ⟨d, o, none⟩) 2 c) ∧ w'.cell? ⟨b, 2, none⟩ = some (.int .i64 (payOf (k 0)).n) ∧ w'.cell? ⟨d, o, none⟩ = some x ∧ w'.cell? ⟨d, o + 1, none⟩ = some y ∧ Rep q w' x (k 1) ∧ Rep q w' y (k 2) from ⟨b, d, o, c, x, y, e, (hq _ _ _ h0 h2).1, (hq _ _ _ h1 h5).1, (hq _ _ _ h0 h2).2, (hq _ _ _ h0 h3).2, (hq _ _ _ h0 h4).2, (hq _ _ _ h1 h5).2, (hq _ _ _ h1 h6).2, Rep.to hq h7, Rep.to hq h8⟩
  | v, .ask _ 11 k, h =>
    have ⟨b, x, y, e, h0, h1, h2, h3, h4, h5⟩ := (show ∃ (b : Nat) (x y : Value), v = .iface 171 (.pointer (some ⟨b, 0, none⟩)) ∧ p b ∧ w.cell? ⟨b, 0, none⟩ = some x ∧ w.cell? ⟨b, 1, none⟩ = some (.string (payOf (k 0)).s) ∧ w.cell? ⟨b, 2, none⟩ = some y ∧ Rep p w x (k 1) ∧ Rep p w y (k 2) from h)
    show ∃ (b : Nat) (x y : Value), v = .iface 171 (.pointer (some ⟨b, 0, none⟩)) ∧ q b ∧ w'.cell? ⟨b, 0, none⟩ = some x ∧ w'.cell? ⟨b, 1, none⟩ = some (.string (payOf (k 0)).s) ∧ w'.cell? ⟨b, 2, none⟩ = some y ∧ Rep q w' x (k 1) ∧ Rep q w' y (k 2) from ⟨b, x, y, e, (hq _ _ _ h0 h1).1, (hq _ _ _ h0 h1).2, (hq _ _ _ h0 h2).2, (hq _ _ _ h0 h3).2, Rep.to hq h4, Rep.to hq h5⟩
  | v, .ask _ 12 k, h =>
    have ⟨b, x, y, e, h0, h1, h2, h3, h4⟩ := (show ∃ (b : Nat) (x y : Value), v = .iface 145 (.pointer (some ⟨b, 0, none⟩)) ∧ p b ∧ w.cell? ⟨b, 0, none⟩ = some x ∧ w.cell? ⟨b, 1, none⟩ = some y ∧ Rep p w x (k 1) ∧ Rep p w y (k 2) from h)
    show ∃ (b : Nat) (x y : Value), v = .iface 145 (.pointer (some ⟨b, 0, none⟩)) ∧ q b ∧ w'.cell? ⟨b, 0, none⟩ = some x ∧ w'.cell? ⟨b, 1, none⟩ = some y ∧ Rep q w' x (k 1) ∧ Rep q w' y (k 2) from ⟨b, x, y, e, (hq _ _ _ h0 h1).1, (hq _ _ _ h0 h1).2, (hq _ _ _ h0 h2).2, Rep.to hq h3, Rep.to hq h4⟩
  | v, .ask _ 13 k, h =>
    have ⟨b, x, y, z, e, h0, h1, h2, h3, h4, h5, h6, h7⟩ := (show ∃ (b : Nat) (x y z : Value), v = .iface 164 (.pointer (some ⟨b, 0, none⟩)) ∧ p b ∧ w.cell? ⟨b, 0, none⟩ = some x ∧ w.cell? ⟨b, 1, none⟩ = some (.string (payOf (k 0)).s) ∧ w.cell? ⟨b, 2, none⟩ = some y ∧ w.cell? ⟨b, 3, none⟩ = some z ∧ Rep p w x (k 1) ∧ Rep p w y (k 2) ∧ Rep p w z (k 3) from h)
    show ∃ (b : Nat) (x y z : Value), v = .iface 164 (.pointer (some ⟨b, 0, none⟩)) ∧ q b ∧ w'.cell? ⟨b, 0, none⟩ = some x ∧ w'.cell? ⟨b, 1, none⟩ = some (.string (payOf (k 0)).s) ∧ w'.cell? ⟨b, 2, none⟩ = some y ∧ w'.cell? ⟨b, 3, none⟩ = some z ∧ Rep q w' x (k 1) ∧ Rep q w' y (k 2) ∧ Rep q w' z (k 3) from ⟨b, x, y, z, e, (hq _ _ _ h0 h1).1, (hq _ _ _ h0 h1).2, (hq _ _ _ h0 h2).2, (hq _ _ _ h0 h3).2, (hq _ _ _ h0 h4).2, Rep.to hq h5, Rep.to hq h6, Rep.to hq h7⟩
  | v, .ask _ 14 k, h =>
    have ⟨b, x, y, z, e, h0, h1, h2, h3, h4, h5, h6⟩ := (show ∃ (b : Nat) (x y z : Value), v = .iface 158 (.pointer (some ⟨b, 0, none⟩)) ∧ p b ∧ w.cell? ⟨b, 0, none⟩ = some x ∧ w.cell? ⟨b, 1, none⟩ = some y ∧ w.cell? ⟨b, 2, none⟩ = some z ∧ Rep p w x (k 1) ∧ Rep p w y (k 2) ∧ Rep p w z (k 3) from h)
    show ∃ (b : Nat) (x y z : Value), v = .iface 158 (.pointer (some ⟨b, 0, none⟩)) ∧ q b ∧ w'.cell? ⟨b, 0, none⟩ = some x ∧ w'.cell? ⟨b, 1, none⟩ = some y ∧ w'.cell? ⟨b, 2, none⟩ = some z ∧ Rep q w' x (k 1) ∧ Rep q w' y (k 2) ∧ Rep q w' z (k 3) from ⟨b, x, y, z, e, (hq _ _ _ h0 h1).1, (hq _ _ _ h0 h1).2, (hq _ _ _ h0 h2).2, (hq _ _ _ h0 h3).2, Rep.to hq h4, Rep.to hq h5, Rep.to hq h6⟩
  | v, .ask _ 15 k, h =>
    have ⟨b, d, o, c, x, y, e, h0, h1, h2, h3, h4, h5, h6, h7, h8⟩ := (show ∃ (b d o c : Nat) (x y : Value), v = .iface 120 (.pointer (some ⟨b, 0, none⟩)) ∧ p b ∧ p d ∧ w.cell? ⟨b, 0, none⟩ = some (.string (payOf (k 0)).s) ∧ w.cell? ⟨b, 1, none⟩ = some (.slice (some ⟨d, o, none⟩) 1 c) ∧ w.cell? ⟨d, o, none⟩ = some (.string (payOf (k 0)).q) ∧ w.cell? ⟨b, 2, none⟩ = some x ∧ w.cell? ⟨b, 3, none⟩ = some y ∧ Rep p w x (k 1) ∧ Rep p w y (k 2) from h)
    show ∃ (b d o c : Nat) (x y : Value), v = .iface 120 (.pointer (some ⟨b, 0, none⟩)) ∧ q b ∧ q d ∧ w'.cell? ⟨b, 0, none⟩ = some (.string (payOf (k 0)).s) ∧ w'.cell? ⟨b, 1, none⟩ = some (.slice (some ⟨d, o, none⟩) 1 c) ∧ w'.cell? ⟨d, o, none⟩ = some (.string (payOf (k 0)).q) ∧ w'.cell? ⟨b, 2, none⟩ = some x ∧ w'.cell? ⟨b, 3, none⟩ = some y ∧ Rep q w' x (k 1) ∧ Rep q w' y (k 2) from ⟨b, d, o, c, x, y, e, (hq _ _ _ h0 h2).1, (hq _ _ _ h1 h4).1, (hq _ _ _ h0 h2).2, (hq _ _ _ h0 h3).2, (hq _ _ _ h1 h4).2, (hq _ _ _ h0 h5).2, (hq _ _ _ h0 h6).2, Rep.to hq h7, Rep.to hq h8⟩
  | v, .ask _ 16 k, h =>
    have ⟨b, d, o, c, x, y, e, h0, h1, h2, h3, h4, h5, h6, h7, h8, h9⟩ := (show ∃ (b d o c : Nat) (x y : Value), v = .iface 120 (.pointer (some ⟨b, 0, none⟩)) ∧ p b ∧ p d ∧ w.cell? ⟨b, 0, none⟩ = some (.string (payOf (k 0)).s) ∧ w.cell? ⟨b, 1, none⟩ = some (.slice (some ⟨d, o, none⟩) 2 c) ∧ w.cell? ⟨d, o, none⟩ = some (.string (payOf (k 0)).q) ∧ w.cell? ⟨d, o + 1, none⟩ = some (.string (payOf (k 0)).r) ∧ w.cell? ⟨b, 2, none⟩ = some x ∧ w.cell? ⟨b, 3, none⟩ = some y ∧ Rep p w x (k 1) ∧ Rep p w y (k 2) from h)
    show ∃ (b d o c : Nat) (x y : Value), v = .iface 120 (.pointer (some ⟨b, 0, none⟩)) ∧ q b ∧ q d ∧ w'.cell? ⟨b, 0, none⟩ = some (.string (payOf (k 0)).s) ∧ w'.cell? ⟨b, 1, none⟩ = some (.slice (some ⟨d, o, none⟩) 2 c) ∧ w'.cell? ⟨d, o, none⟩ = some (.string (payOf (k 0)).q) ∧ w'.cell? ⟨d, o + 1, none⟩ = some (.string (payOf (k 0)).r) ∧ w'.cell? ⟨b, 2, none⟩ = some x ∧ w'.cell? ⟨b, 3, none⟩ = some y ∧ Rep q w' x (k 1) ∧ Rep q w' y (k 2) from ⟨b, d, o, c, x, y, e, (hq _ _ _ h0 h2).1, (hq _ _ _ h1 h4).1, (hq _ _ _ h0 h2).2, (hq _ _ _ h0 h3).2, (hq _ _ _ h1 h4).2, (hq _ _ _ h1 h5).2, (hq _ _ _ h0 h6).2, (hq _ _ _ h0 h7).2, Rep.to hq h8, Rep.to hq h9⟩
  | _, .ask _ (_ + 17) _, h => h

theorem Rep.kept {r B : Nat} {w w' : World} (k : Kept r w w') (hB : r < B) {v : Value} {t : Tr} (h : Rep (B ≤ ·) w v t) : Rep (B ≤ ·) w' v t :=
  h.to fun b _ _ hb hv => ⟨hb, (k.cell (cell_lt hv) (by have : B ≤ b := hb; omega)).trans hv⟩
theorem Rep.low {B B' : Nat} {w : World} (hB : B' ≤ B) {v : Value} {t : Tr} (h : Rep (B ≤ ·) w v t) : Rep (B' ≤ ·) w v t :=
  h.to fun _ _ _ hb hv => ⟨Nat.le_trans hB hb, hv⟩
theorem Rep.setOld {B N o : Nat} {w : World} (hN : N < B) {u v : Value} {t : Tr} (h : Rep (B ≤ ·) w v t) : Rep (B ≤ ·) (w.setCell ⟨N, o, none⟩ u) v t :=
  h.to fun b _ _ hb hv => ⟨hb, (World.cell?_of_block (w := w) (Below.heap_setCell _ _ _ _ (by have : B ≤ b := hb; simp; omega))).trans hv⟩
theorem Rep.upon {p : Nat → Prop} {w w' : World} (k : Below w.heap.size w w') {v : Value} {t : Tr} (h : Rep p w v t) : Rep p w' v t :=
  h.to fun b o _ hb hv => ⟨hb, (k.cell (p := ⟨b, o, none⟩) (cell_lt hv)).trans hv⟩

/-- What a call of the reader leaves and gives. -/
def Gives (rb tb : Nat) (l : List Tok) (t : Tr) (w : World) (e : Ending) (w' : World) : Prop :=
  ∃ T b, e = .returned (.iface T (.pointer (some ⟨b, 0, none⟩))) ∧ Left w w' rb tb l ∧ Rep (w.heap.size ≤ ·) w' (.iface T (.pointer (some ⟨b, 0, none⟩))) t

/-- The reader's functions. -/
abbrev Cat := Except Int (Option (Option (Option Bool)))
abbrev Cat.filter : Cat := .ok none
abbrev Cat.oper (loosest : Int) : Cat := .error loosest
abbrev Cat.minus : Cat := .ok (some none)
abbrev Cat.bound : Cat := .ok (some (some none))
abbrev Cat.pfix : Cat := .ok (some (some (some false)))
abbrev Cat.primary : Cat := .ok (some (some (some true)))

abbrev Cat.fn : Cat → FuncId
  | .ok none => 16
  | .error _ => 39
  | .ok (some none) => 85
  | .ok (some (some none)) => 138
  | .ok (some (some (some false))) => 198
  | .ok (some (some (some true))) => 248
abbrev Cat.args (rb : Nat) : Cat → Array Value
  | .error r => #[.pointer (some ⟨rb, 0, none⟩), .int .u8 r]
  | _ => #[.pointer (some ⟨rb, 0, none⟩)]

abbrev Pars := Cat → List Tok → Option (Tr × List Tok)

/-- The functions do as P says, wherever P says something. -/
def Sound (P : Pars) : Prop := ∀ (c : Cat) (l : List Tok) (t : Tr) (l' : List Tok) (w : World) (rb tb : Nat), P c l = some (t, l') → Rd w rb tb l →
  Calls Tryz.prog c.fn (c.args rb) w (Gives rb tb l' t w)

theorem Sound.minus {P : Pars} (h : Sound P) {l : List Tok} {t : Tr} {l' : List Tok} {w : World} {rb tb : Nat} (e : P .minus l = some (t, l')) (r : Rd w rb tb l) :
    Calls Tryz.prog 85 #[.pointer (some ⟨rb, 0, none⟩)] w (Gives rb tb l' t w) := h .minus l t l' w rb tb e r
theorem Sound.filter {P : Pars} (h : Sound P) {l : List Tok} {t : Tr} {l' : List Tok} {w : World} {rb tb : Nat} (e : P .filter l = some (t, l')) (r : Rd w rb tb l) :
    Calls Tryz.prog 16 #[.pointer (some ⟨rb, 0, none⟩)] w (Gives rb tb l' t w) := h .filter l t l' w rb tb e r
theorem Sound.oper {P : Pars} (h : Sound P) {r : Int} {l : List Tok} {t : Tr} {l' : List Tok} {w : World} {rb tb : Nat} (e : P (.oper r) l = some (t, l')) (hr : Rd w rb tb l) :
    Calls Tryz.prog 39 #[.pointer (some ⟨rb, 0, none⟩), .int .u8 r] w (Gives rb tb l' t w) := h (.oper r) l t l' w rb tb e hr
theorem Sound.bound {P : Pars} (h : Sound P) {l : List Tok} {t : Tr} {l' : List Tok} {w : World} {rb tb : Nat} (e : P .bound l = some (t, l')) (r : Rd w rb tb l) :
    Calls Tryz.prog 138 #[.pointer (some ⟨rb, 0, none⟩)] w (Gives rb tb l' t w) := h .bound l t l' w rb tb e r
theorem Sound.pfix {P : Pars} (h : Sound P) {l : List Tok} {t : Tr} {l' : List Tok} {w : World} {rb tb : Nat} (e : P .pfix l = some (t, l')) (r : Rd w rb tb l) :
    Calls Tryz.prog 198 #[.pointer (some ⟨rb, 0, none⟩)] w (Gives rb tb l' t w) := h .pfix l t l' w rb tb e r
theorem Sound.primary {P : Pars} (h : Sound P) {l : List Tok} {t : Tr} {l' : List Tok} {w : World} {rb tb : Nat} (e : P .primary l = some (t, l')) (r : Rd w rb tb l) :
    Calls Tryz.prog 248 #[.pointer (some ⟨rb, 0, none⟩)] w (Gives rb tb l' t w) := h .primary l t l' w rb tb e r

end Go.Proofs.Tryz

