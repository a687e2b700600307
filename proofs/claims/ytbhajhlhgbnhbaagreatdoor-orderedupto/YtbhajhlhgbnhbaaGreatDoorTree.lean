import Derived.Test.YtbhajhlhgbnhbaaGreatDoorProg
import Derived.WalkKit
import Derived.WalkSpells
import Derived.WalkLawsBesides
set_option linter.all false
namespace Go.Proofs.Tryz
set_option maxHeartbeats 16000000
open Go.RowKit
structure Kept (r:Nat) (w w':World):Prop where
 os:w'.os=w.os
 tape:w'.tape=w.tape
 output:w'.output=w.output
 size:w.heap.size≤w'.heap.size
 block:∀ k,k < w.heap.size→k≠r→w'.heap[k]? = w.heap[k]?
theorem Kept.refl (r:Nat) (w:World):Kept r w w:=⟨rfl,rfl,rfl,Nat.le_refl _,fun _ _ _=>rfl⟩
theorem Kept.trans {r:Nat}{a b c:World} (h:Kept r a b) (k:Kept r b c):Kept r a c :=
 ⟨k.os.trans h.os,k.tape.trans h.tape,k.output.trans h.output,Nat.le_trans h.size k.size,
  fun i hi hr=>(k.block i (Nat.lt_of_lt_of_le hi h.size) hr).trans (h.block i hi hr)⟩
theorem Kept.of_below {r:Nat}{w w':World} (h:Below w.heap.size w w'):Kept r w w' :=
 ⟨h.os,h.tape,h.output,h.size,fun k hk _=>h.block k hk⟩
theorem Kept.alloc {r:Nat}{a w:World} (h:Kept r a w) (o:Obj):Kept r a (w.alloc o) :=
 h.trans (.of_below ((Below.refl _ _).alloc (Nat.le_refl _) _))
theorem Kept.setCell {r:Nat}{a w:World} (h:Kept r a w) {p:Addr} (hp:p.block=r∨a.heap.size≤p.block) (u:Value):Kept r a (w.setCell p u) :=
 ⟨h.os,h.tape,h.output,by have:=h.size;simpa using this,fun k hk hr=>by
  rw [Below.heap_setCell _ _ _ _ (by omega)];exact h.block k hk hr⟩
theorem Kept.setR {r o:Nat}{a w:World} (h:Kept r a w) (u:Value):Kept r a (w.setCell ⟨r,o,none⟩ u):=h.setCell (.inl rfl) u
theorem Kept.setNew {r b o:Nat}{a w:World} (h:Kept r a w) (u:Value) (hb:a.heap.size≤b):Kept r a (w.setCell ⟨b,o,none⟩ u):=h.setCell (.inr hb) u
theorem Kept.cell {r:Nat}{w w':World} (h:Kept r w w') {b o:Nat} (hb:b < w.heap.size) (hr:b≠r):w'.cell? ⟨b,o,none⟩=w.cell? ⟨b,o,none⟩ :=
 World.cell?_of_block (w:=w) (h.block b hb hr)
theorem Kept.frozen {r:Nat}{w w':World} (h:Kept r w w') {b o:Nat} (hb:b < w.heap.size) (hr:b≠r):w'.frozen? ⟨b,o,none⟩=w.frozen? ⟨b,o,none⟩ :=
 World.frozen?_of_block (w:=w) (h.block b hb hr)
theorem cell_lt {w:World}{b o:Nat}{v:Value} (h:w.cell? ⟨b,o,none⟩=some v):b < w.heap.size:=by
 unfold World.cell? at h
 by_cases hb:b < w.heap.size
 ·exact hb
 ·simp [Array.getElem?_eq_none (by omega:w.heap.size≤b)] at h
structure Tok where
 kind:Int
 text:ByteArray
 pos:Int
def Toks (w:World) (tb:Nat):Nat→List Tok→Prop
 | _,[]=>True
 | o,t :: l=>w.cell? ⟨tb,o,none⟩=some (.int .u8 t.kind)∧w.cell? ⟨tb,o+1,none⟩=some (.string t.text)∧w.cell? ⟨tb,o+2,none⟩=some (.int .i64 t.pos)∧Toks w tb (o+3) l
theorem Toks.same {w w':World}{tb:Nat} (h:w'.heap[tb]? = w.heap[tb]?):∀ {o:Nat}{l:List Tok},Toks w tb o l→Toks w' tb o l
 | _,[],_=>trivial
 | _,_ :: _,⟨a,b,c,d⟩=>⟨(World.cell?_of_block (w:=w) h).trans a,(World.cell?_of_block (w:=w) h).trans b,(World.cell?_of_block (w:=w) h).trans c,Toks.same h d⟩
structure Reads (w:World) (rb tb o c:Nat) (l:List Tok):Prop where
 cell:w.cell? ⟨rb,0,none⟩=some (.slice (some ⟨tb,o,none⟩) l.length c)
 cap:l.length≤c
 max:c≤9223372036854775807
 free:w.frozen? ⟨rb,0,none⟩=false
 ne:tb≠rb
 tbs:tb < w.heap.size
 toks:Toks w tb o l
theorem Reads.rbs {w:World}{rb tb o c:Nat}{l:List Tok} (h:Reads w rb tb o c l):rb < w.heap.size:=cell_lt h.cell
structure Left (w w':World) (rb tb:Nat) (l:List Tok):Prop where
 kept:Kept rb w w'
 reads:∃ o c,Reads w' rb tb o c l
theorem Left.trans {a b c:World}{rb tb:Nat}{l m:List Tok} (h:Left a b rb tb l) (k:Left b c rb tb m):Left a c rb tb m:=⟨h.kept.trans k.kept,k.reads⟩
theorem take_ok {w:World}{rb tb o c:Nat}{t u:Tok}{l:List Tok} (h:Reads w rb tb o c (t :: u :: l)) :
  Calls Tryz.prog 82 #[.pointer (some ⟨rb,0,none⟩)] w fun e w'=>e = .returned (.agg #[.int .u8 t.kind,.string t.text,.int .i64 t.pos])∧Left w w' rb tb (u :: l):=by
 obtain ⟨hr,hcap,hmax,hf,hne,htb,⟨h0,h1,h2,hrest⟩⟩:=h
 have hrb:=cell_lt hr
 simp only [List.length_cons] at hr hcap
 have hc1:¬ c=1:=by omega
 have hmax':c≤9223372036854775807:=by omega
 have hn:l.length+1+1≤c:=by omega
 go_enter Tryz.func82,Tryz.ntmps82
 go_wp2
 refine bodyPost_ret (v:=.agg #[.int .u8 t.kind,.string t.text,.int .i64 t.pos]) (by simp [results,Tryz.results82,go_sem]) rfl ⟨rfl,?_⟩
 refine ⟨((Kept.refl _ _).setR _).alloc _ |>.alloc _,o+3,c - 1,?_⟩
 refine ⟨?_,?_,by omega,?_,hne,by simp;omega,?_⟩
 ·simp [hrb,hr,go_sem]
 ·simp;omega
 ·simp [hrb,hf,go_sem]
 ·refine Toks.same (w:=w) ?_ hrest
  rw [Below.heap_alloc _ _ _ (by simp;omega),Below.heap_alloc _ _ _ (by simp;omega),Below.heap_setCell _ _ _ _ hne]
theorem Reads.below {w w':World}{rb tb o c:Nat}{l:List Tok} (h:Reads w rb tb o c l) (b:Below w.heap.size w w'):Reads w' rb tb o c l :=
 ⟨(b.cell (p:=⟨rb,0,none⟩) h.rbs).trans h.cell,h.cap,h.max,(b.frozen (p:=⟨rb,0,none⟩) h.rbs).trans h.free,h.ne,Nat.lt_of_lt_of_le h.tbs b.size,Toks.same (b.block _ h.tbs) h.toks⟩
theorem below_alloc (w:World) (o:Obj):Below w.heap.size w (w.alloc o):=(Below.refl _ _).alloc (Nat.le_refl _) _
theorem Reads.alloc {w:World}{rb tb o c:Nat}{l:List Tok} (h:Reads w rb tb o c l) (x:Obj):Reads (w.alloc x) rb tb o c l:=h.below (below_alloc w x)
theorem Left.from {a b c:World}{rb tb:Nat}{l:List Tok} (h:Below a.heap.size a b) (k:Left b c rb tb l):Left a c rb tb l:=⟨(Kept.of_below h).trans k.kept,k.reads⟩
theorem Left.stay {a b:World}{rb tb o c:Nat}{l:List Tok} (h:Reads a rb tb o c l) (k:Below a.heap.size a b):Left a b rb tb l:=⟨.of_below k,_,_,h.below k⟩
theorem Left.upto {a b c:World}{rb tb:Nat}{l:List Tok} (h:Left a b rb tb l) (k:Below b.heap.size b c):Left a c rb tb l:=by
 obtain ⟨hk,o,cc,hr⟩:=h
 exact ⟨hk.trans (.of_below k),_,_,hr.below k⟩
def Rd (w:World) (rb tb:Nat) (l:List Tok):Prop:=∃ o c,Reads w rb tb o c l
theorem Left.rd {a b:World}{rb tb:Nat}{l:List Tok} (h:Left a b rb tb l):Rd b rb tb l:=h.reads
theorem Left.of_rd {a:World}{rb tb:Nat}{l:List Tok} (h:Rd a rb tb l):Left a a rb tb l:=⟨.refl _ _,h⟩
theorem Rd.alloc {w:World}{rb tb:Nat}{l:List Tok} (h:Rd w rb tb l) (x:Obj):Rd (w.alloc x) rb tb l:=by
 obtain ⟨o,c,h⟩:=h;exact ⟨o,c,h.alloc x⟩
theorem Rd.below {w w':World}{rb tb:Nat}{l:List Tok} (h:Rd w rb tb l) (b:Below w.heap.size w w'):Rd w' rb tb l:=by
 obtain ⟨o,c,h⟩:=h;exact ⟨o,c,h.below b⟩
theorem Rd.rbs {w:World}{rb tb:Nat}{l:List Tok} (h:Rd w rb tb l):rb < w.heap.size:=by obtain ⟨o,c,h⟩:=h;exact h.rbs
theorem Kept.rules {r:Nat}{w w':World} (h:Kept r w w'):(∀ b o,b < w.heap.size→b≠r→w'.cell? ⟨b,o,none⟩=w.cell? ⟨b,o,none⟩)∧(∀ b o,b < w.heap.size→b≠r→w'.frozen? ⟨b,o,none⟩=w.frozen? ⟨b,o,none⟩) :=
 ⟨fun _ _ hb hr=>h.cell hb hr,fun _ _ hb hr=>h.frozen hb hr⟩
theorem Left.setNew {a w:World}{rb tb b o:Nat}{l:List Tok} (h:Left a w rb tb l) (u:Value) (hb:a.heap.size≤b) (hr:b≠rb) (ht:b≠tb):Left a (w.setCell ⟨b,o,none⟩ u) rb tb l:=by
 obtain ⟨hk,p,c,h⟩:=h
 have hs:=h.rbs
 refine ⟨hk.setNew u hb,p,c,?_,h.cap,h.max,?_,h.ne,by simpa using h.tbs,?_⟩
 ·exact (World.cell?_of_block (w:=w) (Below.heap_setCell _ _ _ _ (by simpa using fun e:rb=b=>hr e.symm))).trans h.cell
 ·exact (World.frozen?_of_block (w:=w) (Below.heap_setCell _ _ _ _ (by simpa using fun e:rb=b=>hr e.symm))).trans h.free
 ·exact Toks.same (Below.heap_setCell _ _ _ _ (by simpa using fun e:tb=b=>ht e.symm)) h.toks
theorem field_text (k p:Int) (t:ByteArray) (w:World):Sem.run Tryz.prog (Instr.field 62 (.agg #[.int .u8 k,.string t,.int .i64 p]) 1) w = .ok (.string t) w:=by kernel_rfl
def isTok (t:Tok) (s:ByteArray):Bool:=(t.kind == 7 || t.kind == 3) && t.text.data.toList == s.data.toList
theorem take_rd {w:World}{rb tb:Nat}{t u:Tok}{l:List Tok} (h:Rd w rb tb (t :: u :: l)) :
  Calls Tryz.prog 82 #[.pointer (some ⟨rb,0,none⟩)] w fun e w'=>e = .returned (.agg #[.int .u8 t.kind,.string t.text,.int .i64 t.pos])∧Left w w' rb tb (u :: l):=by
 obtain ⟨o,c,h⟩:=h;exact take_ok h
theorem accept_yes {w:World}{rb tb:Nat}{t u:Tok}{l:List Tok}{s:ByteArray} (h:Rd w rb tb (t :: u :: l)) (hs:isTok t s=true) :
  Calls Tryz.prog 37 #[.pointer (some ⟨rb,0,none⟩),.string s] w fun e w'=>e = .returned (.bool true)∧Left w w' rb tb (u :: l):=by
 have h':=h
 obtain ⟨o,c,⟨hr,hcap,hmax,hf,hne,htb,⟨h0,h1,h2,hrest⟩⟩⟩:=h
 have hrb:=cell_lt hr
 simp only [List.length_cons] at hr hcap
 obtain ⟨hk,hs⟩:(t.kind=7∨t.kind=3)∧t.text.toList=s.toList:=by simpa [isTok,ByteArray.toList_eq] using hs
 go_enter Tryz.func37,Tryz.ntmps37
 rcases hk with hk | hk
 all_goals
  go_wp2_with (go_at_call 82;refine (take_rd (h'.alloc _)).mono ?_;rintro e w1 ⟨rfl,hl⟩)
  go_ret
  exact ⟨rfl,hl.from (below_alloc _ _)⟩
theorem accept_no {w:World}{rb tb:Nat}{t:Tok}{s:ByteArray}{l:List Tok} (h:Rd w rb tb (t :: l)) (hs:isTok t s=false) :
  Calls Tryz.prog 37 #[.pointer (some ⟨rb,0,none⟩),.string s] w fun e w'=>e = .returned (.bool false)∧Left w w' rb tb (t :: l):=by
 obtain ⟨o,c,h⟩:=h
 have h':=h
 obtain ⟨hr,hcap,hmax,hf,hne,htb,⟨h0,h1,h2,hrest⟩⟩:=h
 have hrb:=cell_lt hr
 simp only [List.length_cons] at hr hcap
 have hk:¬ t.text.toList=s.toList∨(t.kind≠7∧t.kind≠3):=by
  simp [isTok,← ByteArray.toList_eq] at hs
  by_cases e:t.text.toList=s.toList
  ·by_cases k7:t.kind=7
   ·exact absurd e (hs (.inl k7))
   ·by_cases k3:t.kind=3
    ·exact absurd e (hs (.inr k3))
    ·exact .inr ⟨k7,k3⟩
  ·exact .inl e
 clear hs
 go_enter Tryz.func37,Tryz.ntmps37
 by_cases hs:t.text.toList=s.toList
 ·obtain ⟨k1,k2⟩:t.kind≠7∧t.kind≠3:=by rcases hk with hk | hk;exact absurd hs hk;exact hk
  have b1:(t.kind != 7)=true:=by simpa using k1
  have b2:(t.kind != 3)=true:=by simpa using k2
  clear k1 k2 hk
  go_wp2
  go_ret
  exact ⟨rfl,.stay h' (below_alloc _ _)⟩
 ·clear hk
  go_wp2
  go_ret
  exact ⟨rfl,.stay h' (below_alloc _ _)⟩
theorem expect_ok {w:World}{rb tb:Nat}{t u:Tok}{l:List Tok}{s:ByteArray} (h:Rd w rb tb (t :: u :: l)) (hs:isTok t s=true) :
  Calls Tryz.prog 84 #[.pointer (some ⟨rb,0,none⟩),.string s] w fun e w'=>e = .returned (.tuple #[])∧Left w w' rb tb (u :: l):=by
 go_enter Tryz.func84,Tryz.ntmps84
 go_wp2_with (go_at_call 37;refine (accept_yes h hs).mono ?_;rintro e w1 ⟨rfl,hl⟩)
 go_end0
 exact ⟨rfl,hl⟩
theorem expectKind_ok {w:World}{rb tb:Nat}{t u:Tok}{l:List Tok} (h:Rd w rb tb (t :: u :: l)) :
  Calls Tryz.prog 83 #[.pointer (some ⟨rb,0,none⟩),.int .u8 t.kind] w fun e w'=>e = .returned (.agg #[.int .u8 t.kind,.string t.text,.int .i64 t.pos])∧Left w w' rb tb (u :: l):=by
 have h':=h
 obtain ⟨o,c,⟨hr,hcap,hmax,hf,hne,htb,⟨h0,h1,h2,hrest⟩⟩⟩:=h
 have hrb:=cell_lt hr
 simp only [List.length_cons] at hr hcap
 go_enter Tryz.func83,Tryz.ntmps83
 have hb:w.heap.size≠rb:=by omega
 have hbt:w.heap.size≠tb:=by omega
 go_wp2_with (go_at_call 82;refine (take_rd (h'.alloc _)).mono ?_;rintro e w1 ⟨rfl,hl⟩;obtain ⟨hc,hz⟩:=hl.kept.rules;have hs:=hl.kept.size;simp at hs hc hz)
 exact bodyPost_ret (v:=.agg #[.int .u8 t.kind,.string t.text,.int .i64 t.pos]) (by simp [results,Tryz.results83,go_sem,hc,hb]) rfl
  ⟨rfl,(((hl.from (below_alloc _ _)).setNew _ (Nat.le_refl _) hb hbt).setNew _ (Nat.le_refl _) hb hbt).setNew _ (Nat.le_refl _) hb hbt⟩
def rowOf (s:List UInt8):Int :=
 if s == [124] then 1 else if s == [44] then 2 else if s == [47,47] then 3 else if s == [124,61] || s == [61] then 4 else if s == [111,114] then 5 else if s == [97,110,100] then 6
 else if s == [61,61] || s == [33,61] || s == [60] || s == [60,61] || s == [62] || s == [62,61] then 7 else if s == [43] || s == [45] then 8 else if s == [42] || s == [47] || s == [37] then 9 else 0
theorem rowOf_any (s:ByteArray) (w:World) :
  Calls Tryz.prog 139 #[.string s] w fun e w'=>e = .returned (.int .u8 (rowOf s.data.toList))∧w'=w:=by
 rw [← ByteArray.toList_eq]
 go_enter Tryz.func139,Tryz.ntmps139
 go_wp2
 all_goals
  go_ret
  refine ⟨?_,rfl⟩
  simp_all [rowOf]
def opOf (t:Tok):Int:=if t.kind == 7 || t.kind == 3 then rowOf t.text.data.toList else 0
theorem operator_any {w:World}{rb tb:Nat}{t:Tok}{l:List Tok} (h:Rd w rb tb (t :: l)) :
  Calls Tryz.prog 86 #[.pointer (some ⟨rb,0,none⟩)] w fun e w'=>e = .returned (.int .u8 (opOf t))∧Left w w' rb tb (t :: l):=by
 obtain ⟨o,c,h⟩:=h
 have h':=h
 obtain ⟨hr,hcap,hmax,hf,hne,htb,⟨h0,h1,h2,hrest⟩⟩:=h
 have hrb:=cell_lt hr
 simp only [List.length_cons] at hr hcap
 go_enter Tryz.func86,Tryz.ntmps86
 by_cases k7:t.kind=7
 ·go_wp2_with (go_at_call 139;refine (rowOf_any _ _).mono ?_;rintro e w1 ⟨rfl,rfl⟩)
  go_ret
  exact ⟨by simp [opOf,k7],.stay h' (below_alloc _ _)⟩
 ·by_cases k3:t.kind=3
  ·go_wp2_with (go_at_call 139;refine (rowOf_any _ _).mono ?_;rintro e w1 ⟨rfl,rfl⟩)
   go_ret
   exact ⟨by simp [opOf,k3],.stay h' (below_alloc _ _)⟩
  ·have b1:(t.kind != 7)=true:=by simpa using k7
   have b2:(t.kind != 3)=true:=by simpa using k3
   go_wp2_with (go_at_call 139;refine (rowOf_any _ _).mono ?_;rintro e w1 ⟨rfl,rfl⟩)
   go_ret
   exact ⟨by simp [opOf,k7,k3],.stay h' (below_alloc _ _)⟩
structure Pay where
 s:ByteArray
 q:ByteArray
 r:ByteArray
 n:Int
 b:Bool
def e0:ByteArray:=⟨#[]⟩
abbrev Tr:=Ask Pay
def Tr.no:Tr:=.done ⟨e0,e0,e0,0,false⟩
def Tr.nd (kind:Nat) (y:Pay) (a b c:Tr):Tr:=.ask "" kind fun i=>match i with
 | 0=>.done y
 | 1=>a
 | 2=>b
 | _=>c
def payOf:Tr→Pay
 | .done y=>y
 | .ask _ _ _=>⟨e0,e0,e0,0,false⟩
def Tr.ident:Tr:=Tr.nd 0 ⟨e0,e0,e0,0,false⟩ Tr.no Tr.no Tr.no
def Tr.num (n:Int):Tr:=Tr.nd 1 ⟨e0,e0,e0,n,false⟩ Tr.no Tr.no Tr.no
def Tr.null:Tr:=Tr.nd 2 ⟨e0,e0,e0,0,false⟩ Tr.no Tr.no Tr.no
def Tr.bool (x:Bool):Tr:=Tr.nd 3 ⟨e0,e0,e0,0,x⟩ Tr.no Tr.no Tr.no
def Tr.var (name:ByteArray) (pos:Int):Tr:=Tr.nd 4 ⟨name,e0,e0,pos,false⟩ Tr.no Tr.no Tr.no
def Tr.index (s:Tr) (t:Tr):Tr:=Tr.nd 5 ⟨e0,e0,e0,0,false⟩ s t Tr.no
def Tr.each (s:Tr):Tr:=Tr.nd 6 ⟨e0,e0,e0,0,false⟩ s Tr.no Tr.no
def Tr.collect (s:Tr):Tr:=Tr.nd 7 ⟨e0,e0,e0,0,false⟩ s Tr.no Tr.no
def Tr.call0 (name:ByteArray) (pos:Int):Tr:=Tr.nd 8 ⟨name,e0,e0,pos,false⟩ Tr.no Tr.no Tr.no
def Tr.call1 (name:ByteArray) (s:Tr) (pos:Int):Tr:=Tr.nd 9 ⟨name,e0,e0,pos,false⟩ s Tr.no Tr.no
def Tr.call2 (name:ByteArray) (s:Tr) (t:Tr) (pos:Int):Tr:=Tr.nd 10 ⟨name,e0,e0,pos,false⟩ s t Tr.no
def Tr.bin (s:Tr) (op:ByteArray) (t:Tr):Tr:=Tr.nd 11 ⟨op,e0,e0,0,false⟩ s t Tr.no
def Tr.tries (s:Tr) (t:Tr):Tr:=Tr.nd 12 ⟨e0,e0,e0,0,false⟩ s t Tr.no
def Tr.red (s:Tr) (vn:ByteArray) (t:Tr) (u:Tr):Tr:=Tr.nd 13 ⟨vn,e0,e0,0,false⟩ s t u
def Tr.ite (s:Tr) (t:Tr) (u:Tr):Tr:=Tr.nd 14 ⟨e0,e0,e0,0,false⟩ s t u
def Tr.def1 (name:ByteArray) (q:ByteArray) (s:Tr) (t:Tr):Tr:=Tr.nd 15 ⟨name,q,e0,0,false⟩ s t Tr.no
def Tr.def2 (name:ByteArray) (q:ByteArray) (r:ByteArray) (s:Tr) (t:Tr):Tr:=Tr.nd 16 ⟨name,q,r,0,false⟩ s t Tr.no
def Tr.desc:Tr:=Tr.nd 17 ⟨e0,e0,e0,0,false⟩ Tr.no Tr.no Tr.no
def Tr.bind (s:Tr) (vn:ByteArray) (t:Tr):Tr:=Tr.nd 18 ⟨vn,e0,e0,0,false⟩ s t Tr.no
def Tr.str (x:ByteArray):Tr:=Tr.nd 19 ⟨x,e0,e0,0,false⟩ Tr.no Tr.no Tr.no
def Tr.coll0:Tr:=Tr.nd 20 ⟨e0,e0,e0,0,false⟩ Tr.no Tr.no Tr.no
def Rep (p:Nat→Prop) (w:World):Value→Tr→Prop
 | _,.done _=>False
 | v,.ask _ kind k=>match kind with
  | 0=>∃ (b:Nat),v = .iface 125 (.pointer (some ⟨b,0,none⟩))
  | 1=>∃ (b:Nat),v = .iface 224 (.pointer (some ⟨b,0,none⟩))∧p b∧w.cell? ⟨b,0,none⟩=some (.iface 98 (.int .i64 (payOf (k 0)).n))
  | 2=>∃ (b:Nat),v = .iface 224 (.pointer (some ⟨b,0,none⟩))∧p b∧w.cell? ⟨b,0,none⟩=some (.iface 95 (.agg #[]))
  | 3=>∃ (b:Nat),v = .iface 224 (.pointer (some ⟨b,0,none⟩))∧p b∧w.cell? ⟨b,0,none⟩=some (.iface 96 (.bool (payOf (k 0)).b))
  | 4=>∃ (b:Nat),v = .iface 227 (.pointer (some ⟨b,0,none⟩))∧p b∧w.cell? ⟨b,0,none⟩=some (.string (payOf (k 0)).s)∧w.cell? ⟨b,1,none⟩=some (.int .i64 (payOf (k 0)).n)
  | 5=>∃ (b:Nat) (x y:Value),v = .iface 134 (.pointer (some ⟨b,0,none⟩))∧p b∧w.cell? ⟨b,0,none⟩=some x∧w.cell? ⟨b,1,none⟩=some y∧Rep p w x (k 1)∧Rep p w y (k 2)
  | 6=>∃ (b:Nat) (x:Value),v = .iface 139 (.pointer (some ⟨b,0,none⟩))∧p b∧w.cell? ⟨b,0,none⟩=some x∧Rep p w x (k 1)
  | 7=>∃ (b:Nat) (x:Value),v = .iface 230 (.pointer (some ⟨b,0,none⟩))∧p b∧w.cell? ⟨b,0,none⟩=some x∧Rep p w x (k 1)
  | 8=>∃ (b:Nat),v = .iface 169 (.pointer (some ⟨b,0,none⟩))∧p b∧w.cell? ⟨b,0,none⟩=some (.string (payOf (k 0)).s)∧w.cell? ⟨b,1,none⟩=some (.slice none 0 0)∧w.cell? ⟨b,2,none⟩=some (.int .i64 (payOf (k 0)).n)
  | 9=>∃ (b d o c:Nat) (x:Value),v = .iface 169 (.pointer (some ⟨b,0,none⟩))∧p b∧p d∧w.cell? ⟨b,0,none⟩=some (.string (payOf (k 0)).s)∧w.cell? ⟨b,1,none⟩=some (.slice (some ⟨d,o,none⟩) 1 c)∧w.cell? ⟨b,2,none⟩=some (.int .i64 (payOf (k 0)).n)∧w.cell? ⟨d,o,none⟩=some x∧Rep p w x (k 1)
  | 10=>∃ (b d o c:Nat) (x y:Value),v = .iface 169 (.pointer (some ⟨b,0,none⟩))∧p b∧p d∧w.cell? ⟨b,0,none⟩=some (.string (payOf (k 0)).s)∧w.cell? ⟨b,1,none⟩=some (.slice (some ⟨d,o,none⟩) 2 c)∧w.cell? ⟨b,2,none⟩=some (.int .i64 (payOf (k 0)).n)∧w.cell? ⟨d,o,none⟩=some x∧w.cell? ⟨d,o+1,none⟩=some y∧Rep p w x (k 1)∧Rep p w y (k 2)
  | 11=>∃ (b:Nat) (x y:Value),v = .iface 171 (.pointer (some ⟨b,0,none⟩))∧p b∧w.cell? ⟨b,0,none⟩=some x∧w.cell? ⟨b,1,none⟩=some (.string (payOf (k 0)).s)∧w.cell? ⟨b,2,none⟩=some y∧Rep p w x (k 1)∧Rep p w y (k 2)
  | 12=>∃ (b:Nat) (x y:Value),v = .iface 145 (.pointer (some ⟨b,0,none⟩))∧p b∧w.cell? ⟨b,0,none⟩=some x∧w.cell? ⟨b,1,none⟩=some y∧Rep p w x (k 1)∧Rep p w y (k 2)
  | 13=>∃ (b:Nat) (x y z:Value),v = .iface 164 (.pointer (some ⟨b,0,none⟩))∧p b∧w.cell? ⟨b,0,none⟩=some x∧w.cell? ⟨b,1,none⟩=some (.string (payOf (k 0)).s)∧w.cell? ⟨b,2,none⟩=some y∧w.cell? ⟨b,3,none⟩=some z∧Rep p w x (k 1)∧Rep p w y (k 2)∧Rep p w z (k 3)
  | 14=>∃ (b:Nat) (x y z:Value),v = .iface 158 (.pointer (some ⟨b,0,none⟩))∧p b∧w.cell? ⟨b,0,none⟩=some x∧w.cell? ⟨b,1,none⟩=some y∧w.cell? ⟨b,2,none⟩=some z∧Rep p w x (k 1)∧Rep p w y (k 2)∧Rep p w z (k 3)
  | 15=>∃ (b d o c:Nat) (x y:Value),v = .iface 120 (.pointer (some ⟨b,0,none⟩))∧p b∧p d∧w.cell? ⟨b,0,none⟩=some (.string (payOf (k 0)).s)∧w.cell? ⟨b,1,none⟩=some (.slice (some ⟨d,o,none⟩) 1 c)∧w.cell? ⟨d,o,none⟩=some (.string (payOf (k 0)).q)∧w.cell? ⟨b,2,none⟩=some x∧w.cell? ⟨b,3,none⟩=some y∧Rep p w x (k 1)∧Rep p w y (k 2)
  | 16=>∃ (b d o c:Nat) (x y:Value),v = .iface 120 (.pointer (some ⟨b,0,none⟩))∧p b∧p d∧w.cell? ⟨b,0,none⟩=some (.string (payOf (k 0)).s)∧w.cell? ⟨b,1,none⟩=some (.slice (some ⟨d,o,none⟩) 2 c)∧w.cell? ⟨d,o,none⟩=some (.string (payOf (k 0)).q)∧w.cell? ⟨d,o+1,none⟩=some (.string (payOf (k 0)).r)∧w.cell? ⟨b,2,none⟩=some x∧w.cell? ⟨b,3,none⟩=some y∧Rep p w x (k 1)∧Rep p w y (k 2)
  | 17=>∃ (b:Nat),v = .iface 127 (.pointer (some ⟨b,0,none⟩))
  | 18=>∃ (b:Nat) (x y:Value),v = .iface 160 (.pointer (some ⟨b,0,none⟩))∧p b∧w.cell? ⟨b,0,none⟩=some x∧w.cell? ⟨b,1,none⟩=some (.string (payOf (k 0)).s)∧w.cell? ⟨b,2,none⟩=some y∧Rep p w x (k 1)∧Rep p w y (k 2)
  | 19=>∃ (b:Nat),v = .iface 224 (.pointer (some ⟨b,0,none⟩))∧p b∧w.cell? ⟨b,0,none⟩=some (.iface 100 (.string (payOf (k 0)).s))
  | 20=>∃ (b:Nat),v = .iface 230 (.pointer (some ⟨b,0,none⟩))∧p b∧w.cell? ⟨b,0,none⟩=some .nilIface
  | _=>False
theorem Rep.ident_of {p:Nat→Prop}{w:World}{v:Value} (h:Rep p w v (Tr.ident)):∃ (b:Nat),v = .iface 125 (.pointer (some ⟨b,0,none⟩)):=h
theorem Rep.ident {p:Nat→Prop}{w:World}{b:Nat}:Rep p w (.iface 125 (.pointer (some ⟨b,0,none⟩))) (Tr.ident) :=
 (show ∃ (b':Nat),Value.iface 125 (.pointer (some ⟨b,0,none⟩)) = .iface 125 (.pointer (some ⟨b',0,none⟩)) from ⟨b,rfl⟩)
theorem Rep.num_of {p:Nat→Prop}{w:World}{v:Value}{n:Int} (h:Rep p w v (Tr.num n)):∃ (b:Nat),v = .iface 224 (.pointer (some ⟨b,0,none⟩))∧p b∧w.cell? ⟨b,0,none⟩=some (.iface 98 (.int .i64 n)):=h
theorem Rep.num {p:Nat→Prop}{w:World}{b:Nat}{n:Int} (h0:p b) (h1:w.cell? ⟨b,0,none⟩=some (.iface 98 (.int .i64 n))):Rep p w (.iface 224 (.pointer (some ⟨b,0,none⟩))) (Tr.num n) :=
 (show ∃ (b':Nat),Value.iface 224 (.pointer (some ⟨b,0,none⟩)) = .iface 224 (.pointer (some ⟨b',0,none⟩))∧p b'∧w.cell? ⟨b',0,none⟩=some (.iface 98 (.int .i64 n)) from ⟨b,rfl,h0,h1⟩)
theorem Rep.null {p:Nat→Prop}{w:World}{b:Nat} (h0:p b) (h1:w.cell? ⟨b,0,none⟩=some (.iface 95 (.agg #[]))):Rep p w (.iface 224 (.pointer (some ⟨b,0,none⟩))) (Tr.null) :=
 (show ∃ (b':Nat),Value.iface 224 (.pointer (some ⟨b,0,none⟩)) = .iface 224 (.pointer (some ⟨b',0,none⟩))∧p b'∧w.cell? ⟨b',0,none⟩=some (.iface 95 (.agg #[])) from ⟨b,rfl,h0,h1⟩)
theorem Rep.bool_of {p:Nat→Prop}{w:World}{v:Value}{x:Bool} (h:Rep p w v (Tr.bool x)):∃ (b:Nat),v = .iface 224 (.pointer (some ⟨b,0,none⟩))∧p b∧w.cell? ⟨b,0,none⟩=some (.iface 96 (.bool x)):=h
theorem Rep.bool {p:Nat→Prop}{w:World}{b:Nat}{x:Bool} (h0:p b) (h1:w.cell? ⟨b,0,none⟩=some (.iface 96 (.bool x))):Rep p w (.iface 224 (.pointer (some ⟨b,0,none⟩))) (Tr.bool x) :=
 (show ∃ (b':Nat),Value.iface 224 (.pointer (some ⟨b,0,none⟩)) = .iface 224 (.pointer (some ⟨b',0,none⟩))∧p b'∧w.cell? ⟨b',0,none⟩=some (.iface 96 (.bool x)) from ⟨b,rfl,h0,h1⟩)
theorem Rep.var_of {p:Nat→Prop}{w:World}{v:Value}{name:ByteArray}{pos:Int} (h:Rep p w v (Tr.var name pos)):∃ (b:Nat),v = .iface 227 (.pointer (some ⟨b,0,none⟩))∧p b∧w.cell? ⟨b,0,none⟩=some (.string name)∧w.cell? ⟨b,1,none⟩=some (.int .i64 pos):=h
theorem Rep.var {p:Nat→Prop}{w:World}{b:Nat}{name:ByteArray}{pos:Int} (h0:p b) (h1:w.cell? ⟨b,0,none⟩=some (.string name)) (h2:w.cell? ⟨b,1,none⟩=some (.int .i64 pos)):Rep p w (.iface 227 (.pointer (some ⟨b,0,none⟩))) (Tr.var name pos) :=
 (show ∃ (b':Nat),Value.iface 227 (.pointer (some ⟨b,0,none⟩)) = .iface 227 (.pointer (some ⟨b',0,none⟩))∧p b'∧w.cell? ⟨b',0,none⟩=some (.string name)∧w.cell? ⟨b',1,none⟩=some (.int .i64 pos) from ⟨b,rfl,h0,h1,h2⟩)
theorem Rep.index_of {p:Nat→Prop}{w:World}{v:Value}{s:Tr}{t:Tr} (h:Rep p w v (Tr.index s t)):∃ (b:Nat) (x y:Value),v = .iface 134 (.pointer (some ⟨b,0,none⟩))∧p b∧w.cell? ⟨b,0,none⟩=some x∧w.cell? ⟨b,1,none⟩=some y∧Rep p w x s∧Rep p w y t:=h
theorem Rep.index {p:Nat→Prop}{w:World}{b:Nat}{x y:Value}{s:Tr}{t:Tr} (h0:p b) (h1:w.cell? ⟨b,0,none⟩=some x) (h2:w.cell? ⟨b,1,none⟩=some y) (h3:Rep p w x s) (h4:Rep p w y t):Rep p w (.iface 134 (.pointer (some ⟨b,0,none⟩))) (Tr.index s t) :=
 (show ∃ (b':Nat) (x' y':Value),Value.iface 134 (.pointer (some ⟨b,0,none⟩)) = .iface 134 (.pointer (some ⟨b',0,none⟩))∧p b'∧w.cell? ⟨b',0,none⟩=some x'∧w.cell? ⟨b',1,none⟩=some y'∧Rep p w x' s∧Rep p w y' t from ⟨b,x,y,rfl,h0,h1,h2,h3,h4⟩)
theorem Rep.each_of {p:Nat→Prop}{w:World}{v:Value}{s:Tr} (h:Rep p w v (Tr.each s)):∃ (b:Nat) (x:Value),v = .iface 139 (.pointer (some ⟨b,0,none⟩))∧p b∧w.cell? ⟨b,0,none⟩=some x∧Rep p w x s:=h
theorem Rep.each {p:Nat→Prop}{w:World}{b:Nat}{x:Value}{s:Tr} (h0:p b) (h1:w.cell? ⟨b,0,none⟩=some x) (h2:Rep p w x s):Rep p w (.iface 139 (.pointer (some ⟨b,0,none⟩))) (Tr.each s) :=
 (show ∃ (b':Nat) (x':Value),Value.iface 139 (.pointer (some ⟨b,0,none⟩)) = .iface 139 (.pointer (some ⟨b',0,none⟩))∧p b'∧w.cell? ⟨b',0,none⟩=some x'∧Rep p w x' s from ⟨b,x,rfl,h0,h1,h2⟩)
theorem Rep.collect_of {p:Nat→Prop}{w:World}{v:Value}{s:Tr} (h:Rep p w v (Tr.collect s)):∃ (b:Nat) (x:Value),v = .iface 230 (.pointer (some ⟨b,0,none⟩))∧p b∧w.cell? ⟨b,0,none⟩=some x∧Rep p w x s:=h
theorem Rep.collect {p:Nat→Prop}{w:World}{b:Nat}{x:Value}{s:Tr} (h0:p b) (h1:w.cell? ⟨b,0,none⟩=some x) (h2:Rep p w x s):Rep p w (.iface 230 (.pointer (some ⟨b,0,none⟩))) (Tr.collect s) :=
 (show ∃ (b':Nat) (x':Value),Value.iface 230 (.pointer (some ⟨b,0,none⟩)) = .iface 230 (.pointer (some ⟨b',0,none⟩))∧p b'∧w.cell? ⟨b',0,none⟩=some x'∧Rep p w x' s from ⟨b,x,rfl,h0,h1,h2⟩)
theorem Rep.call0_of {p:Nat→Prop}{w:World}{v:Value}{name:ByteArray}{pos:Int} (h:Rep p w v (Tr.call0 name pos)):∃ (b:Nat),v = .iface 169 (.pointer (some ⟨b,0,none⟩))∧p b∧w.cell? ⟨b,0,none⟩=some (.string name)∧w.cell? ⟨b,1,none⟩=some (.slice none 0 0)∧w.cell? ⟨b,2,none⟩=some (.int .i64 pos):=h
theorem Rep.call0 {p:Nat→Prop}{w:World}{b:Nat}{name:ByteArray}{pos:Int} (h0:p b) (h1:w.cell? ⟨b,0,none⟩=some (.string name)) (h2:w.cell? ⟨b,1,none⟩=some (.slice none 0 0)) (h3:w.cell? ⟨b,2,none⟩=some (.int .i64 pos)):Rep p w (.iface 169 (.pointer (some ⟨b,0,none⟩))) (Tr.call0 name pos) :=
 (show ∃ (b':Nat),Value.iface 169 (.pointer (some ⟨b,0,none⟩)) = .iface 169 (.pointer (some ⟨b',0,none⟩))∧p b'∧w.cell? ⟨b',0,none⟩=some (.string name)∧w.cell? ⟨b',1,none⟩=some (.slice none 0 0)∧w.cell? ⟨b',2,none⟩=some (.int .i64 pos) from ⟨b,rfl,h0,h1,h2,h3⟩)
theorem Rep.call1_of {p:Nat→Prop}{w:World}{v:Value}{name:ByteArray}{s:Tr}{pos:Int} (h:Rep p w v (Tr.call1 name s pos)):∃ (b d o c:Nat) (x:Value),v = .iface 169 (.pointer (some ⟨b,0,none⟩))∧p b∧p d∧w.cell? ⟨b,0,none⟩=some (.string name)∧w.cell? ⟨b,1,none⟩=some (.slice (some ⟨d,o,none⟩) 1 c)∧w.cell? ⟨b,2,none⟩=some (.int .i64 pos)∧w.cell? ⟨d,o,none⟩=some x∧Rep p w x s:=h
theorem Rep.call1 {p:Nat→Prop}{w:World}{b d o c:Nat}{x:Value}{name:ByteArray}{s:Tr}{pos:Int} (h0:p b) (h1:p d) (h2:w.cell? ⟨b,0,none⟩=some (.string name)) (h3:w.cell? ⟨b,1,none⟩=some (.slice (some ⟨d,o,none⟩) 1 c)) (h4:w.cell? ⟨b,2,none⟩=some (.int .i64 pos)) (h5:w.cell? ⟨d,o,none⟩=some x) (h6:Rep p w x s):Rep p w (.iface 169 (.pointer (some ⟨b,0,none⟩))) (Tr.call1 name s pos) :=
 (show ∃ (b' d' o' c':Nat) (x':Value),Value.iface 169 (.pointer (some ⟨b,0,none⟩)) = .iface 169 (.pointer (some ⟨b',0,none⟩))∧p b'∧p d'∧w.cell? ⟨b',0,none⟩=some (.string name)∧w.cell? ⟨b',1,none⟩=some (.slice (some ⟨d',o',none⟩) 1 c')∧w.cell? ⟨b',2,none⟩=some (.int .i64 pos)∧w.cell? ⟨d',o',none⟩=some x'∧Rep p w x' s from ⟨b,d,o,c,x,rfl,h0,h1,h2,h3,h4,h5,h6⟩)
theorem Rep.call2_of {p:Nat→Prop}{w:World}{v:Value}{name:ByteArray}{s:Tr}{t:Tr}{pos:Int} (h:Rep p w v (Tr.call2 name s t pos)):∃ (b d o c:Nat) (x y:Value),v = .iface 169 (.pointer (some ⟨b,0,none⟩))∧p b∧p d∧w.cell? ⟨b,0,none⟩=some (.string name)∧w.cell? ⟨b,1,none⟩=some (.slice (some ⟨d,o,none⟩) 2 c)∧w.cell? ⟨b,2,none⟩=some (.int .i64 pos)∧w.cell? ⟨d,o,none⟩=some x∧w.cell? ⟨d,o+1,none⟩=some y∧Rep p w x s∧Rep p w y t:=h
theorem Rep.call2 {p:Nat→Prop}{w:World}{b d o c:Nat}{x y:Value}{name:ByteArray}{s:Tr}{t:Tr}{pos:Int} (h0:p b) (h1:p d) (h2:w.cell? ⟨b,0,none⟩=some (.string name)) (h3:w.cell? ⟨b,1,none⟩=some (.slice (some ⟨d,o,none⟩) 2 c)) (h4:w.cell? ⟨b,2,none⟩=some (.int .i64 pos)) (h5:w.cell? ⟨d,o,none⟩=some x) (h6:w.cell? ⟨d,o+1,none⟩=some y) (h7:Rep p w x s) (h8:Rep p w y t):Rep p w (.iface 169 (.pointer (some ⟨b,0,none⟩))) (Tr.call2 name s t pos) :=
 (show ∃ (b' d' o' c':Nat) (x' y':Value),Value.iface 169 (.pointer (some ⟨b,0,none⟩)) = .iface 169 (.pointer (some ⟨b',0,none⟩))∧p b'∧p d'∧w.cell? ⟨b',0,none⟩=some (.string name)∧w.cell? ⟨b',1,none⟩=some (.slice (some ⟨d',o',none⟩) 2 c')∧w.cell? ⟨b',2,none⟩=some (.int .i64 pos)∧w.cell? ⟨d',o',none⟩=some x'∧w.cell? ⟨d',o'+1,none⟩=some y'∧Rep p w x' s∧Rep p w y' t from ⟨b,d,o,c,x,y,rfl,h0,h1,h2,h3,h4,h5,h6,h7,h8⟩)
theorem Rep.bin_of {p:Nat→Prop}{w:World}{v:Value}{s:Tr}{op:ByteArray}{t:Tr} (h:Rep p w v (Tr.bin s op t)):∃ (b:Nat) (x y:Value),v = .iface 171 (.pointer (some ⟨b,0,none⟩))∧p b∧w.cell? ⟨b,0,none⟩=some x∧w.cell? ⟨b,1,none⟩=some (.string op)∧w.cell? ⟨b,2,none⟩=some y∧Rep p w x s∧Rep p w y t:=h
theorem Rep.bin {p:Nat→Prop}{w:World}{b:Nat}{x y:Value}{s:Tr}{op:ByteArray}{t:Tr} (h0:p b) (h1:w.cell? ⟨b,0,none⟩=some x) (h2:w.cell? ⟨b,1,none⟩=some (.string op)) (h3:w.cell? ⟨b,2,none⟩=some y) (h4:Rep p w x s) (h5:Rep p w y t):Rep p w (.iface 171 (.pointer (some ⟨b,0,none⟩))) (Tr.bin s op t) :=
 (show ∃ (b':Nat) (x' y':Value),Value.iface 171 (.pointer (some ⟨b,0,none⟩)) = .iface 171 (.pointer (some ⟨b',0,none⟩))∧p b'∧w.cell? ⟨b',0,none⟩=some x'∧w.cell? ⟨b',1,none⟩=some (.string op)∧w.cell? ⟨b',2,none⟩=some y'∧Rep p w x' s∧Rep p w y' t from ⟨b,x,y,rfl,h0,h1,h2,h3,h4,h5⟩)
theorem Rep.tries {p:Nat→Prop}{w:World}{b:Nat}{x y:Value}{s:Tr}{t:Tr} (h0:p b) (h1:w.cell? ⟨b,0,none⟩=some x) (h2:w.cell? ⟨b,1,none⟩=some y) (h3:Rep p w x s) (h4:Rep p w y t):Rep p w (.iface 145 (.pointer (some ⟨b,0,none⟩))) (Tr.tries s t) :=
 (show ∃ (b':Nat) (x' y':Value),Value.iface 145 (.pointer (some ⟨b,0,none⟩)) = .iface 145 (.pointer (some ⟨b',0,none⟩))∧p b'∧w.cell? ⟨b',0,none⟩=some x'∧w.cell? ⟨b',1,none⟩=some y'∧Rep p w x' s∧Rep p w y' t from ⟨b,x,y,rfl,h0,h1,h2,h3,h4⟩)
theorem Rep.red {p:Nat→Prop}{w:World}{b:Nat}{x y z:Value}{s:Tr}{vn:ByteArray}{t:Tr}{u:Tr} (h0:p b) (h1:w.cell? ⟨b,0,none⟩=some x) (h2:w.cell? ⟨b,1,none⟩=some (.string vn)) (h3:w.cell? ⟨b,2,none⟩=some y) (h4:w.cell? ⟨b,3,none⟩=some z) (h5:Rep p w x s) (h6:Rep p w y t) (h7:Rep p w z u):Rep p w (.iface 164 (.pointer (some ⟨b,0,none⟩))) (Tr.red s vn t u) :=
 (show ∃ (b':Nat) (x' y' z':Value),Value.iface 164 (.pointer (some ⟨b,0,none⟩)) = .iface 164 (.pointer (some ⟨b',0,none⟩))∧p b'∧w.cell? ⟨b',0,none⟩=some x'∧w.cell? ⟨b',1,none⟩=some (.string vn)∧w.cell? ⟨b',2,none⟩=some y'∧w.cell? ⟨b',3,none⟩=some z'∧Rep p w x' s∧Rep p w y' t∧Rep p w z' u from ⟨b,x,y,z,rfl,h0,h1,h2,h3,h4,h5,h6,h7⟩)
theorem Rep.ite_of {p:Nat→Prop}{w:World}{v:Value}{s:Tr}{t:Tr}{u:Tr} (h:Rep p w v (Tr.ite s t u)):∃ (b:Nat) (x y z:Value),v = .iface 158 (.pointer (some ⟨b,0,none⟩))∧p b∧w.cell? ⟨b,0,none⟩=some x∧w.cell? ⟨b,1,none⟩=some y∧w.cell? ⟨b,2,none⟩=some z∧Rep p w x s∧Rep p w y t∧Rep p w z u:=h
theorem Rep.ite {p:Nat→Prop}{w:World}{b:Nat}{x y z:Value}{s:Tr}{t:Tr}{u:Tr} (h0:p b) (h1:w.cell? ⟨b,0,none⟩=some x) (h2:w.cell? ⟨b,1,none⟩=some y) (h3:w.cell? ⟨b,2,none⟩=some z) (h4:Rep p w x s) (h5:Rep p w y t) (h6:Rep p w z u):Rep p w (.iface 158 (.pointer (some ⟨b,0,none⟩))) (Tr.ite s t u) :=
 (show ∃ (b':Nat) (x' y' z':Value),Value.iface 158 (.pointer (some ⟨b,0,none⟩)) = .iface 158 (.pointer (some ⟨b',0,none⟩))∧p b'∧w.cell? ⟨b',0,none⟩=some x'∧w.cell? ⟨b',1,none⟩=some y'∧w.cell? ⟨b',2,none⟩=some z'∧Rep p w x' s∧Rep p w y' t∧Rep p w z' u from ⟨b,x,y,z,rfl,h0,h1,h2,h3,h4,h5,h6⟩)
theorem Rep.def1 {p:Nat→Prop}{w:World}{b d o c:Nat}{x y:Value}{name:ByteArray}{q:ByteArray}{s:Tr}{t:Tr} (h0:p b) (h1:p d) (h2:w.cell? ⟨b,0,none⟩=some (.string name)) (h3:w.cell? ⟨b,1,none⟩=some (.slice (some ⟨d,o,none⟩) 1 c)) (h4:w.cell? ⟨d,o,none⟩=some (.string q)) (h5:w.cell? ⟨b,2,none⟩=some x) (h6:w.cell? ⟨b,3,none⟩=some y) (h7:Rep p w x s) (h8:Rep p w y t):Rep p w (.iface 120 (.pointer (some ⟨b,0,none⟩))) (Tr.def1 name q s t) :=
 (show ∃ (b' d' o' c':Nat) (x' y':Value),Value.iface 120 (.pointer (some ⟨b,0,none⟩)) = .iface 120 (.pointer (some ⟨b',0,none⟩))∧p b'∧p d'∧w.cell? ⟨b',0,none⟩=some (.string name)∧w.cell? ⟨b',1,none⟩=some (.slice (some ⟨d',o',none⟩) 1 c')∧w.cell? ⟨d',o',none⟩=some (.string q)∧w.cell? ⟨b',2,none⟩=some x'∧w.cell? ⟨b',3,none⟩=some y'∧Rep p w x' s∧Rep p w y' t from ⟨b,d,o,c,x,y,rfl,h0,h1,h2,h3,h4,h5,h6,h7,h8⟩)
theorem Rep.def2 {p:Nat→Prop}{w:World}{b d o c:Nat}{x y:Value}{name:ByteArray}{q:ByteArray}{r:ByteArray}{s:Tr}{t:Tr} (h0:p b) (h1:p d) (h2:w.cell? ⟨b,0,none⟩=some (.string name)) (h3:w.cell? ⟨b,1,none⟩=some (.slice (some ⟨d,o,none⟩) 2 c)) (h4:w.cell? ⟨d,o,none⟩=some (.string q)) (h5:w.cell? ⟨d,o+1,none⟩=some (.string r)) (h6:w.cell? ⟨b,2,none⟩=some x) (h7:w.cell? ⟨b,3,none⟩=some y) (h8:Rep p w x s) (h9:Rep p w y t):Rep p w (.iface 120 (.pointer (some ⟨b,0,none⟩))) (Tr.def2 name q r s t) :=
 (show ∃ (b' d' o' c':Nat) (x' y':Value),Value.iface 120 (.pointer (some ⟨b,0,none⟩)) = .iface 120 (.pointer (some ⟨b',0,none⟩))∧p b'∧p d'∧w.cell? ⟨b',0,none⟩=some (.string name)∧w.cell? ⟨b',1,none⟩=some (.slice (some ⟨d',o',none⟩) 2 c')∧w.cell? ⟨d',o',none⟩=some (.string q)∧w.cell? ⟨d',o'+1,none⟩=some (.string r)∧w.cell? ⟨b',2,none⟩=some x'∧w.cell? ⟨b',3,none⟩=some y'∧Rep p w x' s∧Rep p w y' t from ⟨b,d,o,c,x,y,rfl,h0,h1,h2,h3,h4,h5,h6,h7,h8,h9⟩)
theorem Rep.desc {p:Nat→Prop}{w:World}{b:Nat}:Rep p w (.iface 127 (.pointer (some ⟨b,0,none⟩))) (Tr.desc) :=
 (show ∃ (b':Nat),Value.iface 127 (.pointer (some ⟨b,0,none⟩)) = .iface 127 (.pointer (some ⟨b',0,none⟩)) from ⟨b,rfl⟩)
theorem Rep.bind_of {p:Nat→Prop}{w:World}{v:Value}{s:Tr}{vn:ByteArray}{t:Tr} (h:Rep p w v (Tr.bind s vn t)):∃ (b:Nat) (x y:Value),v = .iface 160 (.pointer (some ⟨b,0,none⟩))∧p b∧w.cell? ⟨b,0,none⟩=some x∧w.cell? ⟨b,1,none⟩=some (.string vn)∧w.cell? ⟨b,2,none⟩=some y∧Rep p w x s∧Rep p w y t:=h
theorem Rep.bind {p:Nat→Prop}{w:World}{b:Nat}{x y:Value}{s:Tr}{vn:ByteArray}{t:Tr} (h0:p b) (h1:w.cell? ⟨b,0,none⟩=some x) (h2:w.cell? ⟨b,1,none⟩=some (.string vn)) (h3:w.cell? ⟨b,2,none⟩=some y) (h4:Rep p w x s) (h5:Rep p w y t):Rep p w (.iface 160 (.pointer (some ⟨b,0,none⟩))) (Tr.bind s vn t) :=
 (show ∃ (b':Nat) (x' y':Value),Value.iface 160 (.pointer (some ⟨b,0,none⟩)) = .iface 160 (.pointer (some ⟨b',0,none⟩))∧p b'∧w.cell? ⟨b',0,none⟩=some x'∧w.cell? ⟨b',1,none⟩=some (.string vn)∧w.cell? ⟨b',2,none⟩=some y'∧Rep p w x' s∧Rep p w y' t from ⟨b,x,y,rfl,h0,h1,h2,h3,h4,h5⟩)
theorem Rep.str_of {p:Nat→Prop}{w:World}{v:Value}{x:ByteArray} (h:Rep p w v (Tr.str x)):∃ (b:Nat),v = .iface 224 (.pointer (some ⟨b,0,none⟩))∧p b∧w.cell? ⟨b,0,none⟩=some (.iface 100 (.string x)):=h
theorem Rep.str {p:Nat→Prop}{w:World}{b:Nat}{x:ByteArray} (h0:p b) (h1:w.cell? ⟨b,0,none⟩=some (.iface 100 (.string x))):Rep p w (.iface 224 (.pointer (some ⟨b,0,none⟩))) (Tr.str x) :=
 (show ∃ (b':Nat),Value.iface 224 (.pointer (some ⟨b,0,none⟩)) = .iface 224 (.pointer (some ⟨b',0,none⟩))∧p b'∧w.cell? ⟨b',0,none⟩=some (.iface 100 (.string x)) from ⟨b,rfl,h0,h1⟩)
theorem Rep.coll0_of {p:Nat→Prop}{w:World}{v:Value} (h:Rep p w v (Tr.coll0)):∃ (b:Nat),v = .iface 230 (.pointer (some ⟨b,0,none⟩))∧p b∧w.cell? ⟨b,0,none⟩=some .nilIface:=h
theorem Rep.coll0 {p:Nat→Prop}{w:World}{b:Nat} (h0:p b) (h1:w.cell? ⟨b,0,none⟩=some .nilIface):Rep p w (.iface 230 (.pointer (some ⟨b,0,none⟩))) (Tr.coll0) :=
 (show ∃ (b':Nat),Value.iface 230 (.pointer (some ⟨b,0,none⟩)) = .iface 230 (.pointer (some ⟨b',0,none⟩))∧p b'∧w.cell? ⟨b',0,none⟩=some .nilIface from ⟨b,rfl,h0,h1⟩)
theorem Rep.to {p q:Nat→Prop}{w w':World} (hq:∀ b o v,p b→w.cell? ⟨b,o,none⟩=some v→q b∧w'.cell? ⟨b,o,none⟩=some v):∀ {v:Value}{t:Tr},Rep p w v t→Rep q w' v t
 | _,.done _,h=>h
 | v,.ask _ 0 k,h=>h
 | v,.ask _ 1 k,h =>
  have ⟨b,e,h0,h1⟩:=(show ∃ (b:Nat),v = .iface 224 (.pointer (some ⟨b,0,none⟩))∧p b∧w.cell? ⟨b,0,none⟩=some (.iface 98 (.int .i64 (payOf (k 0)).n)) from h)
  show ∃ (b:Nat),v = .iface 224 (.pointer (some ⟨b,0,none⟩))∧q b∧w'.cell? ⟨b,0,none⟩=some (.iface 98 (.int .i64 (payOf (k 0)).n)) from ⟨b,e,(hq _ _ _ h0 h1).1,(hq _ _ _ h0 h1).2⟩
 | v,.ask _ 2 k,h =>
  have ⟨b,e,h0,h1⟩:=(show ∃ (b:Nat),v = .iface 224 (.pointer (some ⟨b,0,none⟩))∧p b∧w.cell? ⟨b,0,none⟩=some (.iface 95 (.agg #[])) from h)
  show ∃ (b:Nat),v = .iface 224 (.pointer (some ⟨b,0,none⟩))∧q b∧w'.cell? ⟨b,0,none⟩=some (.iface 95 (.agg #[])) from ⟨b,e,(hq _ _ _ h0 h1).1,(hq _ _ _ h0 h1).2⟩
 | v,.ask _ 3 k,h =>
  have ⟨b,e,h0,h1⟩:=(show ∃ (b:Nat),v = .iface 224 (.pointer (some ⟨b,0,none⟩))∧p b∧w.cell? ⟨b,0,none⟩=some (.iface 96 (.bool (payOf (k 0)).b)) from h)
  show ∃ (b:Nat),v = .iface 224 (.pointer (some ⟨b,0,none⟩))∧q b∧w'.cell? ⟨b,0,none⟩=some (.iface 96 (.bool (payOf (k 0)).b)) from ⟨b,e,(hq _ _ _ h0 h1).1,(hq _ _ _ h0 h1).2⟩
 | v,.ask _ 4 k,h =>
  have ⟨b,e,h0,h1,h2⟩:=(show ∃ (b:Nat),v = .iface 227 (.pointer (some ⟨b,0,none⟩))∧p b∧w.cell? ⟨b,0,none⟩=some (.string (payOf (k 0)).s)∧w.cell? ⟨b,1,none⟩=some (.int .i64 (payOf (k 0)).n) from h)
  show ∃ (b:Nat),v = .iface 227 (.pointer (some ⟨b,0,none⟩))∧q b∧w'.cell? ⟨b,0,none⟩=some (.string (payOf (k 0)).s)∧w'.cell? ⟨b,1,none⟩=some (.int .i64 (payOf (k 0)).n) from ⟨b,e,(hq _ _ _ h0 h1).1,(hq _ _ _ h0 h1).2,(hq _ _ _ h0 h2).2⟩
 | v,.ask _ 5 k,h =>
  have ⟨b,x,y,e,h0,h1,h2,h3,h4⟩:=(show ∃ (b:Nat) (x y:Value),v = .iface 134 (.pointer (some ⟨b,0,none⟩))∧p b∧w.cell? ⟨b,0,none⟩=some x∧w.cell? ⟨b,1,none⟩=some y∧Rep p w x (k 1)∧Rep p w y (k 2) from h)
  show ∃ (b:Nat) (x y:Value),v = .iface 134 (.pointer (some ⟨b,0,none⟩))∧q b∧w'.cell? ⟨b,0,none⟩=some x∧w'.cell? ⟨b,1,none⟩=some y∧Rep q w' x (k 1)∧Rep q w' y (k 2) from ⟨b,x,y,e,(hq _ _ _ h0 h1).1,(hq _ _ _ h0 h1).2,(hq _ _ _ h0 h2).2,Rep.to hq h3,Rep.to hq h4⟩
 | v,.ask _ 6 k,h =>
  have ⟨b,x,e,h0,h1,h2⟩:=(show ∃ (b:Nat) (x:Value),v = .iface 139 (.pointer (some ⟨b,0,none⟩))∧p b∧w.cell? ⟨b,0,none⟩=some x∧Rep p w x (k 1) from h)
  show ∃ (b:Nat) (x:Value),v = .iface 139 (.pointer (some ⟨b,0,none⟩))∧q b∧w'.cell? ⟨b,0,none⟩=some x∧Rep q w' x (k 1) from ⟨b,x,e,(hq _ _ _ h0 h1).1,(hq _ _ _ h0 h1).2,Rep.to hq h2⟩
 | v,.ask _ 7 k,h =>
  have ⟨b,x,e,h0,h1,h2⟩:=(show ∃ (b:Nat) (x:Value),v = .iface 230 (.pointer (some ⟨b,0,none⟩))∧p b∧w.cell? ⟨b,0,none⟩=some x∧Rep p w x (k 1) from h)
  show ∃ (b:Nat) (x:Value),v = .iface 230 (.pointer (some ⟨b,0,none⟩))∧q b∧w'.cell? ⟨b,0,none⟩=some x∧Rep q w' x (k 1) from ⟨b,x,e,(hq _ _ _ h0 h1).1,(hq _ _ _ h0 h1).2,Rep.to hq h2⟩
 | v,.ask _ 8 k,h =>
  have ⟨b,e,h0,h1,h2,h3⟩:=(show ∃ (b:Nat),v = .iface 169 (.pointer (some ⟨b,0,none⟩))∧p b∧w.cell? ⟨b,0,none⟩=some (.string (payOf (k 0)).s)∧w.cell? ⟨b,1,none⟩=some (.slice none 0 0)∧w.cell? ⟨b,2,none⟩=some (.int .i64 (payOf (k 0)).n) from h)
  show ∃ (b:Nat),v = .iface 169 (.pointer (some ⟨b,0,none⟩))∧q b∧w'.cell? ⟨b,0,none⟩=some (.string (payOf (k 0)).s)∧w'.cell? ⟨b,1,none⟩=some (.slice none 0 0)∧w'.cell? ⟨b,2,none⟩=some (.int .i64 (payOf (k 0)).n) from ⟨b,e,(hq _ _ _ h0 h1).1,(hq _ _ _ h0 h1).2,(hq _ _ _ h0 h2).2,(hq _ _ _ h0 h3).2⟩
 | v,.ask _ 9 k,h =>
  have ⟨b,d,o,c,x,e,h0,h1,h2,h3,h4,h5,h6⟩:=(show ∃ (b d o c:Nat) (x:Value),v = .iface 169 (.pointer (some ⟨b,0,none⟩))∧p b∧p d∧w.cell? ⟨b,0,none⟩=some (.string (payOf (k 0)).s)∧w.cell? ⟨b,1,none⟩=some (.slice (some ⟨d,o,none⟩) 1 c)∧w.cell? ⟨b,2,none⟩=some (.int .i64 (payOf (k 0)).n)∧w.cell? ⟨d,o,none⟩=some x∧Rep p w x (k 1) from h)
  show ∃ (b d o c:Nat) (x:Value),v = .iface 169 (.pointer (some ⟨b,0,none⟩))∧q b∧q d∧w'.cell? ⟨b,0,none⟩=some (.string (payOf (k 0)).s)∧w'.cell? ⟨b,1,none⟩=some (.slice (some ⟨d,o,none⟩) 1 c)∧w'.cell? ⟨b,2,none⟩=some (.int .i64 (payOf (k 0)).n)∧w'.cell? ⟨d,o,none⟩=some x∧Rep q w' x (k 1) from ⟨b,d,o,c,x,e,(hq _ _ _ h0 h2).1,(hq _ _ _ h1 h5).1,(hq _ _ _ h0 h2).2,(hq _ _ _ h0 h3).2,(hq _ _ _ h0 h4).2,(hq _ _ _ h1 h5).2,Rep.to hq h6⟩
 | v,.ask _ 10 k,h =>
  have ⟨b,d,o,c,x,y,e,h0,h1,h2,h3,h4,h5,h6,h7,h8⟩:=(show ∃ (b d o c:Nat) (x y:Value),v = .iface 169 (.pointer (some ⟨b,0,none⟩))∧p b∧p d∧w.cell? ⟨b,0,none⟩=some (.string (payOf (k 0)).s)∧w.cell? ⟨b,1,none⟩=some (.slice (some ⟨d,o,none⟩) 2 c)∧w.cell? ⟨b,2,none⟩=some (.int .i64 (payOf (k 0)).n)∧w.cell? ⟨d,o,none⟩=some x∧w.cell? ⟨d,o+1,none⟩=some y∧Rep p w x (k 1)∧Rep p w y (k 2) from h)
  show ∃ (b d o c:Nat) (x y:Value),v = .iface 169 (.pointer (some ⟨b,0,none⟩))∧q b∧q d∧w'.cell? ⟨b,0,none⟩=some (.string (payOf (k 0)).s)∧w'.cell? ⟨b,1,none⟩=some (.slice (some ⟨d,o,none⟩) 2 c)∧w'.cell? ⟨b,2,none⟩=some (.int .i64 (payOf (k 0)).n)∧w'.cell? ⟨d,o,none⟩=some x∧w'.cell? ⟨d,o+1,none⟩=some y∧Rep q w' x (k 1)∧Rep q w' y (k 2) from ⟨b,d,o,c,x,y,e,(hq _ _ _ h0 h2).1,(hq _ _ _ h1 h5).1,(hq _ _ _ h0 h2).2,(hq _ _ _ h0 h3).2,(hq _ _ _ h0 h4).2,(hq _ _ _ h1 h5).2,(hq _ _ _ h1 h6).2,Rep.to hq h7,Rep.to hq h8⟩
 | v,.ask _ 11 k,h =>
  have ⟨b,x,y,e,h0,h1,h2,h3,h4,h5⟩:=(show ∃ (b:Nat) (x y:Value),v = .iface 171 (.pointer (some ⟨b,0,none⟩))∧p b∧w.cell? ⟨b,0,none⟩=some x∧w.cell? ⟨b,1,none⟩=some (.string (payOf (k 0)).s)∧w.cell? ⟨b,2,none⟩=some y∧Rep p w x (k 1)∧Rep p w y (k 2) from h)
  show ∃ (b:Nat) (x y:Value),v = .iface 171 (.pointer (some ⟨b,0,none⟩))∧q b∧w'.cell? ⟨b,0,none⟩=some x∧w'.cell? ⟨b,1,none⟩=some (.string (payOf (k 0)).s)∧w'.cell? ⟨b,2,none⟩=some y∧Rep q w' x (k 1)∧Rep q w' y (k 2) from ⟨b,x,y,e,(hq _ _ _ h0 h1).1,(hq _ _ _ h0 h1).2,(hq _ _ _ h0 h2).2,(hq _ _ _ h0 h3).2,Rep.to hq h4,Rep.to hq h5⟩
 | v,.ask _ 12 k,h =>
  have ⟨b,x,y,e,h0,h1,h2,h3,h4⟩:=(show ∃ (b:Nat) (x y:Value),v = .iface 145 (.pointer (some ⟨b,0,none⟩))∧p b∧w.cell? ⟨b,0,none⟩=some x∧w.cell? ⟨b,1,none⟩=some y∧Rep p w x (k 1)∧Rep p w y (k 2) from h)
  show ∃ (b:Nat) (x y:Value),v = .iface 145 (.pointer (some ⟨b,0,none⟩))∧q b∧w'.cell? ⟨b,0,none⟩=some x∧w'.cell? ⟨b,1,none⟩=some y∧Rep q w' x (k 1)∧Rep q w' y (k 2) from ⟨b,x,y,e,(hq _ _ _ h0 h1).1,(hq _ _ _ h0 h1).2,(hq _ _ _ h0 h2).2,Rep.to hq h3,Rep.to hq h4⟩
 | v,.ask _ 13 k,h =>
  have ⟨b,x,y,z,e,h0,h1,h2,h3,h4,h5,h6,h7⟩:=(show ∃ (b:Nat) (x y z:Value),v = .iface 164 (.pointer (some ⟨b,0,none⟩))∧p b∧w.cell? ⟨b,0,none⟩=some x∧w.cell? ⟨b,1,none⟩=some (.string (payOf (k 0)).s)∧w.cell? ⟨b,2,none⟩=some y∧w.cell? ⟨b,3,none⟩=some z∧Rep p w x (k 1)∧Rep p w y (k 2)∧Rep p w z (k 3) from h)
  show ∃ (b:Nat) (x y z:Value),v = .iface 164 (.pointer (some ⟨b,0,none⟩))∧q b∧w'.cell? ⟨b,0,none⟩=some x∧w'.cell? ⟨b,1,none⟩=some (.string (payOf (k 0)).s)∧w'.cell? ⟨b,2,none⟩=some y∧w'.cell? ⟨b,3,none⟩=some z∧Rep q w' x (k 1)∧Rep q w' y (k 2)∧Rep q w' z (k 3) from ⟨b,x,y,z,e,(hq _ _ _ h0 h1).1,(hq _ _ _ h0 h1).2,(hq _ _ _ h0 h2).2,(hq _ _ _ h0 h3).2,(hq _ _ _ h0 h4).2,Rep.to hq h5,Rep.to hq h6,Rep.to hq h7⟩
 | v,.ask _ 14 k,h =>
  have ⟨b,x,y,z,e,h0,h1,h2,h3,h4,h5,h6⟩:=(show ∃ (b:Nat) (x y z:Value),v = .iface 158 (.pointer (some ⟨b,0,none⟩))∧p b∧w.cell? ⟨b,0,none⟩=some x∧w.cell? ⟨b,1,none⟩=some y∧w.cell? ⟨b,2,none⟩=some z∧Rep p w x (k 1)∧Rep p w y (k 2)∧Rep p w z (k 3) from h)
  show ∃ (b:Nat) (x y z:Value),v = .iface 158 (.pointer (some ⟨b,0,none⟩))∧q b∧w'.cell? ⟨b,0,none⟩=some x∧w'.cell? ⟨b,1,none⟩=some y∧w'.cell? ⟨b,2,none⟩=some z∧Rep q w' x (k 1)∧Rep q w' y (k 2)∧Rep q w' z (k 3) from ⟨b,x,y,z,e,(hq _ _ _ h0 h1).1,(hq _ _ _ h0 h1).2,(hq _ _ _ h0 h2).2,(hq _ _ _ h0 h3).2,Rep.to hq h4,Rep.to hq h5,Rep.to hq h6⟩
 | v,.ask _ 15 k,h =>
  have ⟨b,d,o,c,x,y,e,h0,h1,h2,h3,h4,h5,h6,h7,h8⟩:=(show ∃ (b d o c:Nat) (x y:Value),v = .iface 120 (.pointer (some ⟨b,0,none⟩))∧p b∧p d∧w.cell? ⟨b,0,none⟩=some (.string (payOf (k 0)).s)∧w.cell? ⟨b,1,none⟩=some (.slice (some ⟨d,o,none⟩) 1 c)∧w.cell? ⟨d,o,none⟩=some (.string (payOf (k 0)).q)∧w.cell? ⟨b,2,none⟩=some x∧w.cell? ⟨b,3,none⟩=some y∧Rep p w x (k 1)∧Rep p w y (k 2) from h)
  show ∃ (b d o c:Nat) (x y:Value),v = .iface 120 (.pointer (some ⟨b,0,none⟩))∧q b∧q d∧w'.cell? ⟨b,0,none⟩=some (.string (payOf (k 0)).s)∧w'.cell? ⟨b,1,none⟩=some (.slice (some ⟨d,o,none⟩) 1 c)∧w'.cell? ⟨d,o,none⟩=some (.string (payOf (k 0)).q)∧w'.cell? ⟨b,2,none⟩=some x∧w'.cell? ⟨b,3,none⟩=some y∧Rep q w' x (k 1)∧Rep q w' y (k 2) from ⟨b,d,o,c,x,y,e,(hq _ _ _ h0 h2).1,(hq _ _ _ h1 h4).1,(hq _ _ _ h0 h2).2,(hq _ _ _ h0 h3).2,(hq _ _ _ h1 h4).2,(hq _ _ _ h0 h5).2,(hq _ _ _ h0 h6).2,Rep.to hq h7,Rep.to hq h8⟩
 | v,.ask _ 16 k,h =>
  have ⟨b,d,o,c,x,y,e,h0,h1,h2,h3,h4,h5,h6,h7,h8,h9⟩:=(show ∃ (b d o c:Nat) (x y:Value),v = .iface 120 (.pointer (some ⟨b,0,none⟩))∧p b∧p d∧w.cell? ⟨b,0,none⟩=some (.string (payOf (k 0)).s)∧w.cell? ⟨b,1,none⟩=some (.slice (some ⟨d,o,none⟩) 2 c)∧w.cell? ⟨d,o,none⟩=some (.string (payOf (k 0)).q)∧w.cell? ⟨d,o+1,none⟩=some (.string (payOf (k 0)).r)∧w.cell? ⟨b,2,none⟩=some x∧w.cell? ⟨b,3,none⟩=some y∧Rep p w x (k 1)∧Rep p w y (k 2) from h)
  show ∃ (b d o c:Nat) (x y:Value),v = .iface 120 (.pointer (some ⟨b,0,none⟩))∧q b∧q d∧w'.cell? ⟨b,0,none⟩=some (.string (payOf (k 0)).s)∧w'.cell? ⟨b,1,none⟩=some (.slice (some ⟨d,o,none⟩) 2 c)∧w'.cell? ⟨d,o,none⟩=some (.string (payOf (k 0)).q)∧w'.cell? ⟨d,o+1,none⟩=some (.string (payOf (k 0)).r)∧w'.cell? ⟨b,2,none⟩=some x∧w'.cell? ⟨b,3,none⟩=some y∧Rep q w' x (k 1)∧Rep q w' y (k 2) from ⟨b,d,o,c,x,y,e,(hq _ _ _ h0 h2).1,(hq _ _ _ h1 h4).1,(hq _ _ _ h0 h2).2,(hq _ _ _ h0 h3).2,(hq _ _ _ h1 h4).2,(hq _ _ _ h1 h5).2,(hq _ _ _ h0 h6).2,(hq _ _ _ h0 h7).2,Rep.to hq h8,Rep.to hq h9⟩
 | v,.ask _ 17 k,h =>
  have ⟨b,e⟩:=(show ∃ (b:Nat),v = .iface 127 (.pointer (some ⟨b,0,none⟩)) from h)
  show ∃ (b:Nat),v = .iface 127 (.pointer (some ⟨b,0,none⟩)) from ⟨b,e⟩
 | v,.ask _ 18 k,h =>
  have ⟨b,x,y,e,h0,h1,h2,h3,h4,h5⟩:=(show ∃ (b:Nat) (x y:Value),v = .iface 160 (.pointer (some ⟨b,0,none⟩))∧p b∧w.cell? ⟨b,0,none⟩=some x∧w.cell? ⟨b,1,none⟩=some (.string (payOf (k 0)).s)∧w.cell? ⟨b,2,none⟩=some y∧Rep p w x (k 1)∧Rep p w y (k 2) from h)
  show ∃ (b:Nat) (x y:Value),v = .iface 160 (.pointer (some ⟨b,0,none⟩))∧q b∧w'.cell? ⟨b,0,none⟩=some x∧w'.cell? ⟨b,1,none⟩=some (.string (payOf (k 0)).s)∧w'.cell? ⟨b,2,none⟩=some y∧Rep q w' x (k 1)∧Rep q w' y (k 2) from ⟨b,x,y,e,(hq _ _ _ h0 h1).1,(hq _ _ _ h0 h1).2,(hq _ _ _ h0 h2).2,(hq _ _ _ h0 h3).2,Rep.to hq h4,Rep.to hq h5⟩
 | v,.ask _ 19 k,h =>
  have ⟨b,e,h0,h1⟩:=(show ∃ (b:Nat),v = .iface 224 (.pointer (some ⟨b,0,none⟩))∧p b∧w.cell? ⟨b,0,none⟩=some (.iface 100 (.string (payOf (k 0)).s)) from h)
  show ∃ (b:Nat),v = .iface 224 (.pointer (some ⟨b,0,none⟩))∧q b∧w'.cell? ⟨b,0,none⟩=some (.iface 100 (.string (payOf (k 0)).s)) from ⟨b,e,(hq _ _ _ h0 h1).1,(hq _ _ _ h0 h1).2⟩
 | v,.ask _ 20 k,h =>
  have ⟨b,e,h0,h1⟩:=(show ∃ (b:Nat),v = .iface 230 (.pointer (some ⟨b,0,none⟩))∧p b∧w.cell? ⟨b,0,none⟩=some .nilIface from h)
  show ∃ (b:Nat),v = .iface 230 (.pointer (some ⟨b,0,none⟩))∧q b∧w'.cell? ⟨b,0,none⟩=some .nilIface from ⟨b,e,(hq _ _ _ h0 h1).1,(hq _ _ _ h0 h1).2⟩
 | _,.ask _ (_+21) _,h=>h
theorem Rep.kept {r B:Nat}{w w':World} (k:Kept r w w') (hB:r < B) {v:Value}{t:Tr} (h:Rep (B≤·) w v t):Rep (B≤·) w' v t :=
 h.to fun b _ _ hb hv=>⟨hb,(k.cell (cell_lt hv) (by have:B≤b:=hb;omega)).trans hv⟩
theorem Rep.low {B B':Nat}{w:World} (hB:B'≤B) {v:Value}{t:Tr} (h:Rep (B≤·) w v t):Rep (B'≤·) w v t :=
 h.to fun _ _ _ hb hv=>⟨Nat.le_trans hB hb,hv⟩
theorem Rep.setOld {B N o:Nat}{w:World} (hN:N < B) {u v:Value}{t:Tr} (h:Rep (B≤·) w v t):Rep (B≤·) (w.setCell ⟨N,o,none⟩ u) v t :=
 h.to fun b _ _ hb hv=>⟨hb,(World.cell?_of_block (w:=w) (Below.heap_setCell _ _ _ _ (by have:B≤b:=hb;simp;omega))).trans hv⟩
theorem Rep.upon {p:Nat→Prop}{w w':World} (k:Below w.heap.size w w') {v:Value}{t:Tr} (h:Rep p w v t):Rep p w' v t :=
 h.to fun b o _ hb hv=>⟨hb,(k.cell (p:=⟨b,o,none⟩) (cell_lt hv)).trans hv⟩
def Gives (rb tb:Nat) (l:List Tok) (t:Tr) (w:World) (e:Ending) (w':World):Prop :=
 ∃ T b,e = .returned (.iface T (.pointer (some ⟨b,0,none⟩)))∧Left w w' rb tb l∧Rep (w.heap.size≤·) w' (.iface T (.pointer (some ⟨b,0,none⟩))) t
abbrev Cat:=Except Int (Option (Option (Option Bool)))
abbrev Cat.filter:Cat:=.ok none
abbrev Cat.oper (loosest:Int):Cat:=.error loosest
abbrev Cat.minus:Cat:=.ok (some none)
abbrev Cat.bound:Cat:=.ok (some (some none))
abbrev Cat.pfix:Cat:=.ok (some (some (some false)))
abbrev Cat.primary:Cat:=.ok (some (some (some true)))
abbrev Cat.fn:Cat→FuncId
 | .ok none=>16
 | .error _=>39
 | .ok (some none)=>85
 | .ok (some (some none))=>138
 | .ok (some (some (some false)))=>198
 | .ok (some (some (some true)))=>248
abbrev Cat.args (rb:Nat):Cat→Array Value
 | .error r=>#[.pointer (some ⟨rb,0,none⟩),.int .u8 r]
 | _=>#[.pointer (some ⟨rb,0,none⟩)]
abbrev Pars:=Cat→List Tok→Option (Tr×List Tok)
def Sound (P:Pars):Prop:=∀ (c:Cat) (l:List Tok) (t:Tr) (l':List Tok) (w:World) (rb tb:Nat),P c l=some (t,l')→Rd w rb tb l→
 Calls Tryz.prog c.fn (c.args rb) w (Gives rb tb l' t w)
theorem Sound.minus {P:Pars} (h:Sound P) {l:List Tok}{t:Tr}{l':List Tok}{w:World}{rb tb:Nat} (e:P .minus l=some (t,l')) (r:Rd w rb tb l) :
  Calls Tryz.prog 85 #[.pointer (some ⟨rb,0,none⟩)] w (Gives rb tb l' t w):=h .minus l t l' w rb tb e r
theorem Sound.filter {P:Pars} (h:Sound P) {l:List Tok}{t:Tr}{l':List Tok}{w:World}{rb tb:Nat} (e:P .filter l=some (t,l')) (r:Rd w rb tb l) :
  Calls Tryz.prog 16 #[.pointer (some ⟨rb,0,none⟩)] w (Gives rb tb l' t w):=h .filter l t l' w rb tb e r
theorem Sound.oper {P:Pars} (h:Sound P) {r:Int}{l:List Tok}{t:Tr}{l':List Tok}{w:World}{rb tb:Nat} (e:P (.oper r) l=some (t,l')) (hr:Rd w rb tb l) :
  Calls Tryz.prog 39 #[.pointer (some ⟨rb,0,none⟩),.int .u8 r] w (Gives rb tb l' t w):=h (.oper r) l t l' w rb tb e hr
theorem Sound.bound {P:Pars} (h:Sound P) {l:List Tok}{t:Tr}{l':List Tok}{w:World}{rb tb:Nat} (e:P .bound l=some (t,l')) (r:Rd w rb tb l) :
  Calls Tryz.prog 138 #[.pointer (some ⟨rb,0,none⟩)] w (Gives rb tb l' t w):=h .bound l t l' w rb tb e r
theorem Sound.pfix {P:Pars} (h:Sound P) {l:List Tok}{t:Tr}{l':List Tok}{w:World}{rb tb:Nat} (e:P .pfix l=some (t,l')) (r:Rd w rb tb l) :
  Calls Tryz.prog 198 #[.pointer (some ⟨rb,0,none⟩)] w (Gives rb tb l' t w):=h .pfix l t l' w rb tb e r
theorem Sound.primary {P:Pars} (h:Sound P) {l:List Tok}{t:Tr}{l':List Tok}{w:World}{rb tb:Nat} (e:P .primary l=some (t,l')) (r:Rd w rb tb l) :
  Calls Tryz.prog 248 #[.pointer (some ⟨rb,0,none⟩)] w (Gives rb tb l' t w):=h .primary l t l' w rb tb e r
def eat (s:ByteArray):List Tok→Option (List Tok)
 | t :: u :: l=>if isTok t s then some (u :: l) else none
 | _=>none
def eatKind (k:Int):List Tok→Option (Tok×List Tok)
 | t :: u :: l=>if t.kind == k then some (t,u :: l) else none
 | _=>none
def sees (s:ByteArray):List Tok→Option Bool
 | t :: _=>some (isTok t s)
 | _=>none
theorem eat_some {s:ByteArray}{l l':List Tok} (h:eat s l=some l'):∃ t u m,l=t :: u :: m∧l'=u :: m∧isTok t s=true:=by
 match l,h with
 | t :: u :: m,h =>
  simp only [eat] at h
  split at h
  ·exact ⟨t,u,m,rfl,(Option.some.inj h).symm,by assumption⟩
  ·simp at h
theorem eatKind_some {k:Int}{l l':List Tok}{t:Tok} (h:eatKind k l=some (t,l')):∃ u m,l=t :: u :: m∧l'=u :: m∧t.kind=k:=by
 match l,h with
 | t' :: u :: m,h =>
  simp only [eatKind] at h
  split at h
  ·simp only [Option.some.injEq,Prod.mk.injEq] at h
   obtain ⟨rfl,rfl⟩:=h
   exact ⟨u,m,rfl,rfl,by simpa using ‹(t'.kind == k)=true›⟩
  ·simp at h
theorem accept_eat {w:World}{rb tb:Nat}{l l':List Tok}{s:ByteArray} (h:Rd w rb tb l) (hs:eat s l=some l') :
  Calls Tryz.prog 37 #[.pointer (some ⟨rb,0,none⟩),.string s] w fun e w'=>e = .returned (.bool true)∧Left w w' rb tb l':=by
 obtain ⟨t,u,m,rfl,rfl,ht⟩:=eat_some hs
 exact accept_yes h ht
theorem accept_not {w:World}{rb tb:Nat}{l:List Tok}{s:ByteArray} (h:Rd w rb tb l) (hs:sees s l=some false) :
  Calls Tryz.prog 37 #[.pointer (some ⟨rb,0,none⟩),.string s] w fun e w'=>e = .returned (.bool false)∧Left w w' rb tb l:=by
 match l,hs with
 | t :: l,hs=>exact accept_no h (Option.some.inj hs)
theorem expect_eat {w:World}{rb tb:Nat}{l l':List Tok}{s:ByteArray} (h:Rd w rb tb l) (hs:eat s l=some l') :
  Calls Tryz.prog 84 #[.pointer (some ⟨rb,0,none⟩),.string s] w fun e w'=>e = .returned (.tuple #[])∧Left w w' rb tb l':=by
 obtain ⟨t,u,m,rfl,rfl,ht⟩:=eat_some hs
 exact expect_ok h ht
theorem expectKind_eat {w:World}{rb tb:Nat}{k:Int}{t:Tok}{l l':List Tok} (h:Rd w rb tb l) (hs:eatKind k l=some (t,l')) :
  Calls Tryz.prog 83 #[.pointer (some ⟨rb,0,none⟩),.int .u8 k] w fun e w'=>e = .returned (.agg #[.int .u8 k,.string t.text,.int .i64 t.pos])∧Left w w' rb tb l':=by
 obtain ⟨u,m,rfl,rfl,rfl⟩:=eatKind_some hs
 exact expectKind_ok h
theorem heap_new (a:World) (o:Obj):(a.alloc o).heap[a.heap.size]? = some o:=by
 show (a.heap.push o)[a.heap.size]? = some o
 simp
structure Nod (a w:World) (rb tb:Nat) (l:List Tok) (N:Nat) (cs:Array Value) (T:Nat) (its:List (Value×Tr)):Prop where
 left:Left a w rb tb l
 new:a.heap.size≤N
 rbs:rb < a.heap.size
 tbs:tb < a.heap.size
 blk:w.heap[N]? = some (.cells cs T)
 its:∀ x∈its,Rep (N+1≤·) w x.1 x.2
theorem Nod.lt {a w:World}{rb tb:Nat}{l:List Tok}{N:Nat}{cs:Array Value}{T:Nat}{its:List (Value×Tr)} (h:Nod a w rb tb l N cs T its):N < w.heap.size:=by
 by_cases e:N < w.heap.size
 ·exact e
 ·have:=h.blk;rw [Array.getElem?_eq_none (by omega)] at this;cases this
theorem Nod.cell {a w:World}{rb tb:Nat}{l:List Tok}{N:Nat}{cs:Array Value}{T:Nat}{its:List (Value×Tr)} (h:Nod a w rb tb l N cs T its) (o:Nat):w.cell? ⟨N,o,none⟩=cs[o]?:=by
 simp [World.cell?,h.blk]
theorem Nod.free {a w:World}{rb tb:Nat}{l:List Tok}{N:Nat}{cs:Array Value}{T:Nat}{its:List (Value×Tr)} (h:Nod a w rb tb l N cs T its) (o:Nat):w.frozen? ⟨N,o,none⟩=false:=by
 simp [World.frozen?,h.blk]
theorem Nod.rd {a w:World}{rb tb:Nat}{l:List Tok}{N:Nat}{cs:Array Value}{T:Nat}{its:List (Value×Tr)} (h:Nod a w rb tb l N cs T its):Rd w rb tb l:=h.left.rd
theorem Rd.tbs {w:World}{rb tb:Nat}{l:List Tok} (h:Rd w rb tb l):tb < w.heap.size:=by obtain ⟨o,c,h⟩:=h;exact h.tbs
theorem Nod.start {a:World}{rb tb:Nat}{l:List Tok} (h:Rd a rb tb l) (cs:Array Value) (T:Nat):Nod a (a.alloc (.cells cs T)) rb tb l a.heap.size cs T [] :=
 ⟨(Left.of_rd h).upto (below_alloc _ _),Nat.le_refl _,h.rbs,h.tbs,heap_new _ _,by simp⟩
theorem Nod.startAt {a:World}{rb tb:Nat}{l:List Tok} (h:Rd a rb tb l) (N:Nat) (hN:a.heap.size=N) (cs:Array Value) (T:Nat):Nod a (a.alloc (.cells cs T)) rb tb l N cs T []:=by
 subst hN;exact Nod.start h cs T
theorem Nod.call {a w w':World}{rb tb:Nat}{l l':List Tok}{N:Nat}{cs:Array Value}{T:Nat}{its:List (Value×Tr)} (h:Nod a w rb tb l N cs T its) (k:Left w w' rb tb l'):Nod a w' rb tb l' N cs T its :=
 ⟨h.left.trans k,h.new,h.rbs,h.tbs,(k.kept.block N h.lt (by have:=h.new;have:=h.rbs;omega)).trans h.blk,fun x hx=>(h.its x hx).kept k.kept (by have:=h.new;have:=h.rbs;omega)⟩
theorem Nod.item {a w w':World}{rb tb:Nat}{l l':List Tok}{N:Nat}{cs:Array Value}{T:Nat}{its:List (Value×Tr)} (h:Nod a w rb tb l N cs T its) (k:Left w w' rb tb l') {v:Value}{t:Tr} (r:Rep (w.heap.size≤·) w' v t) :
  Nod a w' rb tb l' N cs T ((v,t) :: its) :=
 let n:=h.call k
 ⟨n.left,n.new,n.rbs,n.tbs,n.blk,fun x hx=>by
  rcases List.mem_cons.1 hx with rfl | hx
  ·exact r.low (Nat.succ_le_of_lt h.lt)
  ·exact n.its x hx⟩
theorem Nod.set {a w:World}{rb tb:Nat}{l:List Tok}{N:Nat}{cs:Array Value}{T:Nat}{its:List (Value×Tr)} (h:Nod a w rb tb l N cs T its) (i:Nat) (v:Value) :
  Nod a (w.setCell ⟨N,i,none⟩ v) rb tb l N (cs.setIfInBounds i v) T its :=
 ⟨h.left.setNew v h.new (by have:=h.new;have:=h.rbs;omega) (by have:=h.new;have:=h.tbs;omega),h.new,h.rbs,h.tbs,by simp [World.setCell,Array.getElem?_modify,h.blk],
  fun x hx=>(h.its x hx).setOld (Nat.lt_succ_self _)⟩
def stepMinus (P:Pars) (l:List Tok):Option (Tr×List Tok):=do
 let b ← sees ⟨#[45]⟩ l
 if b then none else P .bound l
theorem minus_step {P:Pars} (hP:Sound P) {l:List Tok}{t:Tr}{l':List Tok}{w:World}{rb tb:Nat} (h:stepMinus P l=some (t,l')) (hr:Rd w rb tb l) :
  Calls Tryz.prog 85 #[.pointer (some ⟨rb,0,none⟩)] w (Gives rb tb l' t w):=by
 simp only [stepMinus,Option.bind_eq_bind,Option.bind_eq_some_iff] at h
 obtain ⟨b,hb,h⟩:=h
 cases b with
 | true=>simp at h
 | false =>
  simp only [Bool.false_eq_true,if_false] at h
  go_enter Tryz.func85,Tryz.ntmps85
  go_wp2_with (first
   | (go_at_call 37;refine (accept_not hr hb).mono ?_;rintro e w1 ⟨rfl,h1⟩)
   | (go_at_call 138;refine (hP.bound h h1.rd).mono ?_;rintro e w2 ⟨T,b,rfl,h2,h3⟩))
  go_ret
  exact ⟨T,b,rfl,h1.trans h2,h3.low h1.kept.size⟩
theorem Rep.left {a b:World}{rb tb B:Nat}{l:List Tok} (k:Left a b rb tb l) (hB:rb < B) {v:Value}{t:Tr} (h:Rep (B≤·) a v t):Rep (B≤·) b v t:=h.kept k.kept hB
theorem Rep.box {a:World}{p:Nat→Prop} (o:Obj) {v:Value}{t:Tr} (h:Rep p a v t):Rep p (a.alloc o) v t:=h.upon (below_alloc _ _)
theorem box_cell (w:World) (cs:Array Value) (T i:Nat):(w.alloc (.cells cs T)).cell? ⟨w.heap.size,i,none⟩=cs[i]?:=by
 simp
theorem Left.cellNew {a b:World}{rb tb:Nat}{l:List Tok} (k:Left a b rb tb l) {n o:Nat}{v:Value} (hn:n≠rb) (h:a.cell? ⟨n,o,none⟩=some v):b.cell? ⟨n,o,none⟩=some v :=
 (k.kept.cell (cell_lt h) hn).trans h
def kindAt:List Tok→Option Int
 | t :: _=>some t.kind
 | _=>none
def pSigned (P:Pars) (l:List Tok):Option (Tr×List Tok):=do
 let b ← sees ⟨#[46]⟩ l
 if b then
  let l1 ← eat ⟨#[46]⟩ l
  let k ← kindAt l1
  if k == 2 then none else some (.ident,l1)
 else
  let b ← sees ⟨#[46,46]⟩ l
  if b then
   let l1 ← eat ⟨#[46,46]⟩ l
   some (.desc,l1)
  else
   let b ← sees ⟨#[40]⟩ l
   if b then
    let l1 ← eat ⟨#[40]⟩ l
    let (f,l2) ← P .filter l1
    let l3 ← eat ⟨#[41]⟩ l2
    some (f,l3)
   else
    let l1 ← eat ⟨#[91]⟩ l
    let b ← sees ⟨#[93]⟩ l1
    if b then
     let l2 ← eat ⟨#[93]⟩ l1
     some (.coll0,l2)
    else
     let (f,l2) ← P .filter l1
     let l3 ← eat ⟨#[93]⟩ l2
     some (.collect f,l3)
theorem signed_step {P:Pars} (hP:Sound P) {l:List Tok}{t:Tr}{l':List Tok}{w:World}{rb tb:Nat} (h:pSigned P l=some (t,l')) (hr:Rd w rb tb l) :
  Calls Tryz.prog 283 #[.pointer (some ⟨rb,0,none⟩)] w (Gives rb tb l' t w):=by
 simp only [pSigned,Option.bind_eq_bind,Option.bind_eq_some_iff] at h
 obtain ⟨b,hb,h⟩:=h
 cases b with
 | true =>
  simp only [if_true,Option.bind_eq_some_iff] at h
  obtain ⟨l1,he,k,hk,h⟩:=h
  split at h
  ·simp at h
  rename_i hk2
  simp only [Option.some.injEq,Prod.mk.injEq] at h
  obtain ⟨rfl,rfl⟩:=h
  obtain ⟨t0,u,m,rfl,rfl,ht⟩:=eat_some he
  simp only [kindAt,Option.some.injEq] at hk
  go_enter Tryz.func283,Tryz.ntmps283
  go_wp2_with (first
   | (go_at_call 37;refine (accept_eat hr he).mono ?_;rintro e w1 ⟨rfl,h1⟩;have h1':=h1.rd;obtain ⟨o,c,⟨c1,c2,c3,c4,c5,c6,⟨d0,d1,d2,d3⟩⟩⟩:=h1';simp only [List.length_cons] at c1))
  go_ret
  exact ⟨_,_,rfl,h1.upto (below_alloc _ _),.ident⟩
 | false =>
  simp only [Bool.false_eq_true,if_false,Option.bind_eq_some_iff] at h
  obtain ⟨b,hb2,h⟩:=h
  cases b with
  | true =>
   simp only [if_true,Option.bind_eq_some_iff,Option.some.injEq,Prod.mk.injEq] at h
   obtain ⟨l1,he,rfl,rfl⟩:=h
   have hL:=Left.of_rd hr
   go_enter Tryz.func283,Tryz.ntmps283
   go_wp2_with (first
    | (go_at_call 37;refine (accept_not (by assumption) (by assumption)).mono ?_;rintro e w1 ⟨rfl,h1⟩;have r1:=h1.rd;have hL:=hL.trans h1)
    | (go_at_call 37;refine (accept_eat (by assumption) (by assumption)).mono ?_;rintro e w1 ⟨rfl,h1⟩;have r1:=h1.rd;have hL:=hL.trans h1))
   go_ret
   exact ⟨_,_,rfl,hL.upto (below_alloc _ _),.desc⟩
  | false =>
   simp only [Bool.false_eq_true,if_false,Option.bind_eq_some_iff] at h
   obtain ⟨b,hb3,h⟩:=h
   cases b with
   | true =>
    simp only [if_true,Option.bind_eq_some_iff,Prod.exists] at h
    obtain ⟨l1,he,f,l2,hf,l3,he2,h⟩:=h
    simp only [Option.some.injEq,Prod.mk.injEq] at h
    obtain ⟨rfl,rfl⟩:=h
    go_enter Tryz.func283,Tryz.ntmps283
    have hL:=Left.of_rd hr
    go_wp2_with (first
     | (go_at_call 37;refine (accept_not (by assumption) (by assumption)).mono ?_;rintro e w1 ⟨rfl,h1⟩;have r1:=h1.rd;have hL:=hL.trans h1)
     | (go_at_call 37;refine (accept_eat (by assumption) (by assumption)).mono ?_;rintro e w1 ⟨rfl,h1⟩;have r1:=h1.rd;have hL:=hL.trans h1)
     | (go_at_call 16;refine (hP.filter (by assumption) (by assumption)).mono ?_;rintro e w4 ⟨T,b,rfl,h4,r4⟩;have r5:=h4.rd;have hL4:=hL;have hL:=hL.trans h4)
     | (go_at_call 84;refine (expect_eat (by assumption) (by assumption)).mono ?_;rintro e w5 ⟨rfl,h5⟩;have hL:=hL.trans h5))
    go_ret
    have hs:=hL4.kept.size;have hrb:=hr.rbs
    exact ⟨_,_,rfl,hL,(r4.left h5 (by omega)).low hs⟩
   | false =>
    simp only [Bool.false_eq_true,if_false,Option.bind_eq_some_iff] at h
    obtain ⟨l1,he,b,hb4,h⟩:=h
    cases b with
    | true =>
     simp only [if_true,Option.bind_eq_some_iff,Option.some.injEq,Prod.mk.injEq] at h
     obtain ⟨l2,he2,rfl,rfl⟩:=h
     go_enter Tryz.func283,Tryz.ntmps283
     have hL:=Left.of_rd hr
     go_wp2_with (first
      | (go_at_call 37;refine (accept_not (by assumption) (by assumption)).mono ?_;rintro e w1 ⟨rfl,h1⟩;have r1:=h1.rd;have hL:=hL.trans h1)
      | (go_at_call 37;refine (accept_eat (by assumption) (by assumption)).mono ?_;rintro e w1 ⟨rfl,h1⟩;have r1:=h1.rd;have hL:=hL.trans h1))
     go_ret
     exact ⟨_,_,rfl,hL.upto (below_alloc _ _),.coll0 hL.kept.size (box_cell _ _ _ _)⟩
    | false =>
     simp only [Bool.false_eq_true,if_false,Option.bind_eq_some_iff,Prod.exists] at h
     obtain ⟨f,l2,hf,l3,he2,h⟩:=h
     simp only [Option.some.injEq,Prod.mk.injEq] at h
     obtain ⟨rfl,rfl⟩:=h
     go_enter Tryz.func283,Tryz.ntmps283
     have hL:=Left.of_rd hr
     go_wp2_with (first
      | (go_at_call 37;refine (accept_not (by assumption) (by assumption)).mono ?_;rintro e w1 ⟨rfl,h1⟩;have r1:=h1.rd;have hL:=hL.trans h1)
      | (go_at_call 37;refine (accept_eat (by assumption) (by assumption)).mono ?_;rintro e w1 ⟨rfl,h1⟩;have r1:=h1.rd;have hL:=hL.trans h1)
      | (go_at_call 16;refine (hP.filter (by assumption) (by assumption)).mono ?_;rintro e w6 ⟨T,b,rfl,h6,r6⟩;have r5:=h6.rd;have hL6:=hL;have hL:=hL.trans h6)
      | (go_at_call 84;refine (expect_eat (r5.alloc _) (by assumption)).mono ?_;rintro e w7 ⟨rfl,h7⟩))
     go_ret
     have hrb:=hr.rbs
     have hs:=hL.kept.size
     have hs6:=hL6.kept.size
     exact ⟨_,_,rfl,hL.trans (h7.from (below_alloc _ _)),
      .collect hs (h7.cellNew (by omega) (box_cell _ _ _ _)) (((r6.box _).left h7 (by omega)).low hs6)⟩
end Go.Proofs.Tryz
