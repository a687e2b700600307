import Derived.Test.YtfocepfmpnpaiaaGreatDoorProg
import Derived.WalkKit
import Derived.WalkSpells
import Derived.WalkLawsBesides
set_option linter.all false
namespace Go.Proofs.Tryz
set_option maxHeartbeats 16000000
open Go.RowKit
structure Kept (r:Nat) (w w':World):Prop where
 os:w'.os=w.os
 tape:w'.tape=w.tape
 output:w'.output=w.output
 size:w.heap.size≤w'.heap.size
 block:∀ k,k < w.heap.size→k≠r→w'.heap[k]? = w.heap[k]?
theorem Kept.refl (r:Nat) (w:World):Kept r w w:=⟨rfl,rfl,rfl,Nat.le_refl _,fun _ _ _=>rfl⟩
theorem Kept.trans {r:Nat}{a b c:World} (h:Kept r a b) (k:Kept r b c):Kept r a c :=
 ⟨k.os.trans h.os,k.tape.trans h.tape,k.output.trans h.output,Nat.le_trans h.size k.size,
  fun i hi hr=>(k.block i (Nat.lt_of_lt_of_le hi h.size) hr).trans (h.block i hi hr)⟩
theorem Kept.of_below {r:Nat}{w w':World} (h:Below w.heap.size w w'):Kept r w w' :=
 ⟨h.os,h.tape,h.output,h.size,fun k hk _=>h.block k hk⟩
theorem Kept.alloc {r:Nat}{a w:World} (h:Kept r a w) (o:Obj):Kept r a (w.alloc o) :=
 h.trans (.of_below ((Below.refl _ _).alloc (Nat.le_refl _) _))
theorem Kept.setCell {r:Nat}{a w:World} (h:Kept r a w) {p:Addr} (hp:p.block=r∨a.heap.size≤p.block) (u:Value):Kept r a (w.setCell p u) :=
 ⟨h.os,h.tape,h.output,by have:=h.size;simpa using this,fun k hk hr=>by
  rw [Below.heap_setCell _ _ _ _ (by omega)];exact h.block k hk hr⟩
theorem Kept.setR {r o:Nat}{a w:World} (h:Kept r a w) (u:Value):Kept r a (w.setCell ⟨r,o,none⟩ u):=h.setCell (.inl rfl) u
theorem Kept.setNew {r b o:Nat}{a w:World} (h:Kept r a w) (u:Value) (hb:a.heap.size≤b):Kept r a (w.setCell ⟨b,o,none⟩ u):=h.setCell (.inr hb) u
theorem Kept.cell {r:Nat}{w w':World} (h:Kept r w w') {b o:Nat} (hb:b < w.heap.size) (hr:b≠r):w'.cell? ⟨b,o,none⟩=w.cell? ⟨b,o,none⟩ :=
 World.cell?_of_block (w:=w) (h.block b hb hr)
theorem Kept.frozen {r:Nat}{w w':World} (h:Kept r w w') {b o:Nat} (hb:b < w.heap.size) (hr:b≠r):w'.frozen? ⟨b,o,none⟩=w.frozen? ⟨b,o,none⟩ :=
 World.frozen?_of_block (w:=w) (h.block b hb hr)
theorem cell_lt {w:World}{b o:Nat}{v:Value} (h:w.cell? ⟨b,o,none⟩=some v):b < w.heap.size:=by
 unfold World.cell? at h
 by_cases hb:b < w.heap.size
 ·exact hb
 ·simp [Array.getElem?_eq_none (by omega:w.heap.size≤b)] at h
structure Tok where
 kind:Int
 text:ByteArray
 pos:Int
def Toks (w:World) (tb:Nat):Nat→List Tok→Prop
 | _,[]=>True
 | o,t :: l=>w.cell? ⟨tb,o,none⟩=some (.int .u8 t.kind)∧w.cell? ⟨tb,o+1,none⟩=some (.string t.text)∧w.cell? ⟨tb,o+2,none⟩=some (.int .i64 t.pos)∧Toks w tb (o+3) l
theorem Toks.same {w w':World}{tb:Nat} (h:w'.heap[tb]? = w.heap[tb]?):∀ {o:Nat}{l:List Tok},Toks w tb o l→Toks w' tb o l
 | _,[],_=>trivial
 | _,_ :: _,⟨a,b,c,d⟩=>⟨(World.cell?_of_block (w:=w) h).trans a,(World.cell?_of_block (w:=w) h).trans b,(World.cell?_of_block (w:=w) h).trans c,Toks.same h d⟩
structure Reads (w:World) (rb tb o c:Nat) (l:List Tok):Prop where
 cell:w.cell? ⟨rb,0,none⟩=some (.slice (some ⟨tb,o,none⟩) l.length c)
 cap:l.length≤c
 max:c≤9223372036854775807
 free:w.frozen? ⟨rb,0,none⟩=false
 ne:tb≠rb
 tbs:tb < w.heap.size
 toks:Toks w tb o l
theorem Reads.rbs {w:World}{rb tb o c:Nat}{l:List Tok} (h:Reads w rb tb o c l):rb < w.heap.size:=cell_lt h.cell
structure Left (w w':World) (rb tb:Nat) (l:List Tok):Prop where
 kept:Kept rb w w'
 reads:∃ o c,Reads w' rb tb o c l
theorem take_ok {w:World}{rb tb o c:Nat}{t u:Tok}{l:List Tok} (h:Reads w rb tb o c (t :: u :: l)) :
  Calls Tryz.prog 66 #[.pointer (some ⟨rb,0,none⟩)] w fun e w'=>e = .returned (.agg #[.int .u8 t.kind,.string t.text,.int .i64 t.pos])∧Left w w' rb tb (u :: l):=by
 obtain ⟨hr,hcap,hmax,hf,hne,htb,⟨h0,h1,h2,hrest⟩⟩:=h
 have hrb:=cell_lt hr
 simp only [List.length_cons] at hr hcap
 have hc1:¬ c=1:=by omega
 have hmax':c≤9223372036854775807:=by omega
 have hn:l.length+1+1≤c:=by omega
 go_enter Tryz.func66,Tryz.ntmps66
 go_wp2
 refine bodyPost_ret (v:=.agg #[.int .u8 t.kind,.string t.text,.int .i64 t.pos]) (by simp [results,Tryz.results66,go_sem]) rfl ⟨rfl,?_⟩
 refine ⟨((Kept.refl _ _).setR _).alloc _ |>.alloc _,o+3,c - 1,?_⟩
 refine ⟨?_,?_,by omega,?_,hne,by simp;omega,?_⟩
 ·simp [hrb,hr,go_sem]
 ·simp;omega
 ·simp [hrb,hf,go_sem]
 ·refine Toks.same (w:=w) ?_ hrest
  rw [Below.heap_alloc _ _ _ (by simp;omega),Below.heap_alloc _ _ _ (by simp;omega),Below.heap_setCell _ _ _ _ hne]
end Go.Proofs.Tryz
namespace Go.Proofs.Tryz
set_option maxHeartbeats 16000000
open Go.RowKit
theorem Reads.below {w w':World}{rb tb o c:Nat}{l:List Tok} (h:Reads w rb tb o c l) (b:Below w.heap.size w w'):Reads w' rb tb o c l :=
 ⟨(b.cell (p:=⟨rb,0,none⟩) h.rbs).trans h.cell,h.cap,h.max,(b.frozen (p:=⟨rb,0,none⟩) h.rbs).trans h.free,h.ne,Nat.lt_of_lt_of_le h.tbs b.size,Toks.same (b.block _ h.tbs) h.toks⟩
theorem below_alloc (w:World) (o:Obj):Below w.heap.size w (w.alloc o):=(Below.refl _ _).alloc (Nat.le_refl _) _
theorem Reads.alloc {w:World}{rb tb o c:Nat}{l:List Tok} (h:Reads w rb tb o c l) (x:Obj):Reads (w.alloc x) rb tb o c l:=h.below (below_alloc w x)
theorem Left.from {a b c:World}{rb tb:Nat}{l:List Tok} (h:Below a.heap.size a b) (k:Left b c rb tb l):Left a c rb tb l:=⟨(Kept.of_below h).trans k.kept,k.reads⟩
theorem Left.stay {a b:World}{rb tb o c:Nat}{l:List Tok} (h:Reads a rb tb o c l) (k:Below a.heap.size a b):Left a b rb tb l:=⟨.of_below k,_,_,h.below k⟩
def Rd (w:World) (rb tb:Nat) (l:List Tok):Prop:=∃ o c,Reads w rb tb o c l
theorem Left.rd {a b:World}{rb tb:Nat}{l:List Tok} (h:Left a b rb tb l):Rd b rb tb l:=h.reads
theorem Rd.alloc {w:World}{rb tb:Nat}{l:List Tok} (h:Rd w rb tb l) (x:Obj):Rd (w.alloc x) rb tb l:=by
 obtain ⟨o,c,h⟩:=h;exact ⟨o,c,h.alloc x⟩
theorem Rd.below {w w':World}{rb tb:Nat}{l:List Tok} (h:Rd w rb tb l) (b:Below w.heap.size w w'):Rd w' rb tb l:=by
 obtain ⟨o,c,h⟩:=h;exact ⟨o,c,h.below b⟩
theorem Rd.rbs {w:World}{rb tb:Nat}{l:List Tok} (h:Rd w rb tb l):rb < w.heap.size:=by obtain ⟨o,c,h⟩:=h;exact h.rbs
theorem Kept.rules {r:Nat}{w w':World} (h:Kept r w w'):(∀ b o,b < w.heap.size→b≠r→w'.cell? ⟨b,o,none⟩=w.cell? ⟨b,o,none⟩)∧(∀ b o,b < w.heap.size→b≠r→w'.frozen? ⟨b,o,none⟩=w.frozen? ⟨b,o,none⟩) :=
 ⟨fun _ _ hb hr=>h.cell hb hr,fun _ _ hb hr=>h.frozen hb hr⟩
theorem Left.setNew {a w:World}{rb tb b o:Nat}{l:List Tok} (h:Left a w rb tb l) (u:Value) (hb:a.heap.size≤b) (hr:b≠rb) (ht:b≠tb):Left a (w.setCell ⟨b,o,none⟩ u) rb tb l:=by
 obtain ⟨hk,p,c,h⟩:=h
 have hs:=h.rbs
 refine ⟨hk.setNew u hb,p,c,?_,h.cap,h.max,?_,h.ne,by simpa using h.tbs,?_⟩
 ·exact (World.cell?_of_block (w:=w) (Below.heap_setCell _ _ _ _ (by simpa using fun e:rb=b=>hr e.symm))).trans h.cell
 ·exact (World.frozen?_of_block (w:=w) (Below.heap_setCell _ _ _ _ (by simpa using fun e:rb=b=>hr e.symm))).trans h.free
 ·exact Toks.same (Below.heap_setCell _ _ _ _ (by simpa using fun e:tb=b=>ht e.symm)) h.toks
theorem field_text (k p:Int) (t:ByteArray) (w:World):Sem.run Tryz.prog (Instr.field 62 (.agg #[.int .u8 k,.string t,.int .i64 p]) 1) w = .ok (.string t) w:=by kernel_rfl
def isTok (t:Tok) (s:ByteArray):Bool:=(t.kind == 7 || t.kind == 3) && t.text.data.toList == s.data.toList
theorem take_rd {w:World}{rb tb:Nat}{t u:Tok}{l:List Tok} (h:Rd w rb tb (t :: u :: l)) :
  Calls Tryz.prog 66 #[.pointer (some ⟨rb,0,none⟩)] w fun e w'=>e = .returned (.agg #[.int .u8 t.kind,.string t.text,.int .i64 t.pos])∧Left w w' rb tb (u :: l):=by
 obtain ⟨o,c,h⟩:=h;exact take_ok h
theorem accept_yes {w:World}{rb tb:Nat}{t u:Tok}{l:List Tok}{s:ByteArray} (h:Rd w rb tb (t :: u :: l)) (hs:isTok t s=true) :
  Calls Tryz.prog 37 #[.pointer (some ⟨rb,0,none⟩),.string s] w fun e w'=>e = .returned (.bool true)∧Left w w' rb tb (u :: l):=by
 have h':=h
 obtain ⟨o,c,⟨hr,hcap,hmax,hf,hne,htb,⟨h0,h1,h2,hrest⟩⟩⟩:=h
 have hrb:=cell_lt hr
 simp only [List.length_cons] at hr hcap
 obtain ⟨hk,hs⟩:(t.kind=7∨t.kind=3)∧t.text.toList=s.toList:=by simpa [isTok,ByteArray.toList_eq] using hs
 go_enter Tryz.func37,Tryz.ntmps37
 rcases hk with hk | hk
 all_goals
  go_wp2_with (go_at_call 66;refine (take_rd (h'.alloc _)).mono ?_;rintro e w1 ⟨rfl,hl⟩)
  go_ret
  exact ⟨rfl,hl.from (below_alloc _ _)⟩
theorem accept_no {w:World}{rb tb:Nat}{t:Tok}{s:ByteArray}{l:List Tok} (h:Rd w rb tb (t :: l)) (hs:isTok t s=false) :
  Calls Tryz.prog 37 #[.pointer (some ⟨rb,0,none⟩),.string s] w fun e w'=>e = .returned (.bool false)∧Left w w' rb tb (t :: l):=by
 obtain ⟨o,c,h⟩:=h
 have h':=h
 obtain ⟨hr,hcap,hmax,hf,hne,htb,⟨h0,h1,h2,hrest⟩⟩:=h
 have hrb:=cell_lt hr
 simp only [List.length_cons] at hr hcap
 have hk:¬ t.text.toList=s.toList∨(t.kind≠7∧t.kind≠3):=by
  simp [isTok,← ByteArray.toList_eq] at hs
  by_cases e:t.text.toList=s.toList
  ·by_cases k7:t.kind=7
   ·exact absurd e (hs (.inl k7))
   ·by_cases k3:t.kind=3
    ·exact absurd e (hs (.inr k3))
    ·exact .inr ⟨k7,k3⟩
  ·exact .inl e
 clear hs
 go_enter Tryz.func37,Tryz.ntmps37
 by_cases hs:t.text.toList=s.toList
 ·obtain ⟨k1,k2⟩:t.kind≠7∧t.kind≠3:=by rcases hk with hk | hk;exact absurd hs hk;exact hk
  have b1:(t.kind != 7)=true:=by simpa using k1
  have b2:(t.kind != 3)=true:=by simpa using k2
  clear k1 k2 hk
  go_wp2
  go_ret
  exact ⟨rfl,.stay h' (below_alloc _ _)⟩
 ·clear hk
  go_wp2
  go_ret
  exact ⟨rfl,.stay h' (below_alloc _ _)⟩
theorem expectKind_ok {w:World}{rb tb:Nat}{t u:Tok}{l:List Tok} (h:Rd w rb tb (t :: u :: l)) :
  Calls Tryz.prog 67 #[.pointer (some ⟨rb,0,none⟩),.int .u8 t.kind] w fun e w'=>e = .returned (.agg #[.int .u8 t.kind,.string t.text,.int .i64 t.pos])∧Left w w' rb tb (u :: l):=by
 have h':=h
 obtain ⟨o,c,⟨hr,hcap,hmax,hf,hne,htb,⟨h0,h1,h2,hrest⟩⟩⟩:=h
 have hrb:=cell_lt hr
 simp only [List.length_cons] at hr hcap
 go_enter Tryz.func67,Tryz.ntmps67
 have hb:w.heap.size≠rb:=by omega
 have hbt:w.heap.size≠tb:=by omega
 go_wp2_with (go_at_call 66;refine (take_rd (h'.alloc _)).mono ?_;rintro e w1 ⟨rfl,hl⟩;obtain ⟨hc,hz⟩:=hl.kept.rules;have hs:=hl.kept.size;simp at hs hc hz)
 exact bodyPost_ret (v:=.agg #[.int .u8 t.kind,.string t.text,.int .i64 t.pos]) (by simp [results,Tryz.results67,go_sem,hc,hb]) rfl
  ⟨rfl,(((hl.from (below_alloc _ _)).setNew _ (Nat.le_refl _) hb hbt).setNew _ (Nat.le_refl _) hb hbt).setNew _ (Nat.le_refl _) hb hbt⟩
def rowOf (s:List UInt8):Int :=
 if s == [124] then 1 else if s == [44] then 2 else if s == [47,47] then 3 else if s == [124,61] || s == [61] then 4 else if s == [111,114] then 5 else if s == [97,110,100] then 6
 else if s == [61,61] || s == [33,61] || s == [60] || s == [60,61] || s == [62] || s == [62,61] then 7 else if s == [43] || s == [45] then 8 else if s == [42] || s == [47] || s == [37] then 9 else 0
theorem rowOf_any (s:ByteArray) (w:World) :
  Calls Tryz.prog 89 #[.string s] w fun e w'=>e = .returned (.int .u8 (rowOf s.data.toList))∧w'=w:=by
 rw [← ByteArray.toList_eq]
 go_enter Tryz.func89,Tryz.ntmps89
 go_wp2
 all_goals
  go_ret
  refine ⟨?_,rfl⟩
  simp_all [rowOf]
def opOf (t:Tok):Int:=if t.kind == 7 || t.kind == 3 then rowOf t.text.data.toList else 0
theorem operator_any {w:World}{rb tb:Nat}{t:Tok}{l:List Tok} (h:Rd w rb tb (t :: l)) :
  Calls Tryz.prog 70 #[.pointer (some ⟨rb,0,none⟩)] w fun e w'=>e = .returned (.int .u8 (opOf t))∧Left w w' rb tb (t :: l):=by
 obtain ⟨o,c,h⟩:=h
 have h':=h
 obtain ⟨hr,hcap,hmax,hf,hne,htb,⟨h0,h1,h2,hrest⟩⟩:=h
 have hrb:=cell_lt hr
 simp only [List.length_cons] at hr hcap
 go_enter Tryz.func70,Tryz.ntmps70
 by_cases k7:t.kind=7
 ·go_wp2_with (go_at_call 89;refine (rowOf_any _ _).mono ?_;rintro e w1 ⟨rfl,rfl⟩)
  go_ret
  exact ⟨by simp [opOf,k7],.stay h' (below_alloc _ _)⟩
 ·by_cases k3:t.kind=3
  ·go_wp2_with (go_at_call 89;refine (rowOf_any _ _).mono ?_;rintro e w1 ⟨rfl,rfl⟩)
   go_ret
   exact ⟨by simp [opOf,k3],.stay h' (below_alloc _ _)⟩
  ·have b1:(t.kind != 7)=true:=by simpa using k7
   have b2:(t.kind != 3)=true:=by simpa using k3
   go_wp2_with (go_at_call 89;refine (rowOf_any _ _).mono ?_;rintro e w1 ⟨rfl,rfl⟩)
   go_ret
   exact ⟨by simp [opOf,k7,k3],.stay h' (below_alloc _ _)⟩
end Go.Proofs.Tryz
namespace Go.Proofs.Tryz
set_option maxHeartbeats 16000000
open Go.RowKit
structure Pyl where
 name:ByteArray
 names:List ByteArray
 num:Int
 val:Nat×Int×ByteArray
 cnt:Nat
abbrev Tn:=Ask Pyl
def Pyl.none:Pyl:=⟨⟨#[]⟩,[],0,(0,0,⟨#[]⟩),0⟩
def Tn.no:Tn:=.done Pyl.none
def nd (kind:Nat) (y:Pyl) (kids:List Tn):Tn:=.ask "" kind fun i=>match i with
 | 0=>.done { y with cnt:=kids.length }
 | i+1=>kids.getD i Tn.no
abbrev Out (α:Type):=Except (List Tok) (α×List Tok)
def acc (s:ByteArray):List Tok→Bool×List Tok
 | t :: u :: l=>if isTok t s then (true,u :: l) else (false,t :: u :: l)
 | l=>(false,l)
def exq (s:ByteArray) (l:List Tok):Out Unit:=match acc s l with
 | (true,l')=>.ok ((),l')
 | (false,_)=>.error l
def thn {α β:Type} (x:Out α) (f:α→List Tok→Out β):Out β:=match x with
 | .ok (a,l)=>f a l
 | .error r=>.error r
def exk (k:Int):List Tok→Out Tok
 | t :: u :: l=>if t.kind=k then .ok (t,u :: l) else .error (t :: u :: l)
 | l=>.error l
def kindOf:List Tok→Int
 | t :: _=>t.kind
 | []=>0
abbrev Ps:=Nat→List Tok→Out Tn
def sDef:ByteArray:=⟨#[100,101,102]⟩
def sOpen:ByteArray:=⟨#[40]⟩
def sShut:ByteArray:=⟨#[41]⟩
def sSemi:ByteArray:=⟨#[59]⟩
def sColon:ByteArray:=⟨#[58]⟩
def sMinus:ByteArray:=⟨#[45]⟩
def sLabel:ByteArray:=⟨#[108,97,98,101,108]⟩
def sTry:ByteArray:=⟨#[116,114,121]⟩
def sCatch:ByteArray:=⟨#[99,97,116,99,104]⟩
def sReduce:ByteArray:=⟨#[114,101,100,117,99,101]⟩
def sForeach:ByteArray:=⟨#[102,111,114,101,97,99,104]⟩
def sIf:ByteArray:=⟨#[105,102]⟩
def sThen:ByteArray:=⟨#[116,104,101,110]⟩
def sElse:ByteArray:=⟨#[101,108,115,101]⟩
def sEnd:ByteArray:=⟨#[101,110,100]⟩
def sAs:ByteArray:=⟨#[97,115]⟩
def sBar:ByteArray:=⟨#[124]⟩
def sDot:ByteArray:=⟨#[46]⟩
def sDots:ByteArray:=⟨#[46,46]⟩
def sSqO:ByteArray:=⟨#[91]⟩
def sSqC:ByteArray:=⟨#[93]⟩
def sCuO:ByteArray:=⟨#[123]⟩
def sCuC:ByteArray:=⟨#[125]⟩
def sAsk:ByteArray:=⟨#[63]⟩
def sComma:ByteArray:=⟨#[44]⟩
def sNull:ByteArray:=⟨#[110,117,108,108]⟩
def sFalse:ByteArray:=⟨#[102,97,108,115,101]⟩
def sTrueW:ByteArray:=⟨#[116,114,117,101]⟩
def sBreak:ByteArray:=⟨#[98,114,101,97,107]⟩
def namesS:Nat→List Tok→Out (List ByteArray)
 | 0,l=>.error l
 | m+1,l=>match acc sSemi l with
  | (false,_)=>.ok ([],l)
  | (true,l1) =>
   thn (exk 2 l1) fun t l2 =>
   thn (namesS m l2) fun ts l3 =>
   .ok (t.text :: ts,l3)
def paramsS (l:List Tok):Out (List ByteArray):=match acc sOpen l with
 | (false,_)=>.ok ([],l)
 | (true,l1) =>
  thn (exk 2 l1) fun t l2 =>
  thn (namesS l2.length l2) fun ts l3 =>
  thn (exq sShut l3) fun _ l4 =>
  .ok (t.text :: ts,l4)
def defS (P:Ps) (l:List Tok):Out Tn :=
 thn (exk 2 l) fun t l1 =>
 thn (paramsS l1) fun ps l2 =>
 thn (exq sColon l2) fun _ l3 =>
 thn (P 0 l3) fun b l4 =>
 thn (exq sSemi l4) fun _ l5 =>
 thn (P 0 l5) fun r l6 =>
 .ok (nd 20 { Pyl.none with name:=t.text,names:=ps } [b,r],l6)
def filterS (P:Ps) (l:List Tok):Out Tn:=match acc sDef l with
 | (true,l1)=>defS P l1
 | (false,_)=>P 11 l
def labelS (P:Ps) (l:List Tok):Out Tn :=
 thn (exk 4 l) fun t l1 =>
 thn (exq sBar l1) fun _ l2 =>
 thn (P 11 l2) fun b l3 =>
 .ok (nd 17 { Pyl.none with name:=t.text } [b],l3)
def tryS (P:Ps) (l:List Tok):Out Tn :=
 thn (P 1 l) fun b l1 =>
 match acc sCatch l1 with
 | (false,_)=>.ok (nd 14 Pyl.none [b],l1)
 | (true,l2) =>
  thn (P 1 l2) fun c l3 =>
  .ok (nd 14 Pyl.none [b,c],l3)
def sourceS (P:Ps) (l:List Tok):Out (Tn×ByteArray) :=
 thn (P 3 l) fun f l1 =>
 thn (exq sAs l1) fun _ l2 =>
 thn (exk 4 l2) fun t l3 =>
 thn (exq sOpen l3) fun _ l4 =>
 .ok ((f,t.text),l4)
def reduceS (P:Ps) (l:List Tok):Out Tn :=
 thn (sourceS P l) fun (f,x) l1 =>
 thn (P 0 l1) fun a l2 =>
 thn (exq sSemi l2) fun _ l3 =>
 thn (P 0 l3) fun b l4 =>
 thn (exq sShut l4) fun _ l5 =>
 .ok (nd 18 { Pyl.none with name:=x } [f,a,b],l5)
def foreachS (P:Ps) (l:List Tok):Out Tn :=
 thn (sourceS P l) fun (f,x) l1 =>
 thn (P 0 l1) fun a l2 =>
 thn (exq sSemi l2) fun _ l3 =>
 thn (P 0 l3) fun b l4 =>
 thn (exq sSemi l4) fun _ l5 =>
 thn (P 0 l5) fun c l6 =>
 thn (exq sShut l6) fun _ l7 =>
 .ok (nd 19 { Pyl.none with name:=x } [f,a,b,c],l7)
def ifS (P:Ps) (l:List Tok):Out Tn :=
 thn (P 0 l) fun a l1 =>
 thn (exq sThen l1) fun _ l2 =>
 thn (P 0 l2) fun b l3 =>
 thn (exq sElse l3) fun _ l4 =>
 thn (P 0 l4) fun c l5 =>
 thn (exq sEnd l5) fun _ l6 =>
 .ok (nd 15 Pyl.none [a,b,c],l6)
def bindS (P:Ps) (l:List Tok):Out Tn :=
 thn (P 3 l) fun f l1 =>
 match acc sAs l1 with
 | (false,_)=>.ok (f,l1)
 | (true,l2) =>
  thn (exk 4 l2) fun t l3 =>
  thn (exq sBar l3) fun _ l4 =>
  thn (P 11 l4) fun b l5 =>
  .ok (nd 16 { Pyl.none with name:=t.text } [f,b],l5)
def boundS (P:Ps) (l:List Tok):Out Tn :=
 match acc sLabel l with
 | (true,l1)=>labelS P l1
 | _=>match acc sTry l with
  | (true,l1)=>tryS P l1
  | _=>match acc sReduce l with
   | (true,l1)=>reduceS P l1
   | _=>match acc sForeach l with
    | (true,l1)=>foreachS P l1
    | _=>match acc sIf l with
     | (true,l1)=>ifS P l1
     | _=>bindS P l
def minusS (P:Ps) (l:List Tok):Out Tn:=match acc sMinus l with
 | (true,l1) =>
  thn (P 1 l1) fun a l2 =>
  .ok (nd 13 Pyl.none [a],l2)
 | (false,_)=>boundS P l
def afterS (P:Ps):Nat→Tn→List Tok→Out Tn
 | 0,_,l=>.error l
 | m+1,f,l=>match acc sDot l with
  | (true,l1) =>
   thn (exk 2 l1) fun t l2 =>
   afterS P m (nd 5 { Pyl.none with name:=t.text } [f]) l2
  | _=>match acc sSqO l with
   | (true,l1)=>match acc sSqC l1 with
    | (true,l2)=>afterS P m (nd 7 Pyl.none [f]) l2
    | _ =>
     thn (P 0 l1) fun b l2 =>
     thn (exq sSqC l2) fun _ l3 =>
     afterS P m (nd 6 Pyl.none [f,b]) l3
   | _=>match acc sAsk l with
    | (true,l1)=>afterS P m (nd 8 Pyl.none [f]) l1
    | _=>.ok (f,l)
def postfixS (P:Ps) (l:List Tok):Out Tn :=
 thn (P 4 l) fun f l1 =>
 afterS P l1.length f l1
def argsS (P:Ps):Nat→List Tok→Out (List Tn)
 | 0,l=>.error l
 | m+1,l=>match acc sSemi l with
  | (false,_)=>.ok ([],l)
  | (true,l1) =>
   thn (P 0 l1) fun a l2 =>
   thn (argsS P m l2) fun az l3 =>
   .ok (a :: az,l3)
def callS (P:Ps) (t:Tok) (l:List Tok):Out Tn:=match acc sOpen l with
 | (false,_)=>.ok (nd 11 { Pyl.none with name:=t.text,num:=t.pos } [],l)
 | (true,l1) =>
  thn (P 0 l1) fun a l2 =>
  thn (argsS P l2.length l2) fun az l3 =>
  thn (exq sShut l3) fun _ l4 =>
  .ok (nd 11 { Pyl.none with name:=t.text,num:=t.pos } (a :: az),l4)
def litT (v:Nat×Int×ByteArray):Tn:=nd 2 { Pyl.none with val:=v } []
def wordyS (l:List Tok):Out Tn :=
 match acc sNull l with
 | (true,l1)=>.ok (litT (0,0,⟨#[]⟩),l1)
 | _=>match acc sFalse l with
  | (true,l1)=>.ok (litT (1,0,⟨#[]⟩),l1)
  | _=>match acc sTrueW l with
   | (true,l1)=>.ok (litT (2,0,⟨#[]⟩),l1)
   | _=>match acc sBreak l with
    | (true,l1) =>
     thn (exk 4 l1) fun t l2 =>
     .ok (nd 4 { Pyl.none with name:=t.text,num:=t.pos } [],l2)
    | _=>.error l
def keyS (P:Ps):List Tok→Out (Nat×ByteArray×Tn)
 | t :: u :: m=>if t.kind=2 then .ok ((0,t.text,litT (4,0,t.text)),u :: m) else if t.kind=6 then .ok ((1,t.text,litT (4,0,t.text)),u :: m) else
   thn (exq sOpen (t :: u :: m)) fun _ l1 =>
   thn (P 0 l1) fun f l2 =>
   thn (exq sShut l2) fun _ l3 =>
   .ok ((2,⟨#[]⟩,f),l3)
 | l=>.error l
def memberS (P:Ps) (l:List Tok):Out (Nat×ByteArray×Tn×Tn) :=
 thn (keyS P l) fun k l1 =>
 thn (exq sColon l1) fun _ l2 =>
 thn (P 13 l2) fun v l3 =>
 .ok ((k.1,k.2.1,k.2.2,v),l3)
def membersS (P:Ps):Nat→List Tok→Out (List (Nat×ByteArray×Tn×Tn))
 | 0,l=>.error l
 | m+1,l=>match acc sComma l with
  | (false,_)=>.ok ([],l)
  | (true,l1) =>
   thn (memberS P l1) fun a l2 =>
   thn (membersS P m l2) fun az l3 =>
   .ok (a :: az,l3)
def buildT (ms:List (Nat×ByteArray×Tn×Tn)):Tn:=nd 10 { Pyl.none with names:=ms.map fun m=>if m.1=0 then m.2.1 else if m.1=1 then ⟨#[34]⟩ else ⟨#[40]⟩ } (ms.flatMap fun m=>[m.2.2.1,m.2.2.2])
def buildS (P:Ps) (l:List Tok):Out Tn:=match acc sCuC l with
 | (true,l1)=>.ok (buildT [],l1)
 | (false,_) =>
  thn (memberS P l) fun a l1 =>
  thn (membersS P l1.length l1) fun az l2 =>
  thn (exq sCuC l2) fun _ l3 =>
  .ok (buildT (a :: az),l3)
def identT:Tn:=nd 0 Pyl.none []
def signedS (P:Ps) (l:List Tok):Out Tn :=
 match acc sDot l with
 | (true,l1)=>match exk 2 l1 with
  | .ok (t,l2)=>.ok (nd 5 { Pyl.none with name:=t.text } [identT],l2)
  | .error _=>.ok (identT,l1)
 | _=>match acc sDots l with
  | (true,l1)=>.ok (nd 1 Pyl.none [],l1)
  | _=>match acc sOpen l with
   | (true,l1) =>
    thn (P 0 l1) fun f l2 =>
    thn (exq sShut l2) fun _ l3 =>
    .ok (f,l3)
   | _=>match acc sSqO l with
    | (true,l1)=>match acc sSqC l1 with
     | (true,l2)=>.ok (nd 9 Pyl.none [],l2)
     | _ =>
      thn (P 0 l1) fun f l2 =>
      thn (exq sSqC l2) fun _ l3 =>
      .ok (nd 9 Pyl.none [f],l3)
    | _=>match acc sCuO l with
     | (true,l1)=>buildS P l1
     | _=>.error l
def primaryS (P:Ps):List Tok→Out Tn
 | t :: u :: l =>
  if t.kind=2 then callS P t (u :: l)
  else if t.kind=4 then .ok (nd 3 { Pyl.none with name:=t.text,num:=t.pos } [],u :: l)
  else if t.kind=5 then .ok (litT (3,0,t.text),u :: l)
  else if t.kind=6 then .ok (litT (4,0,t.text),u :: l)
  else if t.kind=3 then wordyS (t :: u :: l)
  else signedS P (t :: u :: l)
 | l=>.error l
end Go.Proofs.Tryz
namespace Go.Proofs.Tryz
set_option maxHeartbeats 16000000
open Go.RowKit
def binT (op:ByteArray) (a b:Tn):Tn:=nd 12 { Pyl.none with name:=op } [a,b]
def opAt:List Tok→Int
 | t :: _=>opOf t
 | []=>0
def txtAt:List Tok→ByteArray
 | t :: _=>t.text
 | []=>⟨#[]⟩
def right (r:Int):Bool:=r == 1 || r == 3
def once (r:Int):Bool:=r == 4 || r == 7
abbrev Hf:=Tn×ByteArray×Int
def waits (h:Hf) (next:Int):Bool:=h.2.2 < next || (h.2.2 == next && right next)
def foldH (loosest:Int):List Hf→Tn→Int→(List Hf×Tn)×Bool
 | [],side,next=>if next < loosest then (([],side),true) else (([],side),false)
 | h :: hs,side,next=>if waits h next then ((h :: hs,side),false) else foldH loosest hs (binT h.2.1 h.1 side) (if h.2.2 == next && once next then 0 else next)
def operL (P:Ps) (loosest:Int):Nat→List Hf→List Tok→Out Tn
 | 0,_,l=>.error l
 | m+1,hs,l=>thn (P 1 l) fun side l1 =>
  match foldH loosest hs side (opAt l1) with
  | ((_,side'),true)=>.ok (side',l1)
  | ((hs',side'),false)=>operL P loosest m ((side',txtAt l1,opAt l1) :: hs') l1.tail
def operS (P:Ps) (r:Int) (l:List Tok):Out Tn:=operL P r l.length [] l
def climbs (P:Ps) (loop:Nat→Tn→List Tok→Out Tn):Nat→List Tok→Out Tn
 | 0,l=>P 1 l
 | k+1,l=>thn (climbs P loop k l) fun a l1=>loop k a l1
def loops (P:Ps):Nat→Nat→Tn→List Tok→Out Tn
 | 0,_,a,l=>.ok (a,l)
 | m+1,k,a,l=>if opAt l=9 - (k:Int) then
   thn (climbs P (loops P m) (if right (9 - (k:Int)) then k+1 else k) l.tail) fun b l1 =>
   if right (9 - (k:Int)) || once (9 - (k:Int)) then .ok (binT (txtAt l) a b,l1) else loops P m k (binT (txtAt l) a b) l1
  else .ok (a,l)
def climbS (P:Ps) (r:Int) (l:List Tok):Out Tn:=climbs P (loops P l.length) (10 - r).toNat l
def Shr (P:Ps):Prop:=∀ l t l',P 1 l = .ok (t,l')→l'.length < l.length
theorem thn_ok {α β:Type}{x:Out α}{f:α→List Tok→Out β}{b:β}{l:List Tok} (h:thn x f = .ok (b,l)):∃ a l1,x = .ok (a,l1)∧f a l1 = .ok (b,l):=by
 unfold thn at h
 split at h
 ·exact ⟨_,_,rfl,h⟩
 ·cases h
end Go.Proofs.Tryz
namespace Go.Proofs.Tryz
set_option maxHeartbeats 16000000
open Go.RowKit
theorem thn_assoc {α β γ:Type} (x:Out α) (f:α→List Tok→Out β) (g:β→List Tok→Out γ):thn (thn x f) g=thn x fun a l=>thn (f a l) g:=by
 unfold thn
 cases x with
 | error r=>rfl
 | ok p=>rfl
theorem thn_id {α:Type} (x:Out α):thn x (fun a l=>.ok (a,l))=x:=by
 unfold thn
 cases x with
 | error r=>rfl
 | ok p=>rfl
theorem thn_congr {α β:Type}{x:Out α}{f g:α→List Tok→Out β} (h:∀ a l,x = .ok (a,l)→f a l=g a l):thn x f=thn x g:=by
 unfold thn
 cases x with
 | error r=>rfl
 | ok p=>exact h p.1 p.2 rfl
theorem opAt_range (l:List Tok):0≤opAt l∧opAt l≤9:=by
 cases l with
 | nil=>exact ⟨by decide,by decide⟩
 | cons t l =>
  show 0≤opOf t∧opOf t≤9
  unfold opOf rowOf
  repeat' split
  all_goals exact ⟨by decide,by decide⟩
theorem opAt_pos {l:List Tok} (h:0 < opAt l):l.tail.length < l.length:=by
 cases l with
 | nil=>simp [opAt] at h
 | cons t l=>simp
theorem climbs_lt {P:Ps} (hP:Shr P) {loop:Nat→Tn→List Tok→Out Tn} (hl:∀ k a l b l1,loop k a l = .ok (b,l1)→l1.length≤l.length):∀ (k:Nat) (l:List Tok) (b:Tn) (l1:List Tok),climbs P loop k l = .ok (b,l1)→l1.length < l.length
 | 0,l,b,l1,h=>hP _ _ _ h
 | k+1,l,b,l1,h=>by
  rw [climbs] at h
  obtain ⟨c,l2,h1,h2⟩:=thn_ok h
  have h3:=climbs_lt hP hl k _ _ _ h1
  have h4:=hl _ _ _ _ _ h2
  omega
theorem loops_le {P:Ps} (hP:Shr P):∀ (m k:Nat) (a:Tn) (l:List Tok) (b:Tn) (l1:List Tok),loops P m k a l = .ok (b,l1)→l1.length≤l.length
 | 0,k,a,l,b,l1,h=>by
  simp only [loops,Except.ok.injEq,Prod.mk.injEq] at h
  rw [← h.2]
  exact Nat.le_refl _
 | m+1,k,a,l,b,l1,h=>by
  rw [loops] at h
  split at h
  ·obtain ⟨c,l2,h1,h2⟩:=thn_ok h
   have h3:=climbs_lt hP (loops_le hP m) _ _ _ _ h1
   have h4:l.tail.length≤l.length:=by simp
   split at h2
   ·simp only [Except.ok.injEq,Prod.mk.injEq] at h2
    rw [← h2.2]
    omega
   ·have:=loops_le hP m _ _ _ _ _ h2
    omega
  ·simp only [Except.ok.injEq,Prod.mk.injEq] at h
   rw [← h.2]
   exact Nat.le_refl _
theorem climbs_same {P:Ps} (hP:Shr P) {lp lq:Nat→Tn→List Tok→Out Tn}{n:Nat} (hl:∀ k a l b l1,lp k a l = .ok (b,l1)→l1.length≤l.length) (h:∀ k a l,k≤8→l.length < n→lp k a l=lq k a l):∀ (k:Nat) (l:List Tok),k≤9→l.length≤n→climbs P lp k l=climbs P lq k l
 | 0,l,_,_=>rfl
 | k+1,l,hk,hn=>by
  rw [climbs,climbs,← climbs_same hP hl h k l (by omega) hn]
  refine thn_congr (fun a l1 e=>h k a l1 (by omega) ?_)
  have:=climbs_lt hP hl k _ _ _ e
  omega
theorem loops_fuel {P:Ps} (hP:Shr P):∀ (n m m' k:Nat) (a:Tn) (l:List Tok),l.length≤n→l.length≤m→l.length≤m'→k≤8→loops P m k a l=loops P m' k a l
 | n,m,m',k,a,[],_,_,_,hk=>by
  have e:¬ opAt ([]:List Tok)=9 - (k:Int):=by show ¬ (0:Int)=9 - (k:Int);omega
  cases m <;> cases m' <;> simp only [loops,if_neg e]
 | n+1,m+1,m'+1,k,a,t :: l,hn,hm,hm',hk=>by
  simp only [List.length_cons] at hn hm hm'
  rw [loops,loops]
  by_cases e:opAt (t :: l)=9 - (k:Int)
  ·rw [if_pos e,if_pos e,List.tail_cons]
   have ih:∀ k a l2,k≤8→l2.length < l.length→loops P m k a l2=loops P m' k a l2:=fun k a l2 hk h2=>loops_fuel hP n m m' k a l2 (by omega) (by omega) (by omega) hk
   have hT:(if right (9 - (k:Int)) then k+1 else k)≤9:=by split <;> omega
   rw [climbs_same hP (loops_le hP m) ih _ l hT (Nat.le_refl _)]
   refine thn_congr (fun b l1 h1=>?_)
   have h2:=climbs_lt hP (loops_le hP m') _ _ _ _ h1
   rw [ih k _ l1 hk h2]
  ·rw [if_neg e,if_neg e]
def LP (P:Ps) (k:Nat) (a:Tn) (l:List Tok):Out Tn:=loops P l.length k a l
def tightOf (k:Nat):Nat:=if right (9 - (k:Int)) then k+1 else k
theorem LP_le {P:Ps} (hP:Shr P) (k:Nat) (a:Tn) (l:List Tok) (b:Tn) (l1:List Tok) (h:LP P k a l = .ok (b,l1)):l1.length≤l.length:=loops_le hP _ _ _ _ _ _ h
theorem climbs_LP {P:Ps} (hP:Shr P) {m k:Nat}{l:List Tok} (hm:l.length≤m) (hk:k≤9):climbs P (loops P m) k l=climbs P (LP P) k l :=
 climbs_same hP (loops_le hP m) (fun k a l2 hk h2=>loops_fuel hP m m l2.length k a l2 (by omega) (by omega) (Nat.le_refl _) hk) k l hk (Nat.le_refl _)
theorem LP_hit {P:Ps} (hP:Shr P) {k:Nat}{a:Tn}{l:List Tok} (hk:k≤8) (h:opAt l=9 - (k:Int)):LP P k a l=thn (climbs P (LP P) (tightOf k) l.tail) fun b l1=>if right (9 - (k:Int)) || once (9 - (k:Int)) then .ok (binT (txtAt l) a b,l1) else LP P k (binT (txtAt l) a b) l1:=by
 cases l with
 | nil=>exact absurd h (by show ¬ (0:Int)=_;omega)
 | cons t l =>
  unfold LP
  rw [List.length_cons,loops,if_pos h,List.tail_cons]
  have hT:tightOf k≤9:=by unfold tightOf;split <;> omega
  rw [show (if right (9 - (k:Int)) then k+1 else k)=tightOf k from rfl,climbs_LP hP (Nat.le_refl _) hT]
  refine thn_congr (fun b l1 h1=>?_)
  have h2:=climbs_lt hP (LP_le hP) _ _ _ _ h1
  rw [loops_fuel hP l.length l.length l1.length k _ l1 (by omega) (by omega) (Nat.le_refl _) hk]
theorem LP_miss {P:Ps}{k:Nat}{a:Tn}{l:List Tok} (h:¬ opAt l=9 - (k:Int)):LP P k a l = .ok (a,l):=by
 unfold LP
 cases l.length with
 | zero=>rfl
 | succ n=>rw [loops,if_neg h]
def runs (P:Ps):Nat→Nat→Tn→List Tok→Out Tn
 | _,0,a,l=>.ok (a,l)
 | k,n+1,a,l=>thn (LP P k a l) fun b l1=>runs P (k+1) n b l1
theorem runs_snoc (P:Ps):∀ (n k:Nat) (a:Tn) (l:List Tok),runs P k (n+1) a l=thn (runs P k n a l) fun b l1=>LP P (k+n) b l1
 | 0,k,a,l=>by
  rw [runs,runs]
  show thn (LP P k a l) (fun b l1=>.ok (b,l1))=LP P k a l
  exact thn_id _
 | n+1,k,a,l=>by
  rw [runs,runs,thn_assoc]
  refine thn_congr (fun b l1 _=>?_)
  rw [runs_snoc P n (k+1) b l1,show k+1+n=k+(n+1) by omega]
theorem climbs_runs (P:Ps):∀ (k:Nat) (l:List Tok),climbs P (LP P) k l=thn (P 1 l) fun a l1=>runs P 0 k a l1
 | 0,l=>(thn_id _).symm
 | k+1,l=>by
  rw [climbs,climbs_runs P k l,thn_assoc]
  refine thn_congr (fun a l1 _=>?_)
  rw [runs_snoc P k 0 a l1,Nat.zero_add]
theorem runs_miss (P:Ps):∀ (n k:Nat) (a:Tn) (l:List Tok),(∀ j,k≤j→j < k+n→¬ opAt l=9 - (j:Int))→runs P k n a l = .ok (a,l)
 | 0,_,_,_,_=>rfl
 | n+1,k,a,l,h=>by
  rw [runs,LP_miss (h k (Nat.le_refl _) (by omega))]
  exact runs_miss P n (k+1) a l (fun j h1 h2=>h j (by omega) (by omega))
theorem runs_split (P:Ps):∀ (n m k:Nat) (a:Tn) (l:List Tok),runs P k (n+m) a l=thn (runs P k n a l) fun b l1=>runs P (k+n) m b l1
 | 0,m,k,a,l=>by rw [Nat.zero_add,Nat.add_zero];rfl
 | n+1,m,k,a,l=>by
  rw [show n+1+m=(n+m)+1 by omega,runs,runs,thn_assoc]
  refine thn_congr (fun b l1 _=>?_)
  rw [runs_split P n m (k+1) b l1,show k+1+n=k+(n+1) by omega]
end Go.Proofs.Tryz
namespace Go.Proofs.Tryz
set_option maxHeartbeats 16000000
open Go.RowKit
def kOf (h:Hf):Nat:=(9 - h.2.2).toNat
def nxOf (h:Hf):Nat:=if right h.2.2 || once h.2.2 then kOf h+1 else kOf h
def tOf (r:Int):List Hf→Nat
 | []=>(10 - r).toNat
 | h :: _=>if right h.2.2 then kOf h+1 else kOf h
def contK (P:Ps) (r:Int):List Hf→Tn→List Tok→Out Tn
 | [],b,l=>.ok (b,l)
 | h :: hs,b,l=>thn (runs P (nxOf h) (tOf r hs - nxOf h) (binT h.2.1 h.1 b) l) fun c l1=>contK P r hs c l1
def finK (P:Ps) (r:Int) (hs:List Hf) (k:Nat) (side:Tn) (l:List Tok):Out Tn:=thn (runs P k (tOf r hs - k) side l) fun c l1=>contK P r hs c l1
theorem fin_miss {P:Ps}{r:Int}{hs:List Hf}{k:Nat}{side:Tn}{l:List Tok} (h:∀ j,k≤j→j < tOf r hs→¬ opAt l=9 - (j:Int)):finK P r hs k side l=contK P r hs side l:=by
 unfold finK
 rw [runs_miss P _ _ _ _ (fun j h1 h2=>h j h1 (by omega))]
 rfl
theorem fin_hit {P:Ps} (hP:Shr P) {r:Int}{hs:List Hf}{k κ:Nat}{side:Tn}{l:List Tok} (h1:k≤κ) (h2:κ < tOf r hs) (h8:κ≤8) (ho:opAt l=9 - (κ:Int)) :
  finK P r hs k side l=thn (P 1 l.tail) fun x l1=>finK P r ((side,txtAt l,opAt l) :: hs) 0 x l1:=by
 have eκ:kOf (side,txtAt l,opAt l)=κ:=by show (9 - opAt l).toNat=κ;omega
 have et:tOf r ((side,txtAt l,opAt l) :: hs)=tightOf κ:=by
  show (if right (opAt l) then kOf (side,txtAt l,opAt l)+1 else kOf (side,txtAt l,opAt l))=tightOf κ
  rw [eκ,ho]
  rfl
 unfold finK
 rw [show tOf r hs - k=(κ - k)+(tOf r hs - κ) by omega,runs_split,runs_miss P (κ - k) k side l (fun j a b e=>by omega)]
 show thn (runs P (k+(κ - k)) (tOf r hs - κ) side l) _=_
 rw [show k+(κ - k)=κ by omega,show tOf r hs - κ=(tOf r hs - κ - 1)+1 by omega,runs,LP_hit hP h8 ho,thn_assoc,thn_assoc,climbs_runs,thn_assoc]
 refine thn_congr (fun x l1 _=>?_)
 rw [et,Nat.sub_zero]
 refine thn_congr (fun b l2 _=>?_)
 show _=thn (runs P (nxOf (side,txtAt l,opAt l)) (tOf r hs - nxOf (side,txtAt l,opAt l)) (binT (txtAt l) side b) l2) fun c l1=>contK P r hs c l1
 rw [← ho]
 have en:nxOf (side,txtAt l,opAt l)=if right (opAt l) || once (opAt l) then κ+1 else κ:=by
  show (if right (opAt l) || once (opAt l) then kOf (side,txtAt l,opAt l)+1 else kOf (side,txtAt l,opAt l))=_
  rw [eκ]
 rw [en,← thn_assoc]
 congr 1
 by_cases e:(right (opAt l) || once (opAt l))=true
 ·rw [if_pos e,if_pos e]
  show runs P (κ+1) (tOf r hs - κ - 1) _ l2=_
  rw [Nat.sub_sub]
 ·rw [if_neg e,if_neg e,show tOf r hs - κ=(tOf r hs - κ - 1)+1 by omega,runs]
  rfl
def Ranked (r:Int):List Hf→Prop
 | []=>True
 | [h]=>r≤h.2.2∧h.2.2≤9
 | h :: g :: hs=>h.2.2≤9∧waits g h.2.2=true∧Ranked r (g :: hs)
theorem Ranked.tail {r:Int}{h:Hf}{hs:List Hf} (k:Ranked r (h :: hs)):Ranked r hs:=by
 cases hs with
 | nil=>trivial
 | cons g hs=>exact k.2.2
theorem Ranked.low {r:Int}:∀ {hs:List Hf}{h:Hf},Ranked r (h :: hs)→r≤h.2.2∧h.2.2≤9
 | [],_,k=>k
 | g :: hs,h,k=>by
  have:=Ranked.low k.2.2
  have hw:=k.2.1
  simp only [waits,Bool.or_eq_true,decide_eq_true_eq,Bool.and_eq_true,beq_iff_eq] at hw
  exact ⟨by omega,k.1⟩
theorem Ranked.under {r:Int}:∀ {hs:List Hf}{h:Hf},Ranked r (h :: hs)→∀ g∈hs,g.2.2≤h.2.2∧(right h.2.2=false→g.2.2 < h.2.2)
 | [],_,_,g,hg=>by cases hg
 | f :: hs,h,k,g,hg=>by
  have hw:=k.2.1
  simp only [waits,Bool.or_eq_true,decide_eq_true_eq,Bool.and_eq_true,beq_iff_eq] at hw
  have h1:f.2.2≤h.2.2∧(right h.2.2=false→f.2.2 < h.2.2):=⟨by omega,fun e=>by rcases hw with a | ⟨_,b⟩;exact a;rw [e] at b;cases b⟩
  rcases List.mem_cons.1 hg with rfl | hg
  ·exact h1
  ·have h2:=Ranked.under k.2.2 g hg
   exact ⟨by omega,fun e=>by have:=h1.2 e;omega⟩
theorem once_right {q:Int} (h:once q=true):right q=false:=by
 simp only [once,Bool.or_eq_true,beq_iff_eq] at h
 rcases h with rfl | rfl <;> rfl
def Dead (k:Nat) (hs:List Hf) (l:List Tok):Prop:=opAt l=0∨(9 - opAt l < (k:Int)∧∀ h∈hs,h.2.2 < opAt l)
theorem waits_dead {h:Hf} (hr:1≤h.2.2):waits h 0=false:=by
 simp only [waits,Bool.or_eq_false_iff,decide_eq_false_iff_not,Bool.and_eq_false_iff]
 exact ⟨by omega,.inr rfl⟩
theorem fin_dead {P:Ps}{r:Int} (hr:1≤r):∀ (hs:List Hf) (k:Nat) (side:Tn) (l:List Tok),Ranked r hs→Dead k hs l→∃ s',foldH r hs side 0=(([],s'),true)∧finK P r hs k side l = .ok (s',l)
 | [],k,side,l,_,hd=>by
  refine ⟨side,by rw [foldH,if_pos (by omega)],?_⟩
  rw [fin_miss (fun j h1 h2 e=>?_)]
  ·rfl
  ·have h2:j < (10 - r).toNat:=h2
   rcases hd with h | ⟨h,_⟩ <;> omega
 | h :: hs,k,side,l,hR,hd=>by
  have hq:=hR.low
  have hm:∀ j,k≤j→j < tOf r (h :: hs)→¬ opAt l=9 - (j:Int):=fun j h1 h2 e=>by
   rcases hd with hd | ⟨hd,_⟩
   ·have h2:j < (if right h.2.2 then kOf h+1 else kOf h):=h2
    have hk:(kOf h:Int)=9 - h.2.2:=by show ((9 - h.2.2).toNat:Int)=_;omega
    split at h2 <;> omega
   ·omega
  obtain ⟨s',e1,e2⟩:=fin_dead (P:=P) hr hs (nxOf h) (binT h.2.1 h.1 side) l hR.tail (by
   rcases hd with hd | ⟨hd,ha⟩
   ·exact .inl hd
   ·refine .inr ⟨?_,fun g hg=>ha g (by simp [hg])⟩
    have:=ha h (by simp)
    have hk:(kOf h:Int)=9 - h.2.2:=by show ((9 - h.2.2).toNat:Int)=_;omega
    unfold nxOf
    split <;> omega)
  refine ⟨s',?_,?_⟩
  ·rw [foldH,if_neg (by rw [waits_dead (by omega)];simp)]
   have:(if (h.2.2 == 0 && once 0)=true then (0:Int) else 0)=0:=by split <;> rfl
   rw [this]
   exact e1
  ·rw [fin_miss hm]
   exact e2
theorem fin_fold {P:Ps} (hP:Shr P) {r:Int} (hr:1≤r) (hr9:r≤9):∀ (hs:List Hf) (k:Nat) (side:Tn) (l:List Tok),Ranked r hs→(1≤opAt l→(k:Int)≤9 - opAt l)→
  (∃ s',foldH r hs side (opAt l)=(([],s'),true)∧finK P r hs k side l = .ok (s',l))∨
  (∃ hs' s',foldH r hs side (opAt l)=((hs',s'),false)∧1≤opAt l∧Ranked r ((s',txtAt l,opAt l) :: hs')∧finK P r hs k side l=thn (P 1 l.tail) fun x l1=>finK P r ((s',txtAt l,opAt l) :: hs') 0 x l1)
 | [],k,side,l,_,hk=>by
  have ho:=opAt_range l
  by_cases h:opAt l < r
  ·refine .inl ⟨side,by rw [foldH,if_pos h],?_⟩
   rw [fin_miss (fun j h1 h2 e=>?_)]
   ·rfl
   ·have h2:j < (10 - r).toNat:=h2
    omega
  ·refine .inr ⟨[],side,by rw [foldH,if_neg h],by omega,⟨by show r≤opAt l;omega,ho.2⟩,?_⟩
   exact fin_hit hP (κ:=(9 - opAt l).toNat) (by have:=hk (by omega);omega) (by show _ < (10 - r).toNat;omega) (by omega) (by omega)
 | h :: hs,k,side,l,hR,hk=>by
  have ho:=opAt_range l
  have hq:=hR.low
  have hkq:(kOf h:Int)=9 - h.2.2:=by show ((9 - h.2.2).toNat:Int)=_;omega
  by_cases h0:opAt l=0
  ·obtain ⟨s',e1,e2⟩:=fin_dead (P:=P) hr (h :: hs) k side l hR (.inl h0)
   rw [h0]
   exact .inl ⟨s',e1,e2⟩
  have hk1:=hk (by omega)
  by_cases hw:waits h (opAt l)=true
  ·refine .inr ⟨h :: hs,side,by rw [foldH,if_pos hw],by omega,⟨ho.2,hw,hR⟩,?_⟩
   refine fin_hit hP (κ:=(9 - opAt l).toNat) (by omega) ?_ (by omega) (by omega)
   show _ < (if right h.2.2 then kOf h+1 else kOf h)
   simp only [waits,Bool.or_eq_true,decide_eq_true_eq,Bool.and_eq_true,beq_iff_eq] at hw
   rcases hw with hw | ⟨hw,hw2⟩
   ·split <;> omega
   ·rw [hw,if_pos hw2]
    omega
  ·have hw':¬ h.2.2 < opAt l∧(h.2.2=opAt l→right (opAt l)=false):=by
    simp only [waits,Bool.or_eq_true,decide_eq_true_eq,Bool.and_eq_true,beq_iff_eq,not_or,not_and] at hw
    exact ⟨hw.1,fun e=>by have:=hw.2 e;simpa using this⟩
   have hm:∀ j,k≤j→j < tOf r (h :: hs)→¬ opAt l=9 - (j:Int):=fun j h1 h2 e=>by
    have h2:j < (if right h.2.2 then kOf h+1 else kOf h):=h2
    split at h2
    ·rename_i hr2
     by_cases e2:h.2.2=opAt l
     ·have:=hw'.2 e2
      rw [← e2,hr2] at this
      cases this
     ·omega
    ·omega
   have hfin:finK P r (h :: hs) k side l=finK P r hs (nxOf h) (binT h.2.1 h.1 side) l:=by
    rw [fin_miss hm]
    rfl
   rw [foldH,if_neg hw]
   by_cases ho1:(h.2.2 == opAt l && once (opAt l))=true
   ·rw [if_pos ho1,hfin]
    simp only [Bool.and_eq_true,beq_iff_eq] at ho1
    have hnr:=once_right ho1.2
    obtain ⟨s',e1,e2⟩:=fin_dead (P:=P) hr hs (nxOf h) (binT h.2.1 h.1 side) l hR.tail (.inr ⟨by
     unfold nxOf
     rw [ho1.1,ho1.2,Bool.or_true,if_pos rfl]
     omega,fun g hg=>by rw [← ho1.1];exact (hR.under g hg).2 (by rw [ho1.1];exact hnr)⟩)
    exact .inl ⟨s',e1,e2⟩
   ·rw [if_neg ho1,hfin]
    refine fin_fold hP hr hr9 hs (nxOf h) (binT h.2.1 h.1 side) l hR.tail (fun _=>?_)
    simp only [Bool.and_eq_true,beq_iff_eq,not_and] at ho1
    unfold nxOf
    split
    ·rename_i hro
     simp only [Bool.or_eq_true] at hro
     by_cases e:h.2.2=opAt l
     ·exfalso
      rcases hro with hro | hro
      ·have:=hw'.2 e
       rw [← e,hro] at this
       cases this
      ·rw [e] at hro
       exact ho1 e hro
     ·omega
    ·omega
theorem oper_fin {P:Ps} (hP:Shr P) (hN:P 1 [] = .error []) {r:Int} (hr:1≤r) (hr9:r≤9):∀ (m:Nat) (hs:List Hf) (l:List Tok),l.length≤m→0 < l.length→Ranked r hs→operL P r m hs l=thn (P 1 l) fun x l1=>finK P r hs 0 x l1
 | 0,_,l,hm,h0,_=>by omega
 | m+1,hs,l,hm,h0,hR=>by
  rw [operL]
  refine thn_congr (fun side l1 e=>?_)
  have hl:=hP _ _ _ e
  rcases fin_fold hP hr hr9 hs 0 side l1 hR (fun _=>by have:=(opAt_range l1).2;omega) with ⟨s',e1,e2⟩ | ⟨hs',s',e1,e2,e3,e4⟩
  ·rw [e1,e2]
  ·rw [e1,e4]
   have ht:=opAt_pos (l:=l1) (by omega)
   simp only
   by_cases h1:0 < l1.tail.length
   ·exact oper_fin hP hN hr hr9 m _ _ (by omega) h1 e3
   ·have:l1.tail=[]:=List.eq_nil_of_length_eq_zero (by omega)
    rw [this,hN]
    cases m with
    | zero=>rfl
    | succ m=>rw [operL,hN];rfl
theorem oper_climb {P:Ps} (hP:Shr P) (hN:P 1 [] = .error []) {r:Int} (hr:1≤r) (hr9:r≤9) {l:List Tok} (h0:0 < l.length):operS P r l=climbS P r l:=by
 unfold operS climbS
 rw [oper_fin hP hN hr hr9 _ [] _ (Nat.le_refl _) h0 (show Ranked r [] from trivial),climbs_LP hP (Nat.le_refl _) (by omega),climbs_runs]
 refine thn_congr (fun x l1 _=>?_)
 unfold finK
 show thn (runs P 0 ((10 - r).toNat - 0) x l1) (fun c l2=>.ok (c,l2))=_
 rw [thn_id,Nat.sub_zero]
end Go.Proofs.Tryz
