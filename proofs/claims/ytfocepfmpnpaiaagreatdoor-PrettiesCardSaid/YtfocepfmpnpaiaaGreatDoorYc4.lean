import Derived.Test.YtfocepfmpnpaiaaGreatDoorStep1
import Derived.Test.YtfocepfmpnpaiaaGreatDoorDigs
import Derived.Test.YtfocepfmpnpaiaaGreatDoorYa5
import Derived.Deep.LoopGhost
import Derived.Handy
import Derived.Deep.AppendLies
import Derived.Laws.IdiomStrings
import Derived.Lib.AppendIntMem
import Derived.OwnWalk
import Derived.WalkMore
set_option linter.all false
namespace Go.Proofs.Tryz
set_option maxHeartbeats 16000000
open Go.RowKit
def typF (kind:Nat):Nat:=[93,95,96,102,105,108,109,110,111,112,115,117,148,170,178,128,172,175,122,125,138].getD kind 0
def digN (s:ByteArray):Int:=s.data.toList.foldl (fun a c=>a * 10+((c.toNat:Int) - 48)) 0
def valV (v:Nat×Int×ByteArray):Value:=match v.1 with
 | 0=>.iface 196 (.agg #[])
 | 1=>.iface 197 (.bool false)
 | 2=>.iface 197 (.bool true)
 | 3=>.iface 199 (.int .i64 (digN v.2.2))
 | _=>.iface 201 (.string v.2.2)
abbrev Cd:=Except Value Nat
def cellsF (kind:Nat) (y:Pyl):List (Option Cd):=match kind with
 | 2=>[some (.error (valV y.val))]
 | 3=>[some (.error (.string y.name)),some (.error (.int .i64 y.num))]
 | 4=>[some (.error (.string y.name)),some (.error (.int .i64 y.num))]
 | 5=>[some (.ok 0),some (.error (.string y.name))]
 | 6=>[some (.ok 0),some (.ok 1)]
 | 7=>[some (.ok 0)]
 | 8=>[some (.ok 0)]
 | 9=>if y.cnt=0 then [some (.error .nilIface)] else [some (.ok 0)]
 | 10=>[none]
 | 11=>[some (.error (.string y.name)),none,some (.error (.int .i64 y.num))]
 | 12=>[some (.ok 0),some (.error (.string y.name)),some (.ok 1)]
 | 13=>[some (.ok 0)]
 | 14=>if y.cnt=1 then [some (.ok 0),some (.error .nilIface)] else [some (.ok 0),some (.ok 1)]
 | 15=>[some (.ok 0),some (.ok 1),some (.ok 2)]
 | 16=>[some (.ok 0),some (.error (.string y.name)),some (.ok 1)]
 | 17=>[some (.error (.string y.name)),some (.ok 0)]
 | 18=>[some (.ok 0),some (.error (.string y.name)),some (.ok 1),some (.ok 2)]
 | 19=>[some (.ok 0),some (.error (.string y.name)),some (.ok 1),some (.ok 2),some (.ok 3)]
 | 20=>[some (.error (.string y.name)),none,some (.ok 0),some (.ok 1)]
 | _=>[]
def memD (i:Nat) (x:ByteArray):List Cd:=if x.data.toList=[40] then [.error (.string ⟨#[]⟩),.ok (2 * i),.error (.bool true),.ok (2 * i+1)]
 else if x.data.toList=[34] then [.error (.string ⟨#[]⟩),.ok (2 * i),.error (.bool false),.ok (2 * i+1)]
 else [.error (.string x),.ok (2 * i),.error (.bool false),.ok (2 * i+1)]
def memsD:Nat→List ByteArray→List Cd
 | _,[]=>[]
 | i,x :: l=>memD i x ++ memsD (i+1) l
def rowF (kind:Nat) (y:Pyl):Option (Nat×Nat×Nat×Nat×List Cd):=match kind with
 | 10=>some (0,169,4,y.names.length,memsD 0 y.names)
 | 11=>some (1,31,1,y.cnt,(List.range y.cnt).map .ok)
 | 20=>some (1,9,1,y.names.length,y.names.map fun n=>.error (.string n))
 | _=>none
def payN:Tn→Pyl
 | .done y=>y
 | .ask _ _ _=>Pyl.none
theorem owns_sameT {w w':World}{N e s n:Nat}{v:Value}{xs:List Value} (h:w.ownsRow N e s v n xs) (hs:∀ g,v.ownBlock=some g→w'.heap[g]? = w.heap[g]?):w'.ownsRow N e s v n xs:=by
 obtain ⟨hl,h | ⟨g,c,cur,rfl,a,b,d⟩⟩:=h
 ·exact ⟨hl,.inl h⟩
 ·exact ⟨hl,.inr ⟨g,c,cur,rfl,a,(hs g rfl).trans b,d⟩⟩
def Rf (p:Nat→Prop) (w:World):Tn→Value→Prop
 | .done _=>fun _=>False
 | .ask _ kind k=>fun v=>∃ b,v = .iface (typF kind) (.pointer (some ⟨b,0,none⟩))∧p b∧b < w.heap.size∧
   (∀ (j:Nat) (d:Cd),(cellsF kind (payN (k 0)))[j]? = some (some d)→∃ x,w.cell? ⟨b,j,none⟩=some x∧match d with
    | .error u=>x=u
    | .ok i=>Rf p w (k (i+1)) x)∧
   (∀ (c T s n:Nat) (ds:List Cd),rowF kind (payN (k 0))=some (c,T,s,n,ds)→∃ (r:Value) (vs:List Value),w.cell? ⟨b,c,none⟩=some r∧w.ownsRow 0 T s r n vs∧(∀ g,r.ownBlock=some g→p g)∧vs.length=ds.length∧∀ (j:Nat) (d:Cd),ds[j]? = some d→∃ x,vs[j]? = some x∧match d with
    | .error u=>x=u
    | .ok i=>Rf p w (k (i+1)) x)
theorem Rf.keep {p q:Nat→Prop}{w w':World} (hq:∀ b,p b→b < w.heap.size→q b) (hs:w.heap.size≤w'.heap.size) (h:∀ b,p b→b < w.heap.size→w'.heap[b]? = w.heap[b]?):∀ {t:Tn}{v:Value},Rf p w t v→Rf q w' t v
 | .done _,_,hr=>hr
 | .ask _ kind k,v,hr=>by
  obtain ⟨b,e,hb,hl,hc,hw⟩:=hr
  have conv:∀ (d:Cd) (x:Value),(match d with
    | .error u=>x=u
    | .ok i=>Rf p w (k (i+1)) x)→match d with
    | .error u=>x=u
    | .ok i=>Rf q w' (k (i+1)) x:=fun d x hd=>by
   cases d with
   | error u=>exact hd
   | ok i=>exact Rf.keep hq hs h hd
  refine ⟨b,e,hq b hb hl,Nat.lt_of_lt_of_le hl hs,fun j d hd=>?_,fun c T s n ds hd=>?_⟩
  ·obtain ⟨x,hx,hk⟩:=hc j d hd
   exact ⟨x,(World.cell?_of_block (w:=w) (h b hb hl)).trans hx,conv d x hk⟩
  ·obtain ⟨r,vs,hx,ow,hg,hl',hk⟩:=hw c T s n ds hd
   refine ⟨r,vs,(World.cell?_of_block (w:=w) (h b hb hl)).trans hx,owns_sameT ow (fun g e=>h g (hg g e) (ow.lt g e).2),fun g e=>hq g (hg g e) (ow.lt g e).2,hl',fun j d hj=>?_⟩
   obtain ⟨x,hx,hk⟩:=hk j d hj
   exact ⟨x,hx,conv d x hk⟩
end Go.Proofs.Tryz
namespace Go.Proofs.Tryz
set_option maxHeartbeats 16000000
open Go.RowKit
set_option maxRecDepth 10000
structure Gt (t:Tok):Prop where
 num:t.kind=5→∃ n,digitsVal t.text.data.toList=some n
 name:t.kind=2→t.text.data.toList≠[40]∧t.text.data.toList≠[34]
def Wf:List Tok→Prop
 | []=>False
 | [t]=>t.kind=0∨t.kind=1
 | t :: u :: l=>Gt t∧Wf (u :: l)
theorem Wf.ne {l:List Tok} (h:Wf l):l≠[]:=by cases l with
 | nil=>exact h.elim
 | cons t l=>simp
def Free (w:World) (tb:Nat):Prop:=∀ o,w.frozen? ⟨tb,o,none⟩=false
structure RdP (w:World) (rb tb:Nat) (l:List Tok):Prop where
 rd:Rd w rb tb l
 free:Free w tb
 wf:Wf l
theorem RdP.left {a b:World}{rb tb:Nat}{l l':List Tok} (h:RdP a rb tb l) (k:Left a b rb tb l') (hw:Wf l'):RdP b rb tb l':=by
 obtain ⟨o,c,hr⟩:=h.rd
 exact ⟨k.rd,fun o=>(World.frozen?_of_block (w:=a) (k.kept.block tb hr.tbs hr.ne)).trans (h.free o),hw⟩
theorem RdP.below {w w':World}{rb tb:Nat}{l:List Tok} (h:RdP w rb tb l) (k:Below w.heap.size w w'):RdP w' rb tb l :=
 ⟨h.rd.below k,fun o=>(World.frozen?_of_block (w:=w) (k.block tb h.rd.tbs)).trans (h.free o),h.wf⟩
theorem RdP.alloc {w:World}{rb tb:Nat}{l:List Tok} (h:RdP w rb tb l) (x:Obj):RdP (w.alloc x) rb tb l:=h.below (below_alloc w x)
def noTok (t:Tok):Tok:=⟨1,t.text,t.pos⟩
def stuck:List Tok→List Tok
 | []=>[]
 | t :: l=>noTok t :: l
theorem stuck_wf {l:List Tok} (h:Wf l):Wf (stuck l):=by
 match l,h with
 | [t],_=>exact .inr rfl
 | t :: u :: l,h=>exact ⟨⟨fun e=>absurd (show (1:Int)=5 from e) (by decide),fun e=>absurd (show (1:Int)=2 from e) (by decide)⟩,h.2⟩
structure KeptB (r t:Nat) (w w':World):Prop where
 os:w'.os=w.os
 tape:w'.tape=w.tape
 output:w'.output=w.output
 size:w.heap.size≤w'.heap.size
 block:∀ k,k < w.heap.size→k≠r→k≠t→w'.heap[k]? = w.heap[k]?
theorem KeptB.refl (r t:Nat) (w:World):KeptB r t w w:=⟨rfl,rfl,rfl,Nat.le_refl _,fun _ _ _ _=>rfl⟩
theorem KeptB.of_kept {r t:Nat}{w w':World} (h:Kept r w w'):KeptB r t w w':=⟨h.os,h.tape,h.output,h.size,fun k hk hr _=>h.block k hk hr⟩
theorem KeptB.trans {r t:Nat}{a b c:World} (h:KeptB r t a b) (k:KeptB r t b c):KeptB r t a c :=
 ⟨k.os.trans h.os,k.tape.trans h.tape,k.output.trans h.output,Nat.le_trans h.size k.size,fun i hi hr ht=>(k.block i (Nat.lt_of_lt_of_le hi h.size) hr ht).trans (h.block i hi hr ht)⟩
structure BadP (a w:World) (rb tb:Nat) (l:List Tok):Prop where
 kept:KeptB rb tb a w
 rd:RdP w rb tb (stuck l)
theorem BadP.left {a b c:World}{rb tb:Nat}{l l1:List Tok} (h:Left a b rb tb l1) (k:BadP b c rb tb l):BadP a c rb tb l:=⟨(KeptB.of_kept h.kept).trans k.kept,k.rd⟩
theorem stuck_stuck (l:List Tok):stuck (stuck l)=stuck l:=by cases l <;> rfl
theorem toks_set {w:World}{tb o:Nat}{v:Value}:∀ {q:Nat}{l:List Tok},o < q→Toks w tb q l→Toks (w.setCell ⟨tb,o,none⟩ v) tb q l
 | _,[],_,_=>trivial
 | q,t :: l,hq,⟨a,b,c,d⟩=>by
  have e:∀ i,o < i→(w.setCell ⟨tb,o,none⟩ v).cell? ⟨tb,i,none⟩=w.cell? ⟨tb,i,none⟩:=fun i hi=>World.cell?_setCell_other _ _ _ _ (by intro h;cases h;omega)
  exact ⟨(e _ hq).trans a,(e _ (by omega)).trans b,(e _ (by omega)).trans c,toks_set (by omega) d⟩
theorem fail_ok {w:World}{rb tb:Nat}{l:List Tok} (h:RdP w rb tb l) :
  Calls Tryz.prog 87 #[.pointer (some ⟨rb,0,none⟩)] w fun e w'=>e = .returned (.tuple #[])∧BadP w w' rb tb l:=by
 have hl:=h.wf.ne
 match l,hl with
 | t :: l,_ =>
  obtain ⟨⟨o,c,⟨hr,hcap,hmax,hf,hne,htb,⟨h0,h1,h2,hrest⟩⟩⟩,hfr,hwf⟩:=h
  have hrb:=cell_lt hr
  have hfo:=hfr o
  simp only [List.length_cons] at hr hcap
  have HR:Aside (Toks w tb (o+3) l):=hrest
  have HF:Aside (Free w tb):=hfr
  have HW:Aside (Wf (t :: l)):=hwf
  clear hrest hfr hwf
  go_enter Tryz.func87,Tryz.ntmps87
  go_wp2
  go_end0
  have e:∀ i,o < i→(w.setCell ⟨tb,o,none⟩ (.int .u8 1)).cell? ⟨tb,i,none⟩=w.cell? ⟨tb,i,none⟩:=fun i hi=>World.cell?_setCell_other _ _ _ _ (by intro h;cases h;omega)
  have hb:∀ k,k≠tb→(w.setCell ⟨tb,o,none⟩ (.int .u8 1)).heap[k]? = w.heap[k]?:=fun k hk=>Below.heap_setCell _ _ _ _ (by simpa using hk)
  refine ⟨rfl,⟨rfl,rfl,rfl,by simp,fun k _ _ hk=>hb k hk⟩,⟨o,c,?_,by simpa [stuck] using hcap,hmax,by rw [World.frozen?_setCell];exact hf,hne,by simpa using htb,?_⟩,fun i=>by rw [World.frozen?_setCell];exact HF.out i,stuck_wf HW.out⟩
  ·rw [World.cell?_of_block (w:=w) (hb rb (fun e=>hne e.symm)),hr]
   simp [stuck]
  ·exact ⟨World.cell?_setCell_same _ _ _ h0,(e _ (by omega)).trans h1,(e _ (by omega)).trans h2,toks_set (by omega) HR.out⟩
theorem acc_wf {s:ByteArray}{l:List Tok} (h:Wf l):Wf (acc s l).2:=by
 unfold acc
 split
 ·split
  ·exact h.2
  ·exact h
 ·exact h
theorem acceptP {w:World}{rb tb:Nat}{l:List Tok}{s:ByteArray} (h:RdP w rb tb l) :
  Calls Tryz.prog 37 #[.pointer (some ⟨rb,0,none⟩),.string s] w fun e w'=>e = .returned (.bool (acc s l).1)∧Left w w' rb tb (acc s l).2:=by
 have hw:=h.wf
 match l,h,hw with
 | [t],h,hw =>
  refine (accept_no h.rd ?_)
  unfold isTok
  rcases hw with e | e <;> rw [e] <;> rfl
 | t :: u :: l,h,_ =>
  by_cases e:isTok t s=true
  ·rw [show acc s (t :: u :: l)=(true,u :: l) by simp [acc,e]]
   exact accept_yes h.rd e
  ·rw [show acc s (t :: u :: l)=(false,t :: u :: l) by simp [acc,e]]
   exact accept_no h.rd (by simpa using e)
theorem expectP {w:World}{rb tb:Nat}{l:List Tok}{s:ByteArray} (h:RdP w rb tb l) :
  Calls Tryz.prog 68 #[.pointer (some ⟨rb,0,none⟩),.string s] w fun e w'=>e = .returned (.tuple #[])∧match exq s l with
   | .ok (_,l')=>Left w w' rb tb l'
   | .error r=>BadP w w' rb tb r:=by
 have ha:=acceptP (s:=s) h
 have hwf:=acc_wf (s:=s) h.wf
 unfold exq
 cases e:acc s l with
 | mk b l' =>
  rw [e] at ha hwf
  cases b with
  | true =>
   go_enter Tryz.func68,Tryz.ntmps68
   go_wp2_with (go_at_call 37;refine ha.mono ?_;rintro e w1 ⟨rfl,hl⟩)
   go_end0
   exact ⟨rfl,hl⟩
  | false =>
   have el:l'=l:=by
    unfold acc at e
    split at e
    ·split at e
     ·cases e
     ·cases e;rfl
    ·cases e;rfl
   subst el
   go_enter Tryz.func68,Tryz.ntmps68
   go_wp2_with (go_at_call 37;refine ha.mono ?_;rintro e w1 ⟨rfl,hl⟩)
   refine Calls.mono (fail_ok (h.left hl hwf)) ?_
   rintro e w2 ⟨rfl,hb⟩
   go_wp2_with fail
   go_end0
   exact ⟨rfl,hb.left hl⟩
end Go.Proofs.Tryz
namespace Go.Proofs.Tryz
set_option maxHeartbeats 16000000
open Go.RowKit
set_option maxRecDepth 10000
theorem RdP.same {w w':World}{rb tb:Nat}{l:List Tok} (h:RdP w rb tb l) (hr:w'.heap[rb]? = w.heap[rb]?) (ht:w'.heap[tb]? = w.heap[tb]?) (hs:w.heap.size≤w'.heap.size):RdP w' rb tb l:=by
 obtain ⟨⟨o,c,⟨a1,a2,a3,a4,a5,a6,a7⟩⟩,hf,hw⟩:=h
 exact ⟨⟨o,c,(World.cell?_of_block (w:=w) hr).trans a1,a2,a3,(World.frozen?_of_block (w:=w) hr).trans a4,a5,Nat.lt_of_lt_of_le a6 hs,Toks.same ht a7⟩,fun o=>(World.frozen?_of_block (w:=w) ht).trans (hf o),hw⟩
theorem KeptB.setNew {r t b o:Nat}{a w:World} (h:KeptB r t a w) {u:Value} (hb:a.heap.size≤b):KeptB r t a (w.setCell ⟨b,o,none⟩ u):=by
 refine ⟨h.os,h.tape,h.output,by simpa using h.size,fun k hk hr ht=>?_⟩
 rw [Below.heap_setCell _ _ _ _ (by simp;omega)]
 exact h.block k hk hr ht
theorem RdP.setCell {w:World}{rb tb b o:Nat}{l:List Tok} (h:RdP w rb tb l) {u:Value} (hr:b≠rb) (ht:b≠tb):RdP (w.setCell ⟨b,o,none⟩ u) rb tb l :=
 h.same (Below.heap_setCell _ _ _ _ (by simpa using fun e=>hr e.symm)) (Below.heap_setCell _ _ _ _ (by simpa using fun e=>ht e.symm)) (by simp)
theorem KeptB.of_alloc {r t:Nat}{a w:World}{x:Obj} (h:KeptB r t (a.alloc x) w):KeptB r t a w:=by
 have b:=below_alloc a x
 have hs:=h.size
 simp only [World.size_alloc] at hs
 exact ⟨h.os.trans b.os,h.tape.trans b.tape,h.output.trans b.output,by omega,fun k hk hr ht=>(h.block k (by simp;omega) hr ht).trans (b.block k hk)⟩
theorem expectKindP {w:World}{rb tb:Nat}{l:List Tok}{k:Int} (h:RdP w rb tb l) (hk:k≠0) (hk1:k≠1) :
  Calls Tryz.prog 67 #[.pointer (some ⟨rb,0,none⟩),.int .u8 k] w fun e w'=>match exk k l with
   | .ok (t,l')=>e = .returned (.agg #[.int .u8 k,.string t.text,.int .i64 t.pos])∧Left w w' rb tb l'
   | .error r=>e = .returned (.agg #[.int .u8 0,.string ⟨#[]⟩,.int .i64 0])∧BadP w w' rb tb r:=by
 have bad:∀ t m,l=t :: m→t.kind≠k→Calls Tryz.prog 67 #[.pointer (some ⟨rb,0,none⟩),.int .u8 k] w fun e w'=>e = .returned (.agg #[.int .u8 0,.string ⟨#[]⟩,.int .i64 0])∧BadP w w' rb tb l:=fun t m e hne=>by
  subst e
  have h':=h.alloc (.cells #[.int .u8 0,.string ⟨#[]⟩,.int .i64 0] 62)
  obtain ⟨o,c,⟨hr,hcap,hmax,hfz,hne2,htb,⟨h0,h1,h2,hrest⟩⟩⟩:=h.rd
  have hrb:=cell_lt hr
  simp only [List.length_cons] at hr hcap
  have b1:(t.kind == k)=false:=by simpa using hne
  clear hrest
  go_enter Tryz.func67,Tryz.ntmps67
  go_wp2_with fail
  refine Calls.mono (fail_ok h') ?_
  rintro e w1 ⟨rfl,hb⟩
  have hbs:=hb.kept.size
  simp only [World.size_alloc] at hbs
  have hz:w1.heap[w.heap.size]? = some (.cells #[.int .u8 0,.string ⟨#[]⟩,.int .i64 0] 62 (0,0)):=(hb.kept.block w.heap.size (by simp) (by omega) (by omega)).trans (heap_new w _)
  have z0:w1.cell? ⟨w.heap.size,0,none⟩=some (.int .u8 0):=by simp [World.cell?,hz]
  have z1:w1.cell? ⟨w.heap.size,1,none⟩=some (.string ⟨#[]⟩):=by simp [World.cell?,hz]
  have z2:w1.cell? ⟨w.heap.size,2,none⟩=some (.int .i64 0):=by simp [World.cell?,hz]
  have zf:∀ i,w1.frozen? ⟨w.heap.size,i,none⟩=false:=fun i=>by simp [World.frozen?,hz]
  have zf0:=zf 0
  have zf1:=zf 1
  have zf2:=zf 2
  clear zf hz
  go_wp2_with fail
  refine bodyPost_ret (v:=.agg #[.int .u8 0,.string ⟨#[]⟩,.int .i64 0]) (by simp [results,Tryz.results67,go_sem,z0,z1,z2]) rfl ?_
  have n1:w.heap.size≠rb:=by omega
  have n2:w.heap.size≠tb:=by omega
  exact ⟨rfl,((hb.kept.of_alloc.setNew (Nat.le_refl _)).setNew (Nat.le_refl _)).setNew (Nat.le_refl _),((hb.rd.setCell n1 n2).setCell n1 n2).setCell n1 n2⟩
 match l,h with
 | [t],h =>
  have hw:t.kind=0∨t.kind=1:=h.wf
  exact bad t [] rfl (by omega)
 | t :: u :: l,h =>
  by_cases e:t.kind=k
  ·rw [show exk k (t :: u :: l) = .ok (t,u :: l) by simp [exk,e]]
   subst e
   exact expectKind_ok h.rd
  ·rw [show exk k (t :: u :: l) = .error (t :: u :: l) by simp [exk,e]]
   exact bad t (u :: l) rfl e
 | [],h=>exact absurd rfl h.wf.ne
theorem stuck_one {L:List Tok} (h:kindOf L=1):stuck L=L:=by
 cases L with
 | nil=>rfl
 | cons t l =>
  show noTok t :: l=t :: l
  have:t.kind=1:=h
  obtain ⟨k,x,p⟩:=t
  simp only at this
  subst this
  rfl
theorem acc_one {L:List Tok} (h:kindOf L=1) (s:ByteArray):acc s L=(false,L):=by
 match L,h with
 | t :: u :: l,h =>
  have h:t.kind=1:=h
  simp [acc,isTok,h]
 | [t],_=>rfl
end Go.Proofs.Tryz
namespace Go.Proofs.Tryz
set_option maxHeartbeats 16000000
open Go.RowKit
set_option maxRecDepth 10000
def Fn {α:Type} (x:Out α) (L':List Tok) (g:α→Prop):Prop:=match x with
 | .ok (t,l')=>L'=l'∧g t
 | .error r=>L'=stuck r∧kindOf L'=1
abbrev Rs {α:Type} (x:Out α) (L':List Tok):Prop:=Fn x L' fun _=>True
theorem Fn.thn {α β:Type}{x:Out α}{f:α→List Tok→Out β}{L1 L2:List Tok}{g0:α→Prop}{g:β→Prop} (h:Fn x L1 g0) (hf:∀ a,x = .ok (a,L1)→g0 a→Fn (f a L1) L2 g) (hs:kindOf L1=1→L2=L1):Fn (thn x f) L2 g:=by
 unfold Fn at h
 match x,h with
 | .ok (a,l),⟨h,h0⟩=>subst h;exact hf a rfl h0
 | .error r,⟨h,h1⟩ =>
  have e:=hs h1
  subst e
  exact ⟨h,h1⟩
theorem Fn.ok {α:Type}{t:α}{L:List Tok}{g:α→Prop} (h:g t):Fn (.ok (t,L)) L g:=⟨rfl,h⟩
theorem Fn.bad {α:Type}{L:List Tok}{g:α→Prop}{r:List Tok} (h:L=stuck r) (hk:kindOf L=1):Fn (.error r:Out α) L g:=⟨h,hk⟩
theorem Fn.mono {α:Type}{x:Out α}{L:List Tok}{g g':α→Prop} (h:Fn x L g) (hg:∀ t,x = .ok (t,L)→g t→g' t):Fn x L g':=by
 unfold Fn at h
 match x,h with
 | .ok (a,l),⟨h,h0⟩=>subst h;exact ⟨rfl,hg a rfl h0⟩
 | .error r,h=>exact h
theorem exq_one {s:ByteArray}{L:List Tok} (h:kindOf L=1):exq s L = .error L:=by
 unfold exq
 rw [acc_one h]
theorem exk_one {k:Int}{L:List Tok} (h:kindOf L=1) (hk:k≠1):exk k L = .error L:=by
 match L,h with
 | t :: u :: l,h =>
  have h:t.kind=1:=h
  simp [exk,h,Ne.symm hk]
 | [t],_=>rfl
theorem wf_stuck_kind {L:List Tok} (h:Wf L):kindOf (stuck L)=1:=by
 match L,h with
 | [t],_=>rfl
 | t :: u :: l,_=>rfl
theorem stuck_len (L:List Tok):(stuck L).length=L.length:=by cases L <;> rfl
theorem acc_le {s:ByteArray}{L:List Tok}:(acc s L).2.length≤L.length:=by
 unfold acc
 split
 ·split
  ·simp
  ·exact Nat.le_refl _
 ·exact Nat.le_refl _
def Sx (L L':List Tok):Prop:=kindOf L=1→L'=L
theorem Sx.refl (L:List Tok):Sx L L:=fun _=>rfl
theorem Sx.trans {a b c:List Tok} (h:Sx a b) (k:Sx b c):Sx a c:=fun e=>by
 have h1:=h e
 subst h1
 exact k e
theorem acceptQ {w:World}{rb tb:Nat}{L:List Tok}{s:ByteArray} (h:RdP w rb tb L) :
  Calls Tryz.prog 37 #[.pointer (some ⟨rb,0,none⟩),.string s] w fun e w'=>e = .returned (.bool (acc s L).1)∧KeptB rb tb w w'∧RdP w' rb tb (acc s L).2 :=
 (acceptP h).mono fun e w' ⟨a,b⟩=>⟨a,.of_kept b.kept,h.left b (acc_wf h.wf)⟩
theorem exq_wf {s:ByteArray}{L l:List Tok}{u:Unit} (h:Wf L) (e:exq s L = .ok (u,l)):Wf l:=by
 unfold exq at e
 split at e
 ·rename_i l' e1
  have:=acc_wf (s:=s) h
  rw [e1] at this
  cases e
  exact this
 ·cases e
theorem exk_wf {k:Int}{L l:List Tok}{t:Tok} (h:Wf L) (e:exk k L = .ok (t,l)):Wf l:=by
 unfold exk at e
 split at e
 ·split at e
  ·cases e
   exact h.2
  ·cases e
 ·cases e
theorem exq_err {s:ByteArray}{L r:List Tok} (e:exq s L = .error r):r=L:=by
 unfold exq at e
 split at e
 ·cases e
 ·cases e
  rfl
theorem exk_err {k:Int}{L r:List Tok} (e:exk k L = .error r):r=L:=by
 unfold exk at e
 split at e
 ·split at e
  ·cases e
  ·cases e
   rfl
 ·cases e
  rfl
theorem expectQ {w:World}{rb tb:Nat}{L:List Tok}{s:ByteArray} (h:RdP w rb tb L) :
  Calls Tryz.prog 68 #[.pointer (some ⟨rb,0,none⟩),.string s] w fun e w'=>e = .returned (.tuple #[])∧∃ L',KeptB rb tb w w'∧RdP w' rb tb L'∧L'.length≤L.length∧Rs (exq s L) L'∧Sx L L':=by
 refine (expectP (s:=s) h).mono fun e w' ⟨a,b⟩=>⟨a,?_⟩
 cases ex:exq s L with
 | ok q =>
  obtain ⟨u,l'⟩:=q
  rw [ex] at b
  have b:Left w w' rb tb l':=b
  exact ⟨l',.of_kept b.kept,h.left b (exq_wf h.wf ex),Nat.le_of_lt (exq_ok ex),⟨rfl,trivial⟩,fun k=>by rw [exq_one k] at ex;cases ex⟩
 | error r =>
  rw [ex] at b
  have b:BadP w w' rb tb r:=b
  have er:=exq_err ex
  subst er
  exact ⟨stuck r,b.kept,b.rd,Nat.le_of_eq (stuck_len _),⟨rfl,wf_stuck_kind h.wf⟩,fun k=>stuck_one k⟩
theorem expectKindQ {w:World}{rb tb:Nat}{L:List Tok}{k:Int} (h:RdP w rb tb L) (hk:k≠0) (hk1:k≠1) :
  Calls Tryz.prog 67 #[.pointer (some ⟨rb,0,none⟩),.int .u8 k] w fun e w'=>∃ k' x p L',e = .returned (.agg #[.int .u8 k',.string x,.int .i64 p])∧KeptB rb tb w w'∧RdP w' rb tb L'∧L'.length≤L.length∧Fn (exk k L) L' (fun t=>x=t.text∧p=t.pos)∧Sx L L':=by
 refine (expectKindP h hk hk1).mono fun e w' b=>?_
 cases ex:exk k L with
 | ok q =>
  obtain ⟨t,l'⟩:=q
  rw [ex] at b
  obtain ⟨a,b⟩:e = .returned (.agg #[.int .u8 k,.string t.text,.int .i64 t.pos])∧Left w w' rb tb l':=b
  exact ⟨_,_,_,l',a,.of_kept b.kept,h.left b (exk_wf h.wf ex),Nat.le_of_lt (exk_ok ex),⟨rfl,rfl,rfl⟩,fun k=>by rw [exk_one k hk1] at ex;cases ex⟩
 | error r =>
  rw [ex] at b
  obtain ⟨a,b⟩:e = .returned (.agg #[.int .u8 0,.string ⟨#[]⟩,.int .i64 0])∧BadP w w' rb tb r:=b
  have er:=exk_err ex
  subst er
  exact ⟨_,_,_,stuck r,a,b.kept,b.rd,Nat.le_of_eq (stuck_len _),⟨rfl,wf_stuck_kind h.wf⟩,fun k=>stuck_one k⟩
theorem failQ {w:World}{rb tb:Nat}{L:List Tok} (h:RdP w rb tb L) :
  Calls Tryz.prog 87 #[.pointer (some ⟨rb,0,none⟩)] w fun e w'=>e = .returned (.tuple #[])∧KeptB rb tb w w'∧RdP w' rb tb (stuck L)∧kindOf (stuck L)=1 :=
 (fail_ok h).mono fun e w' ⟨a,b⟩=>⟨a,b.kept,b.rd,wf_stuck_kind h.wf⟩
theorem cells_one {v:Value} (h:v.oneCell'=true):v.cells = #[v]:=by
 cases v <;> first
  | rfl
  | cases h
theorem store_one {v:Value} (h:v.oneCell'=true) (w:World) (b o:Nat) (hc:(w.cell? ⟨b,o,none⟩).isSome=true) (hf:w.frozen? ⟨b,o,none⟩=false):(storeCells ⟨b,o,none⟩ [v]).run Tryz.prog w = .ok () (w.setCell ⟨b,o,none⟩ v):=by
 have:=run_storeCells_cells (P:=Tryz.prog) b o [v] 0 w (fun j hj=>by
  have:j=0:=by simp at hj;omega
  subst this;exact hc) (fun j hj=>by
  have:j=0:=by simp at hj;omega
  subst this;exact hf) (by simpa using h)
 exact this
def Gv (rb tb:Nat) (w:World) (L:List Tok) (x:Out Tn) (e:Ending) (w':World):Prop :=
 ∃ v L',e = .returned v∧v.oneCell'=true∧KeptB rb tb w w'∧RdP w' rb tb L'∧L'.length≤L.length∧Sx L L'∧Fn x L' fun t=>Rf (w.heap.size≤·) w' t v
structure SndP (P:Ps) (B:Nat):Prop where
 filter:∀ {w:World}{rb tb:Nat}{L:List Tok},RdP w rb tb L→8 * L.length+5≤B→Calls Tryz.prog 21 #[.pointer (some ⟨rb,0,none⟩)] w (Gv rb tb w L (P 0 L))
 oper:∀ {w:World}{rb tb:Nat}{L:List Tok} (r:Nat),1≤r→r≤9→RdP w rb tb L→8 * L.length+4≤B→Calls Tryz.prog 39 #[.pointer (some ⟨rb,0,none⟩),.int .u8 r] w (Gv rb tb w L (P (10+r) L))
 minus:∀ {w:World}{rb tb:Nat}{L:List Tok},RdP w rb tb L→8 * L.length+3≤B→Calls Tryz.prog 69 #[.pointer (some ⟨rb,0,none⟩)] w (Gv rb tb w L (P 1 L))
 post:∀ {w:World}{rb tb:Nat}{L:List Tok},RdP w rb tb L→8 * L.length+2≤B→Calls Tryz.prog 112 #[.pointer (some ⟨rb,0,none⟩)] w (Gv rb tb w L (P 3 L))
 prim:∀ {w:World}{rb tb:Nat}{L:List Tok},RdP w rb tb L→8 * L.length+1≤B→Calls Tryz.prog 129 #[.pointer (some ⟨rb,0,none⟩)] w (Gv rb tb w L (P 4 L))
 stk:∀ c L,kindOf L=1→P c L = .error L
 less:Less P
 small:B≤1000000
structure Nq (a w:World) (rb tb:Nat) (X:List Nat) (L:List Tok) (its:List (Out Tn×Value)):Prop where
 kept:KeptB rb tb a w
 rd:RdP w rb tb L
 rbs:rb < a.heap.size
 tbs:tb < a.heap.size
 mine:∀ b∈X,a.heap.size≤b∧b < w.heap.size
 its:∀ q∈its,∀ t l',q.1 = .ok (t,l')→Rf (fun b=>a.heap.size≤b∧b ∉ X) w t q.2
variable {a w w' : World} {rb tb : Nat} {X : List Nat} {L L' : List Tok} {its : List (Out Tn × Value)}
theorem RdP.rbs (h:RdP a rb tb L):rb < a.heap.size:=h.rd.rbs
theorem RdP.tbs (h:RdP a rb tb L):tb < a.heap.size:=h.rd.tbs
theorem Nq.start (h:RdP a rb tb L):Nq a a rb tb [] L []:=⟨.refl ..,h,h.rbs,h.tbs,fun b hb=>by simp at hb,fun q hq=>by simp at hq⟩
theorem Nq.below (h:Nq a w rb tb X L its) (k:Below w.heap.size w w'):Nq a w' rb tb X L its :=
 ⟨h.kept.trans ⟨k.os,k.tape,k.output,k.size,fun i hi _ _=>k.block i hi⟩,h.rd.below k,h.rbs,h.tbs,fun b hb=>⟨(h.mine b hb).1,Nat.lt_of_lt_of_le (h.mine b hb).2 k.size⟩,fun q hq t l' e=>(h.its q hq t l' e).keep (fun _ h _=>h) k.size (fun b _ hb=>k.block b hb)⟩
theorem Nq.alloc (h:Nq a w rb tb X L its) (o:Obj):Nq a (w.alloc o) rb tb X L its:=h.below (below_alloc w o)
theorem Nq.own (h:Nq a w rb tb X L its) (o:Obj):Nq a (w.alloc o) rb tb (w.heap.size :: X) L its:=by
 have hs:=h.kept.size
 have k:=h.alloc o
 refine ⟨k.kept,k.rd,h.rbs,h.tbs,fun b hb=>?_,fun q hq t l' e=>(h.its q hq t l' e).keep (fun b hb hl=>⟨hb.1,?_⟩) (below_alloc w o).size (fun b _ hb=>(below_alloc w o).block b hb)⟩
 ·rcases List.mem_cons.mp hb with rfl | hb
  ·exact ⟨hs,by simp⟩
  ·exact k.mine b hb
 ·intro hm
  rcases List.mem_cons.mp hm with e | hm
  ·omega
  ·exact hb.2 hm
theorem Nq.set (h:Nq a w rb tb X L its) {N o:Nat} (u:Value) (hN:N∈X):Nq a (w.setCell ⟨N,o,none⟩ u) rb tb X L its:=by
 have hn:=h.mine N hN
 have h1:=h.rbs
 have h2:=h.tbs
 have hb:∀ k,k≠N→(w.setCell ⟨N,o,none⟩ u).heap[k]? = w.heap[k]?:=fun k hk=>Below.heap_setCell _ _ _ _ (by simpa using hk)
 exact ⟨h.kept.setNew hn.1,h.rd.setCell (by omega) (by omega),h1,h2,fun b hb=>by have:=h.mine b hb;simpa using this,fun q hq t l' e=>(h.its q hq t l' e).keep (fun _ h _=>h) (by simp) (fun b hp _=>hb b (fun e=>hp.2 (e ▸ hN)))⟩
theorem Nq.call (h:Nq a w rb tb X L its) (k:KeptB rb tb w w') (r:RdP w' rb tb L'):Nq a w' rb tb X L' its:=by
 have h1:=h.rbs
 have h2:=h.tbs
 exact ⟨h.kept.trans k,r,h1,h2,fun b hb=>⟨(h.mine b hb).1,Nat.lt_of_lt_of_le (h.mine b hb).2 k.size⟩,fun q hq t l' e=>(h.its q hq t l' e).keep (fun _ h _=>h) k.size (fun b hp hb=>k.block b hb (by omega) (by omega))⟩
theorem Nq.item (h:Nq a w rb tb X L its) (k:KeptB rb tb w w') (r:RdP w' rb tb L') {x:Out Tn}{v:Value} (f:Fn x L' fun t=>Rf (w.heap.size≤·) w' t v):Nq a w' rb tb X L' ((x,v) :: its):=by
 have h0:=h.call k r
 refine ⟨h0.kept,r,h0.rbs,h0.tbs,h0.mine,fun q hq t l' e=>?_⟩
 rcases List.mem_cons.mp hq with rfl | hq
 ·have e:x = .ok (t,l'):=e
  rw [e] at f
  have hs:=h.kept.size
  exact f.2.keep (fun b hb _=>⟨by omega,fun hm=>by have:=(h.mine b hm).2;omega⟩) (Nat.le_refl _) (fun _ _ _=>rfl)
 ·exact h0.its q hq t l' e
theorem Nq.kid (h:Nq a w rb tb X L its) {x:Out Tn}{v:Value} (hm:(x,v)∈its) {t:Tn}{l':List Tok} (e:x = .ok (t,l')):Rf (a.heap.size≤·) w t v :=
 (h.its _ hm t l' e).keep (fun _ h _=>h.1) (Nat.le_refl _) (fun _ _ _=>rfl)
structure Cl (w:World) (N:Nat) (cs:List Value):Prop where
 cell:∀ i,w.cell? ⟨N,i,none⟩=cs[i]?
 free:∀ i,w.frozen? ⟨N,i,none⟩=false
theorem Cl.same {N:Nat}{cs:List Value} (h:Cl w N cs) (e:w'.heap[N]? = w.heap[N]?):Cl w' N cs :=
 ⟨fun i=>(World.cell?_of_block (w:=w) e).trans (h.cell i),fun i=>(World.frozen?_of_block (w:=w) e).trans (h.free i)⟩
theorem Cl.start (w:World) (cs:List Value) (T:Nat):Cl (w.alloc (.cells cs.toArray T)) w.heap.size cs:=by
 have e:=heap_new w (.cells cs.toArray T)
 exact ⟨fun i=>by unfold World.cell?;simp only [e];simp,fun i=>by unfold World.frozen?;simp only [e];simp⟩
theorem Cl.call {N:Nat}{cs:List Value} (h:Cl w N cs) (n:Nq a w rb tb X L its) (hN:N∈X) (k:KeptB rb tb w w'):Cl w' N cs:=by
 have h1:=n.rbs
 have h2:=n.tbs
 have h3:=n.mine N hN
 exact h.same (k.block N h3.2 (by omega) (by omega))
theorem Cl.store {N:Nat}{cs:List Value} (h:Cl w N cs) (i:Nat) {v:Value} (hv:v.oneCell'=true) (hi:i < cs.length):(storeCells ⟨N,i,none⟩ [v]).run Tryz.prog w = .ok () (w.setCell ⟨N,i,none⟩ v) :=
 store_one hv w N i (by rw [h.cell i];simp [hi]) (h.free i)
theorem Cl.store1 {N:Nat}{cs:List Value} (h:Cl w N cs) (i:Nat) {v:Value} (hv:v.oneCell'=true) (hi:i < cs.length):(Go.store ⟨N,i,none⟩ v).run Tryz.prog w = .ok () (w.setCell ⟨N,i,none⟩ v):=by
 rw [run_store _ _ _ _ _ hv,h.cell i,List.getElem?_eq_getElem hi,h.free i]
 rfl
theorem Cl.set {N:Nat}{cs:List Value} (h:Cl w N cs) (i:Nat) (u:Value) (hi:i < cs.length):Cl (w.setCell ⟨N,i,none⟩ u) N (cs.set i u):=by
 refine ⟨fun j=>?_,fun j=>by rw [World.frozen?_setCell];exact h.free j⟩
 by_cases e:j=i
 ·subst e
  rw [World.cell?_setCell_same _ _ _ (h.cell j |>.trans (List.getElem?_eq_getElem hi))]
  simp [hi]
 ·rw [World.cell?_setCell_other _ _ _ _ (by intro h;cases h;exact e rfl),h.cell]
  rw [List.getElem?_set_ne (Ne.symm e)]
def Cells (p:Nat→Prop) (w:World) (N:Nat) (kids:List Tn):Nat→List (Option Cd)→Prop
 | _,[]=>True
 | j,none :: l=>Cells p w N kids (j+1) l
 | j,some (.error u) :: l=>w.cell? ⟨N,j,none⟩=some u∧Cells p w N kids (j+1) l
 | j,some (.ok i) :: l=>(∃ x,w.cell? ⟨N,j,none⟩=some x∧Rf p w (kids.getD i Tn.no) x)∧Cells p w N kids (j+1) l
theorem Cells.get {p:Nat→Prop}{w:World}{N:Nat}{kids:List Tn}:∀ {l:List (Option Cd)}{i:Nat},Cells p w N kids i l→∀ (j:Nat) (d:Cd),l[j]? = some (some d)→∃ x,w.cell? ⟨N,i+j,none⟩=some x∧match d with
        | .error u=>x=u
        | .ok i=>Rf p w (kids.getD i Tn.no) x
  | [],_,_,j,d,hd=>by simp at hd
  | c :: l,i,h,0,d,hd=>by
    simp only [List.getElem?_cons_zero,Option.some.injEq] at hd
    subst hd
    cases d with
    | error u=>exact ⟨u,h.1,rfl⟩
    | ok k=>exact h.1
  | none :: l,i,h,j+1,d,hd=>by
    have:=Cells.get (l:=l) (i:=i+1) h j d (by simpa using hd)
    rwa [show i+(j+1)=i+1+j by omega]
  | some (.error u) :: l,i,h,j+1,d,hd=>by
    have:=Cells.get (l:=l) (i:=i+1) h.2 j d (by simpa using hd)
    rwa [show i+(j+1)=i+1+j by omega]
  | some (.ok k) :: l,i,h,j+1,d,hd=>by
    have:=Cells.get (l:=l) (i:=i+1) h.2 j d (by simpa using hd)
    rwa [show i+(j+1)=i+1+j by omega]
theorem Rf.mk {p:Nat→Prop}{w:World}{kind:Nat}{y:Pyl}{kids:List Tn}{N:Nat} (hp:p N) (hl:N < w.heap.size) (hr:rowF kind { y with cnt:=kids.length }=none)
  (hc:Cells p w N kids 0 (cellsF kind { y with cnt:=kids.length })):Rf p w (nd kind y kids) (.iface (typF kind) (.pointer (some ⟨N,0,none⟩))) :=
 ⟨N,rfl,hp,hl,fun j d hd=>by
  have:=hc.get j d hd
  rwa [Nat.zero_add] at this,fun c T s n ds hd=>by
  have hd:rowF kind { y with cnt:=kids.length }=some (c,T,s,n,ds):=hd
  rw [hr] at hd
  cases hd⟩
end Go.Proofs.Tryz
