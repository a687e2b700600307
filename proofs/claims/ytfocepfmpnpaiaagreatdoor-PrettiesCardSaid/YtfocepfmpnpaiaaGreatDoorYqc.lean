import Derived.Test.YtfocepfmpnpaiaaGreatDoorYo6
import Derived.Deep.RegionHeld3
set_option linter.all false
namespace Go.Proofs.Tryz
set_option maxHeartbeats 16000000
open Go.RowKit
set_option maxRecDepth 10000
section
variable {a w w' : World} {wb b : Nat} {s : Bs × Bool} {done : List Bs}
theorem PS.lst (P:PS a w wb s done) {f:Nat→Tn}{n d cap:Nat} (hn0:0 < n) (hn:n≤6000) (hf:∀ i,i < n→FilterOk (f i)) (hv:∀ i,i < n→∃ v,w.cell? ⟨d,i,none⟩=some v∧Rf (· < wb) a (f i) v) (hd:NoB w d) (hdw:d≠wb) (hb:s.1.length+lenL (done ++ brk (semiT n fun i=>toksT (f i)))≤1000000000) :
  Calls Tryz.prog 45 #[.pointer (some ⟨wb,0,none⟩),.slice (some ⟨d,0,none⟩) n cap] w (PsP a wb s (done ++ brk (semiT n fun i=>toksT (f i)))) :=
 (list_ok hn0 hn hf (fun i hi=>by obtain ⟨v,h1,h2⟩:=hv i hi;exact ⟨v,h1,P.rf h2⟩) hd hdw P.pl (P.len _ hb)).mono (fun _ _ h=>P.next h)
theorem noB_row {d n T sz:Nat}{r:Value}{xs:List Value} (h:w.ownsRow 0 T sz r n xs) (hd:r.ownBlock=some d) (hT:T≠5):NoB w d:=by
 obtain ⟨c,fz,hc⟩:=wown_kind h d hd
 exact ⟨_,hc,fun c' fz' e=>by cases e;exact hT rfl⟩
theorem NoB.ps (P:PS a w wb s done) {d:Nat} (h:NoB a d) (hd:d≠wb):NoB w d:=by
 obtain ⟨o,h1,h2⟩:=h
 exact ⟨o,(P.kp.at ⟨o,h1,h2⟩ hd).trans h1,h2⟩
theorem fw_Call0 {n:ByteArray}{r:Option Addr}{cap:Nat} (hbw:b < wb) (c0:w.cell? ⟨b,0,none⟩=some (.string n)) (hn:n.size≠0) (c1:w.cell? ⟨b,1,none⟩=some (.slice r 0 cap)) (hp:PlW w wb s) (hB:s.1.length+lenL [n.data.toList]≤1000000000) :
  Calls Tryz.prog 23 #[.pointer (some ⟨wb,0,none⟩),.iface 117 (.pointer (some ⟨b,0,none⟩))] w (PutP wb s [n.data.toList] w):=by
 have a0:=missIdentity;have a1:=missDescent;have a2:=missLiteral;have a3:=missVariable;have a4:=missBreak;have a5:=missField;have a6:=missIndex;have a7:=missEach;have a8:=missOptional;have a9:=missCollect;have a10:=missBuild;have a11:=hitCall
 have P0:=PS.start hp
 go_enter Tryz.func23,Tryz.ntmps23
 go_wp2_with fail
 refine Calls.mono (P0.put1 n hn (by simpa using hB)) ?_
 rintro e w1 ⟨rfl,P1⟩
 have y1:=P1.cell hbw c1
 go_wp2_with fail
 go_end0
 exact P1.finish (by simp)
theorem fw_Call1 {n:ByteArray}{d k cap:Nat}{f:Nat→Tn} (hbw:b < wb) (c0:w.cell? ⟨b,0,none⟩=some (.string n)) (hn:n.size≠0) (c1:w.cell? ⟨b,1,none⟩=some (.slice (some ⟨d,0,none⟩) k cap)) (hk0:0 < k) (hk:k≤6000) (hf:∀ i,i < k→FilterOk (f i)) (hv:∀ i,i < k→∃ v,w.cell? ⟨d,i,none⟩=some v∧Rf (· < wb) w (f i) v) (hd:NoB w d) (hdw:d < wb) (hp:PlW w wb s) (hB:s.1.length+lenL (n.data.toList :: brk (semiT k fun i=>toksT (f i)))≤1000000000) :
  Calls Tryz.prog 23 #[.pointer (some ⟨wb,0,none⟩),.iface 117 (.pointer (some ⟨b,0,none⟩))] w (PutP wb s (n.data.toList :: brk (semiT k fun i=>toksT (f i))) w):=by
 have a0:=missIdentity;have a1:=missDescent;have a2:=missLiteral;have a3:=missVariable;have a4:=missBreak;have a5:=missField;have a6:=missIndex;have a7:=missEach;have a8:=missOptional;have a9:=missCollect;have a10:=missBuild;have a11:=hitCall
 have P0:=PS.start hp
 have HV:Aside (∀ i,i < k→∃ v,w.cell? ⟨d,i,none⟩=some v∧Rf (· < wb) w (f i) v):=hv
 have HF:Aside (∀ i,i < k→FilterOk (f i)):=hf
 have HD:Aside (NoB w d):=hd
 clear hv hf hd
 simp only [lenL_cons] at hB
 have hk0':(0:Int) < (k:Int):=by omega
 go_enter Tryz.func23,Tryz.ntmps23
 go_wp2_with fail
 refine Calls.mono (P0.put1 n hn (by simp only [List.nil_append,lenL_cons,lenL_nil];omega)) ?_
 rintro e w1 ⟨rfl,P1⟩
 have y1:=P1.cell hbw c1
 go_wp2_with fail
 refine Calls.mono (P1.lst hk0 hk HF.out (fun i hi=>by obtain ⟨v,h1,h2⟩:=HV.out i hi;exact ⟨v,P1.cell hdw h1,h2⟩) (HD.out.ps P1 (by omega)) (by omega) (by simp only [List.nil_append,lenL_app,lenL_cons,lenL_nil];omega)) ?_
 rintro e w2 ⟨rfl,P2⟩
 go_wp2_with fail
 go_end0
 exact P2.finish (by simp)
theorem parT_succ (n:Nat) (l:List ByteArray):parT (n+1) l=parT n l ++ [if n=0 then [40] else [59],(l.getD n ⟨#[]⟩).data.toList]:=by
 unfold parT
 rw [List.range_succ,List.flatMap_append]
 simp
theorem parT_le (l:List ByteArray) {i n:Nat} (h:i≤n):lenL (parT i l)≤lenL (parT n l):=by
 induction n with
 | zero=>rw [Nat.le_zero.1 h];exact Nat.le_refl _
 | succ n ih =>
  by_cases e:i=n+1
  ·rw [e];exact Nat.le_refl _
  ·have:=ih (by omega)
   rw [parT_succ,lenL_app]
   omega
theorem params_ok {l:List ByteArray}{r:Option Addr}{n cap:Nat} (hl:l.length=n) (hn:n≤3000) (hg:∀ x∈l,x.size≠0) (hr:0 < n→∃ d,r=some ⟨d,0,none⟩∧d < wb∧∀ i x,l[i]? = some x→w.cell? ⟨d,i,none⟩=some (.string x)) (hp:PlW w wb s) (hB:s.1.length+lenL (parT n l ++ if 0 < n then [[41]] else [])≤1000000000) :
  Calls Tryz.prog 76 #[.pointer (some ⟨wb,0,none⟩),.slice r n cap] w (PutP wb s (parT n l ++ if 0 < n then [[41]] else []) w):=by
 have P0:=PS.start hp
 have HL:Hid (l.length=n):=hl
 have HG:Aside (∀ x∈l,x.size≠0):=hg
 have HR:Aside (0 < n→∃ d,r=some ⟨d,0,none⟩∧d < wb∧∀ i x,l[i]? = some x→w.cell? ⟨d,i,none⟩=some (.string x)):=hr
 clear hl hg hr
 have hP0:PS w w wb s (parT 0 l):=P0
 rw [lenL_app] at hB
 obtain ⟨X,hX⟩:∃ X,(parT n l ++ if 0 < n then [[41]] else [])=X:=⟨_,rfl⟩
 rw [hX]
 have HX:Hid ((parT n l ++ if 0 < n then [[41]] else [])=X):=hX
 clear hX
 have hB:Aside (s.1.length+(lenL (parT n l)+lenL (if 0 < n then [[41]] else []))≤1000000000):=hB
 go_enter Tryz.func76,Tryz.ntmps76
 go_wp2_with fail
 go_loopg [8] (n+1) (fun j t wr=>∃ i:Nat,i+j=n+1∧i≤n∧t = .int .i64 i∧PS w wr wb s (parT i l))
 case atStart=>exact ⟨0,by omega,by omega,rfl,hP0⟩
 case round =>
  obtain ⟨i,hij,hin,rfl,P⟩:=hrel
  have hB:=hB.out
  by_cases hi:i < n
  ·obtain ⟨d,e,hdw,hcx⟩:=HR.out (by omega)
   subst e
   have hil:i < l.length:=by have:=HL.out;omega
   obtain ⟨x,hx⟩:∃ x,l[i]? = some x:=⟨_,List.getElem?_eq_getElem hil⟩
   have hxn:=HG.out x (List.mem_of_getElem? hx)
   have cx:=P.cell hdw (hcx i x hx)
   have hgd:l.getD i ⟨#[]⟩=x:=by simp [hx]
   have hle:=parT_le l (i:=i+1) (n:=n) (by omega)
   have hs:=parT_succ i l
   rw [hgd] at hs
   rw [hs,lenL_app] at hle
   have hs:Aside (parT (i+1) l=parT i l ++ [if i=0 then [40] else [59],x.data.toList]):=hs
   have hi':(i:Int) < (n:Int):=by omega
   have hi0:(0:Int)≤(i:Int):=by omega
   clear hx hgd hcx
   by_cases h0:i=0
   ·subst h0
    rw [if_pos rfl] at hle
    simp only [lenL_cons,lenL_nil,List.length_cons,List.length_nil,bsize] at hle
    go_wp2_with fail
    refine Calls.mono (P.put2 ⟨#[40]⟩ x (by decide) hxn (by simp only [lenL_cons,lenL_nil,lenL_app,bsize];simp;omega)) ?_
    rintro e w2 ⟨rfl,P2⟩
    go_wp2_with fail
    go_roundg (n+1 - (0+1))
    case measure=>omega
    case rel =>
     refine ⟨0+1,by omega,by omega,by go_num,?_⟩
     rw [hs.out]
     simpa using P2
   ·rw [if_neg h0] at hle
    simp only [lenL_cons,lenL_nil,List.length_cons,List.length_nil,bsize] at hle
    have h0':((i:Int) == 0)=false:=by simp [h0]
    go_wp2_with fail
    refine Calls.mono (P.put2 ⟨#[59]⟩ x (by decide) hxn (by simp only [lenL_cons,lenL_nil,lenL_app,bsize];simp;omega)) ?_
    rintro e w2 ⟨rfl,P2⟩
    go_wp2_with fail
    go_roundg (n+1 - (i+1))
    case measure=>omega
    case rel =>
     refine ⟨i+1,by omega,by omega,by go_num,?_⟩
     rw [hs.out,if_neg h0]
     simpa using P2
  ·have hi':¬ (i:Int) < (n:Int):=by omega
   have hin':Hid (i=n):=by show i=n;omega
   by_cases h0:0 < n
   ·have h0':(0:Int) < (n:Int):=by omega
    rw [if_pos h0] at hB
    simp only [lenL_cons,lenL_nil,List.length_cons,List.length_nil] at hB
    go_wp2_with fail
    refine Calls.mono (P.put1 ⟨#[41]⟩ (by decide) (by rw [hin'.out];simp only [lenL_cons,lenL_nil,lenL_app];simp;omega)) ?_
    rintro e w2 ⟨rfl,P2⟩
    go_wp2_with fail
    go_end0
    exact P2.finish (by rw [hin'.out,← HX.out,if_pos h0])
   ·have h0':¬ (0:Int) < (n:Int):=by omega
    go_wp2_with fail
    go_end0
    exact P.finish (by rw [hin'.out,← HX.out,if_neg h0];simp)
theorem op_Def {n:ByteArray}{t0 t1:Tn}{x0 x1:Value}{r:Option Addr}{l:List ByteArray}{cap:Nat} (hbw:b < wb) (c0:w.cell? ⟨b,0,none⟩=some (.string n)) (hn:n.size≠0) (c1:w.cell? ⟨b,1,none⟩=some (.slice r l.length cap)) (c2:w.cell? ⟨b,2,none⟩=some x0) (r0:Rf (· < wb) w t0 x0) (c3:w.cell? ⟨b,3,none⟩=some x1) (r1:Rf (· < wb) w t1 x1) (f0:FilterOk t0) (f1:FilterOk t1)
  (hl:l.length≤3000) (hg:∀ x∈l,x.size≠0) (hr:0 < l.length→∃ d,r=some ⟨d,0,none⟩∧d < wb∧∀ i x,l[i]? = some x→w.cell? ⟨d,i,none⟩=some (.string x)) (hp:PlW w wb s)
  (hB:s.1.length+lenL ([100,101,102] :: n.data.toList :: (parT l.length l ++ ((if 0 < l.length then [[41]] else []) ++ [58] :: (toksT t0 ++ [59] :: toksT t1))))≤1000000000) :
  Calls Tryz.prog 47 #[.pointer (some ⟨wb,0,none⟩),.iface 138 (.pointer (some ⟨b,0,none⟩))] w (PutP wb s ([100,101,102] :: n.data.toList :: (parT l.length l ++ ((if 0 < l.length then [[41]] else []) ++ [58] :: (toksT t0 ++ [59] :: toksT t1)))) w):=by
 have a0:=missBinary;have a1:=missMinus;have a2:=missBind;have a3:=missLabel;have a4:=missTry;have a5:=hitDef
 obtain ⟨T0,d0,e0⟩:∃ T d,x0 = .iface T (.pointer (some ⟨d,0,none⟩)):=by obtain ⟨q,e,_,_⟩:=r0.shape;exact ⟨_,q,e⟩
 subst e0
 obtain ⟨T1,d1,e1⟩:∃ T d,x1 = .iface T (.pointer (some ⟨d,0,none⟩)):=by obtain ⟨q,e,_,_⟩:=r1.shape;exact ⟨_,q,e⟩
 subst e1
 have R0:Aside (Rf (· < wb) w t0 (.iface T0 (.pointer (some ⟨d0,0,none⟩)))):=r0
 have R1:Aside (Rf (· < wb) w t1 (.iface T1 (.pointer (some ⟨d1,0,none⟩)))):=r1
 have F0:Aside (FilterOk t0):=f0
 have F1:Aside (FilterOk t1):=f1
 have HG:Aside (∀ x∈l,x.size≠0):=hg
 have HR:Aside (0 < l.length→∃ d,r=some ⟨d,0,none⟩∧d < wb∧∀ i x,l[i]? = some x→w.cell? ⟨d,i,none⟩=some (.string x)):=hr
 clear r0 r1 f0 f1 hg hr
 obtain ⟨m,hm⟩:∃ m,l.length=m:=⟨_,rfl⟩
 have HM:Hid (l.length=m):=hm
 rw [hm] at c1 hl hB ⊢
 clear hm
 obtain ⟨pl,hpl⟩:∃ pl,parT m l ++ (if 0 < m then [[41]] else [])=pl:=⟨_,rfl⟩
 have hB:s.1.length+(4+(n.size+1+(lenL pl+(2+(lenL (toksT t0)+(2+lenL (toksT t1)))))))≤1000000000:=by
  rw [← List.append_assoc,hpl] at hB
  simp only [lenL_cons,lenL_app,List.length_cons,List.length_nil,bsize] at hB
  omega
 obtain ⟨X,hX⟩:∃ X,[100,101,102] :: n.data.toList :: (parT m l ++ ((if 0 < m then [[41]] else []) ++ [58] :: (toksT t0 ++ [59] :: toksT t1)))=X:=⟨_,rfl⟩
 rw [hX]
 have HX:Hid (X=[100,101,102] :: n.data.toList :: (pl ++ [58] :: (toksT t0 ++ [59] :: toksT t1))):=by
  show X=_
  rw [← hX,← hpl]
  simp only [List.append_assoc,List.cons_append,List.nil_append]
 have HPL:Hid ((parT m l ++ if 0 < m then [[41]] else [])=pl):=hpl
 clear hpl hX
 have P0:=PS.start hp
 go_enter Tryz.func47,Tryz.ntmps47
 go_wp2_with fail
 refine Calls.mono (P0.put2 ⟨#[100,101,102]⟩ n (by decide) hn (by simp only [List.nil_append,lenL_cons,lenL_nil,bsize];simp;omega)) ?_
 rintro e w1 ⟨rfl,P1⟩
 have y1:=P1.cell hbw c1
 have y2:=P1.cell hbw c2
 have y3:=P1.cell hbw c3
 go_wp2_with fail
 refine Calls.mono (params_ok (cap:=cap) (l:=l) HM.out hl HG.out (fun h0=>by obtain ⟨d,h1,h2,h3⟩:=HR.out (by rw [HM.out];exact h0);exact ⟨d,h1,h2,fun i x hx=>P1.cell h2 (h3 i x hx)⟩) P1.pl (P1.len _ (by rw [HPL.out];simp only [List.nil_append,lenL_app,lenL_cons,lenL_nil,bsize];simp;omega))) ?_
 intro e w2 h2
 rw [HPL.out] at h2
 obtain ⟨e2,P2⟩:=P1.next h2
 subst e2
 clear h2
 have z2:=P2.cell hbw c2
 have z3:=P2.cell hbw c3
 go_wp2_with fail
 refine Calls.mono (P2.put1 ⟨#[58]⟩ (by decide) (by simp only [List.nil_append,lenL_app,lenL_cons,lenL_nil,bsize];simp;omega)) ?_
 rintro e w3 ⟨rfl,P3⟩
 have u2:=P3.cell hbw c2
 have u3:=P3.cell hbw c3
 go_wp2_with fail
 refine Calls.mono (P3.fil F0.out R0.out (by simp only [List.nil_append,lenL_app,lenL_cons,lenL_nil,bsize];simp;omega)) ?_
 rintro e w4 ⟨rfl,P4⟩
 have v3:=P4.cell hbw c3
 go_wp2_with fail
 refine Calls.mono (P4.put1 ⟨#[59]⟩ (by decide) (by simp only [List.nil_append,lenL_app,lenL_cons,lenL_nil,bsize];simp;omega)) ?_
 rintro e w5 ⟨rfl,P5⟩
 have q3:=P5.cell hbw c3
 go_wp2_with fail
 refine Calls.mono (P5.fil F1.out R1.out (by simp only [List.nil_append,lenL_app,lenL_cons,lenL_nil,bsize];simp;omega)) ?_
 rintro e w6 ⟨rfl,P6⟩
 go_wp2_with fail
 go_end0
 exact P6.finish (by rw [HX.out];simp)
end
end Go.Proofs.Tryz
namespace Go.Proofs.Tryz
set_option maxHeartbeats 16000000
open Go.RowKit
set_option maxRecDepth 10000
section
variable {a w w' : World} {wb b : Nat} {s : Bs × Bool} {done : List Bs}
theorem heap_newd5 (a:World) (o:Obj):((a.alloc o).drew).heap[a.heap.size]? = some o:=heap_new a o
theorem PS.lst2 (P:PS a w wb s done) {t1 t2:Tn}{x1 x2:Value} (f1:FilterOk t1) (f2:FilterOk t2) (r1:Rf (· < wb) a t1 x1) (r2:Rf (· < wb) a t2 x2) (hb:s.1.length+lenL (done ++ brk (toksT t1 ++ [59] :: toksT t2))≤1000000000) :
  Calls Tryz.prog 45 #[.pointer (some ⟨wb,0,none⟩),.slice (some ⟨w.heap.size,0,none⟩) 2 2] ((w.alloc (.cells #[x1,x2] 31)).drew) (PsP a wb s (done ++ brk (toksT t1 ++ [59] :: toksT t2))):=by
 have hw:=P.lt
 have P':=P.below ((below_alloc w (.cells #[x1,x2] 31)).drew)
 have hc:=Cl.start w [x1,x2] 31
 have e:(semiT 2 fun i=>toksT ([t1,t2].getD i Tn.no))=toksT t1 ++ [59] :: toksT t2:=by simp [semiT,List.range,List.range.loop]
 have:=P'.lst (f:=fun i=>[t1,t2].getD i Tn.no) (n:=2) (d:=w.heap.size) (cap:=2) (by omega) (by omega) (fun i hi=>by
  match i,hi with
  | 0,_=>exact f1
  | 1,_=>exact f2) (fun i hi=>by
  match i,hi with
  | 0,_=>exact ⟨x1,(hc.cell 0).trans rfl,r1⟩
  | 1,_=>exact ⟨x2,(hc.cell 1).trans rfl,r2⟩) ⟨_,heap_newd5 w _,fun c fz e=>by cases e⟩ (by omega) (by rw [e];exact hb)
 rw [e] at this
 exact this
theorem PS.lst3 (P:PS a w wb s done) {t1 t2 t3:Tn}{x1 x2 x3:Value} (f1:FilterOk t1) (f2:FilterOk t2) (f3:FilterOk t3) (r1:Rf (· < wb) a t1 x1) (r2:Rf (· < wb) a t2 x2) (r3:Rf (· < wb) a t3 x3) (hb:s.1.length+lenL (done ++ brk (toksT t1 ++ [59] :: (toksT t2 ++ [59] :: toksT t3)))≤1000000000) :
  Calls Tryz.prog 45 #[.pointer (some ⟨wb,0,none⟩),.slice (some ⟨w.heap.size,0,none⟩) 3 3] ((w.alloc (.cells #[x1,x2,x3] 31)).drew) (PsP a wb s (done ++ brk (toksT t1 ++ [59] :: (toksT t2 ++ [59] :: toksT t3)))):=by
 have hw:=P.lt
 have P':=P.below ((below_alloc w (.cells #[x1,x2,x3] 31)).drew)
 have hc:=Cl.start w [x1,x2,x3] 31
 have e:(semiT 3 fun i=>toksT ([t1,t2,t3].getD i Tn.no))=toksT t1 ++ [59] :: (toksT t2 ++ [59] :: toksT t3):=by simp [semiT,List.range,List.range.loop]
 have:=P'.lst (f:=fun i=>[t1,t2,t3].getD i Tn.no) (n:=3) (d:=w.heap.size) (cap:=3) (by omega) (by omega) (fun i hi=>by
  match i,hi with
  | 0,_=>exact f1
  | 1,_=>exact f2
  | 2,_=>exact f3) (fun i hi=>by
  match i,hi with
  | 0,_=>exact ⟨x1,(hc.cell 0).trans rfl,r1⟩
  | 1,_=>exact ⟨x2,(hc.cell 1).trans rfl,r2⟩
  | 2,_=>exact ⟨x3,(hc.cell 2).trans rfl,r3⟩) ⟨_,heap_newd5 w _,fun c fz e=>by cases e⟩ (by omega) (by rw [e];exact hb)
 rw [e] at this
 exact this
theorem PS.lst1 (P:PS a w wb s done) {t1:Tn}{x1:Value} (f1:FilterOk t1) (r1:Rf (· < wb) a t1 x1) (hb:s.1.length+lenL (done ++ brk (toksT t1))≤1000000000) :
  Calls Tryz.prog 45 #[.pointer (some ⟨wb,0,none⟩),.slice (some ⟨w.heap.size,0,none⟩) 1 1] (w.alloc (.cells #[x1] 31)) (PsP a wb s (done ++ brk (toksT t1))):=by
 have hw:=P.lt
 have P':=P.alloc (.cells #[x1] 31)
 have hc:=Cl.start w [x1] 31
 have e:(semiT 1 fun i=>toksT ([t1].getD i Tn.no))=toksT t1:=by simp [semiT,List.range,List.range.loop]
 have:=P'.lst (f:=fun i=>[t1].getD i Tn.no) (n:=1) (d:=w.heap.size) (cap:=1) (by omega) (by omega) (fun i hi=>by
  match i,hi with
  | 0,_=>exact f1) (fun i hi=>by
  match i,hi with
  | 0,_=>exact ⟨x1,(hc.cell 0).trans rfl,r1⟩) ⟨_,heap_new w _,fun c fz e=>by cases e⟩ (by omega) (by rw [e];exact hb)
 rw [e] at this
 exact this
theorem PS.keepc {w2:World}{done2:List Bs} (P2:PS a w2 wb s done2) (P:PS a w wb s done) {o:Nat}{x:Value} (hb:b < wb) (h:a.cell? ⟨b,o,none⟩=some x):w2.cell? ⟨b,o,none⟩=w.cell? ⟨b,o,none⟩:=(P2.cell hb h).trans (P.cell hb h).symm
theorem fw_Reduce {n:ByteArray}{t0 t1 t2:Tn}{x0 x1 x2:Value} (hbw:b < wb) (c0:w.cell? ⟨b,0,none⟩=some x0) (r0:Rf (· < wb) w t0 x0) (c1:w.cell? ⟨b,1,none⟩=some (.string n)) (c2:w.cell? ⟨b,2,none⟩=some x1) (r1:Rf (· < wb) w t1 x1) (c3:w.cell? ⟨b,3,none⟩=some x2) (r2:Rf (· < wb) w t2 x2) (f0:PrimOk t0) (f1:FilterOk t1) (f2:FilterOk t2) (hp:PlW w wb s)
  (hB:s.1.length+lenL ([114,101,100,117,99,101] :: (primT (kindT t0) (toksT t0) ++ [97,115] :: (36 :: n.data.toList) :: brk (toksT t1 ++ [59] :: toksT t2)))≤1000000000) :
  Calls Tryz.prog 23 #[.pointer (some ⟨wb,0,none⟩),.iface 122 (.pointer (some ⟨b,0,none⟩))] w (PutP wb s ([114,101,100,117,99,101] :: (primT (kindT t0) (toksT t0) ++ [97,115] :: (36 :: n.data.toList) :: brk (toksT t1 ++ [59] :: toksT t2))) w):=by
 have a0:=missIdentity;have a1:=missDescent;have a2:=missLiteral;have a3:=missVariable;have a4:=missBreak;have a5:=missField;have a6:=missIndex;have a7:=missEach;have a8:=missOptional;have a9:=missCollect;have a10:=missBuild;have a11:=missCall;have a12:=hitReduce
 obtain ⟨T0,d0,e0⟩:∃ T d,x0 = .iface T (.pointer (some ⟨d,0,none⟩)):=by obtain ⟨q,e,_,_⟩:=r0.shape;exact ⟨_,q,e⟩
 subst e0
 obtain ⟨T1,d1,e1⟩:∃ T d,x1 = .iface T (.pointer (some ⟨d,0,none⟩)):=by obtain ⟨q,e,_,_⟩:=r1.shape;exact ⟨_,q,e⟩
 subst e1
 obtain ⟨T2,d2,e2⟩:∃ T d,x2 = .iface T (.pointer (some ⟨d,0,none⟩)):=by obtain ⟨q,e,_,_⟩:=r2.shape;exact ⟨_,q,e⟩
 subst e2
 have R0:Aside (Rf (· < wb) w t0 (.iface T0 (.pointer (some ⟨d0,0,none⟩)))):=r0
 have R1:Aside (Rf (· < wb) w t1 (.iface T1 (.pointer (some ⟨d1,0,none⟩)))):=r1
 have R2:Aside (Rf (· < wb) w t2 (.iface T2 (.pointer (some ⟨d2,0,none⟩)))):=r2
 have F0:Aside (PrimOk t0):=f0
 have F1:Aside (FilterOk t1):=f1
 have F2:Aside (FilterOk t2):=f2
 clear r0 r1 r2 f0 f1 f2
 simp only [lenL_cons,lenL_app,lenL_nil,lenL_brk,List.length_cons,List.length_nil,bsize] at hB
 have P0:=PS.start hp
 go_enter Tryz.func23,Tryz.ntmps23
 go_wp2_with fail
 refine Calls.mono (P0.put1 ⟨#[114,101,100,117,99,101]⟩ (by decide) (by simp [lenL_cons,lenL_nil];omega)) ?_
 rintro e w1 ⟨rfl,P1⟩
 have y0:=P1.cell hbw c0
 go_wp2_with fail
 refine Calls.mono (P1.prim F0.out R0.out (by simp [lenL_cons,lenL_nil,lenL_app];omega)) ?_
 rintro e w2 ⟨rfl,P2⟩
 have z1:=P2.cell hbw c1
 go_wp2_with fail
 refine Calls.mono (P2.put2 ⟨#[97,115]⟩ (⟨#[36]⟩ ++ n) (by decide) (dollar_ne n) (by simp [lenL_cons,lenL_nil,lenL_app,dollar];omega)) ?_
 rintro e w3 ⟨rfl,P3⟩
 have u2:=P3.cell hbw c2
 have u3:=P3.cell hbw c3
 have P3:Aside (PS w w3 wb s (([] ++ [(⟨#[114,101,100,117,99,101]⟩:ByteArray).data.toList]) ++ primT (kindT t0) (toksT t0) ++ [(⟨#[97,115]⟩:ByteArray).data.toList,((⟨#[36]⟩:ByteArray) ++ n).data.toList])):=P3
 go_wp2_with fail
 go_region_held3 (fun w'=>w'.cell? ⟨b,2,none⟩=w3.cell? ⟨b,2,none⟩∧w'.cell? ⟨b,3,none⟩=w3.cell? ⟨b,3,none⟩) (first | exact ⟨e2,e3⟩ | go_keep)
  (first | (go_at_call 45;refine (P3.out.lst2 F1.out F2.out R1.out R2.out (by simp [lenL_cons,lenL_nil,lenL_app,lenL_brk,dollar];omega)).mono ?_;rintro e w4 ⟨rfl,P4⟩;have e2:w4.cell? ⟨b,2,none⟩=w3.cell? ⟨b,2,none⟩:=P4.keepc P3.out hbw c2;have e3:w4.cell? ⟨b,3,none⟩=w3.cell? ⟨b,3,none⟩:=P4.keepc P3.out hbw c3))
 go_wp2_with fail
 go_end0
 exact P4.finish (by simp [dollar])
theorem fw_Foreach {n:ByteArray}{t0 t1 t2 t3:Tn}{x0 x1 x2 x3:Value} (hbw:b < wb) (c0:w.cell? ⟨b,0,none⟩=some x0) (r0:Rf (· < wb) w t0 x0) (c1:w.cell? ⟨b,1,none⟩=some (.string n)) (c2:w.cell? ⟨b,2,none⟩=some x1) (r1:Rf (· < wb) w t1 x1) (c3:w.cell? ⟨b,3,none⟩=some x2) (r2:Rf (· < wb) w t2 x2) (c4:w.cell? ⟨b,4,none⟩=some x3) (r3:Rf (· < wb) w t3 x3) (f0:PrimOk t0) (f1:FilterOk t1) (f2:FilterOk t2) (f3:FilterOk t3) (hp:PlW w wb s)
  (hB:s.1.length+lenL ([102,111,114,101,97,99,104] :: (primT (kindT t0) (toksT t0) ++ [97,115] :: (36 :: n.data.toList) :: brk (toksT t1 ++ [59] :: (toksT t2 ++ [59] :: toksT t3))))≤1000000000) :
  Calls Tryz.prog 23 #[.pointer (some ⟨wb,0,none⟩),.iface 125 (.pointer (some ⟨b,0,none⟩))] w (PutP wb s ([102,111,114,101,97,99,104] :: (primT (kindT t0) (toksT t0) ++ [97,115] :: (36 :: n.data.toList) :: brk (toksT t1 ++ [59] :: (toksT t2 ++ [59] :: toksT t3)))) w):=by
 have a0:=missIdentity;have a1:=missDescent;have a2:=missLiteral;have a3:=missVariable;have a4:=missBreak;have a5:=missField;have a6:=missIndex;have a7:=missEach;have a8:=missOptional;have a9:=missCollect;have a10:=missBuild;have a11:=missCall;have a12:=missReduce;have a13:=hitForeach
 obtain ⟨T0,d0,e0⟩:∃ T d,x0 = .iface T (.pointer (some ⟨d,0,none⟩)):=by obtain ⟨q,e,_,_⟩:=r0.shape;exact ⟨_,q,e⟩
 subst e0
 obtain ⟨T1,d1,e1⟩:∃ T d,x1 = .iface T (.pointer (some ⟨d,0,none⟩)):=by obtain ⟨q,e,_,_⟩:=r1.shape;exact ⟨_,q,e⟩
 subst e1
 obtain ⟨T2,d2,e2⟩:∃ T d,x2 = .iface T (.pointer (some ⟨d,0,none⟩)):=by obtain ⟨q,e,_,_⟩:=r2.shape;exact ⟨_,q,e⟩
 subst e2
 obtain ⟨T3,d3,e3⟩:∃ T d,x3 = .iface T (.pointer (some ⟨d,0,none⟩)):=by obtain ⟨q,e,_,_⟩:=r3.shape;exact ⟨_,q,e⟩
 subst e3
 have R0:Aside (Rf (· < wb) w t0 (.iface T0 (.pointer (some ⟨d0,0,none⟩)))):=r0
 have R1:Aside (Rf (· < wb) w t1 (.iface T1 (.pointer (some ⟨d1,0,none⟩)))):=r1
 have R2:Aside (Rf (· < wb) w t2 (.iface T2 (.pointer (some ⟨d2,0,none⟩)))):=r2
 have R3:Aside (Rf (· < wb) w t3 (.iface T3 (.pointer (some ⟨d3,0,none⟩)))):=r3
 have F0:Aside (PrimOk t0):=f0
 have F1:Aside (FilterOk t1):=f1
 have F2:Aside (FilterOk t2):=f2
 have F3:Aside (FilterOk t3):=f3
 clear r0 r1 r2 r3 f0 f1 f2 f3
 simp only [lenL_cons,lenL_app,lenL_nil,lenL_brk,List.length_cons,List.length_nil,bsize] at hB
 have P0:=PS.start hp
 go_enter Tryz.func23,Tryz.ntmps23
 go_wp2_with fail
 refine Calls.mono (P0.put1 ⟨#[102,111,114,101,97,99,104]⟩ (by decide) (by simp [lenL_cons,lenL_nil];omega)) ?_
 rintro e w1 ⟨rfl,P1⟩
 have y0:=P1.cell hbw c0
 go_wp2_with fail
 refine Calls.mono (P1.prim F0.out R0.out (by simp [lenL_cons,lenL_nil,lenL_app];omega)) ?_
 rintro e w2 ⟨rfl,P2⟩
 have z1:=P2.cell hbw c1
 go_wp2_with fail
 refine Calls.mono (P2.put2 ⟨#[97,115]⟩ (⟨#[36]⟩ ++ n) (by decide) (dollar_ne n) (by simp [lenL_cons,lenL_nil,lenL_app,dollar];omega)) ?_
 rintro e w3 ⟨rfl,P3⟩
 have u2:=P3.cell hbw c2
 have u3:=P3.cell hbw c3
 have u4:=P3.cell hbw c4
 have P3:Aside (PS w w3 wb s (([] ++ [(⟨#[102,111,114,101,97,99,104]⟩:ByteArray).data.toList]) ++ primT (kindT t0) (toksT t0) ++ [(⟨#[97,115]⟩:ByteArray).data.toList,((⟨#[36]⟩:ByteArray) ++ n).data.toList])):=P3
 go_wp2_with fail
 go_region_held3 (fun w'=>w'.cell? ⟨b,2,none⟩=w3.cell? ⟨b,2,none⟩∧w'.cell? ⟨b,3,none⟩=w3.cell? ⟨b,3,none⟩∧w'.cell? ⟨b,4,none⟩=w3.cell? ⟨b,4,none⟩) (first | exact ⟨e2,e3,e4⟩ | go_keep)
  (first | (go_at_call 45;refine (P3.out.lst3 F1.out F2.out F3.out R1.out R2.out R3.out (by simp [lenL_cons,lenL_nil,lenL_app,lenL_brk,dollar];omega)).mono ?_;rintro e w4 ⟨rfl,P4⟩;have e2:w4.cell? ⟨b,2,none⟩=w3.cell? ⟨b,2,none⟩:=P4.keepc P3.out hbw c2;have e3:w4.cell? ⟨b,3,none⟩=w3.cell? ⟨b,3,none⟩:=P4.keepc P3.out hbw c3;have e4:w4.cell? ⟨b,4,none⟩=w3.cell? ⟨b,4,none⟩:=P4.keepc P3.out hbw c4))
 go_wp2_with fail
 go_end0
 exact P4.finish (by simp [dollar])
end
end Go.Proofs.Tryz
namespace Go.Proofs.Tryz
set_option maxHeartbeats 16000000
open Go.RowKit
set_option maxRecDepth 10000
section
variable {a w w' : World} {wb b : Nat} {s : Bs × Bool} {done : List Bs}
theorem PS.cellN (P:PS a w wb s done) {g o:Nat}{x:Value} (hn:NoB a g) (hg:g≠wb) (h:a.cell? ⟨g,o,none⟩=some x):w.cell? ⟨g,o,none⟩=some x:=(World.cell?_of_block (w:=a) (P.kp.at hn hg)).trans h
theorem PS.join {m:World}{l:List Bs} (P:PS a w wb s done) (k:KpW wb w m) (Q:PS m w' wb (putL s done) l):PS a w' wb s (done ++ l):=⟨(P.kp.trans k).trans Q.kp,by rw [putL_app];exact Q.pl⟩
theorem memsY_succ (n:Nat) (l:List ByteArray) (f:Nat→List Bs):memsY (n+1) l f=memsY n l f ++ memY n (l.getD n ⟨#[]⟩) f:=by
 unfold memsY
 rw [List.range_succ,List.flatMap_append]
 simp
theorem memsY_le (l:List ByteArray) (f:Nat→List Bs) {i n:Nat} (h:i≤n):lenL (memsY i l f)≤lenL (memsY n l f):=by
 induction n with
 | zero=>rw [Nat.le_zero.1 h];exact Nat.le_refl _
 | succ n ih =>
  by_cases e:i=n+1
  ·rw [e];exact Nat.le_refl _
  ·have:=ih (by omega)
   rw [memsY_succ,lenL_app]
   omega
structure MemW (w:World) (wb d i:Nat) (x:ByteArray) (tk tv:Tn):Prop where
 nm:w.cell? ⟨d,4 * i,none⟩=some (.string (if x.data.toList=[40]∨x.data.toList=[34] then ⟨#[]⟩ else x))
 br:w.cell? ⟨d,4 * i+2,none⟩=some (.bool (x.data.toList == [40]))
 key:∃ T q,w.cell? ⟨d,4 * i+1,none⟩=some (.iface T (.pointer (some ⟨q,0,none⟩)))∧Rf (· < wb) w tk (.iface T (.pointer (some ⟨q,0,none⟩)))
 val:∃ T q,w.cell? ⟨d,4 * i+3,none⟩=some (.iface T (.pointer (some ⟨q,0,none⟩)))∧Rf (· < wb) w tv (.iface T (.pointer (some ⟨q,0,none⟩)))
 ne:x.size≠0
theorem build_ok_w {k:Nat→Tn}{names:List ByteArray}{r:Option Addr}{n cap:Nat} (hl:names.length=n) (hn:n≤3000) (hbw:b < wb) (c0:w.cell? ⟨b,0,none⟩=some (.slice r n cap)) (hf:∀ i,i < 2 * n→FilterOk (k (i+1)))
  (hr:0 < n→∃ d,r=some ⟨d,0,none⟩∧d < wb∧∀ i x,names[i]? = some x→MemW w wb d i x (k (2 * i+1)) (k (2 * i+2))) (hp:PlW w wb s) (hB:s.1.length+lenL ([123] :: (memsY n names (fun i=>toksT (k (i+1))) ++ [[125]]))≤1000000000) :
  Calls Tryz.prog 44 #[.pointer (some ⟨wb,0,none⟩),.pointer (some ⟨b,0,none⟩)] w (PutP wb s ([123] :: (memsY n names (fun i=>toksT (k (i+1))) ++ [[125]])) w):=by
 simp only [lenL_cons,lenL_app,lenL_nil,List.length_cons,List.length_nil] at hB
 have P0:=PS.start hp
 have HL:Hid (names.length=n):=hl
 have HF:Aside (∀ i,i < 2 * n→FilterOk (k (i+1))):=hf
 have HR:Aside (0 < n→∃ d,r=some ⟨d,0,none⟩∧d < wb∧∀ i x,names[i]? = some x→MemW w wb d i x (k (2 * i+1)) (k (2 * i+2))):=hr
 clear hl hf hr
 go_enter Tryz.func44,Tryz.ntmps44
 go_wp2_with fail
 refine Calls.mono (P0.put1 ⟨#[123]⟩ (by decide) (by simp [lenL_cons,lenL_nil];omega)) ?_
 rintro e w1 ⟨rfl,P1⟩
 have y0:=P1.cell hbw c0
 have P1:PS w w1 wb s ([123] :: memsY 0 names (fun i=>toksT (k (i+1)))):=P1
 go_wp2_with fail
 go_loopg [14] (n+1) (fun j t wr=>∃ i:Nat,i+j=n+1∧i≤n∧t = .int .i64 i∧PS w wr wb s ([123] :: memsY i names (fun i=>toksT (k (i+1)))))
 case atStart=>exact ⟨0,by omega,by omega,rfl,P1⟩
 case round =>
  obtain ⟨i,hij,hin,rfl,P0'⟩:=hrel
  by_cases hi:i < n
  ·obtain ⟨d,e,hdw,hmm⟩:=HR.out (by omega)
   subst e
   have hil:i < names.length:=by have:=HL.out;omega
   obtain ⟨x,hx⟩:∃ x,names[i]? = some x:=⟨_,List.getElem?_eq_getElem hil⟩
   have M:=hmm i x hx
   have hgd:names.getD i ⟨#[]⟩=x:=by simp [hx]
   have hs0:=memsY_succ i names (fun i=>toksT (k (i+1)))
   rw [hgd] at hs0
   have hle:=memsY_le names (fun i=>toksT (k (i+1))) (i:=i+1) (n:=n) (by omega)
   rw [hs0,lenL_app] at hle
   have hs:Aside (memsY (i+1) names (fun i=>toksT (k (i+1)))=memsY i names (fun i=>toksT (k (i+1))) ++ memY i x (fun i=>toksT (k (i+1)))):=hs0
   have hbd:(putL s ([123] :: memsY i names (fun i=>toksT (k (i+1))))).1.length+lenL (memY i x (fun i=>toksT (k (i+1))))≤1000000000:=P0'.len _ (by simp only [lenL_cons,lenL_app,List.length_cons,List.length_nil];omega)
   obtain ⟨S,hS0⟩:∃ S,putL s ([123] :: memsY i names (fun i=>toksT (k (i+1))))=S:=⟨_,rfl⟩
   have hFk0:=HF.out (2 * i) (by omega)
   have hFv0:=HF.out (2 * i+1) (by omega)
   obtain ⟨tk,htk⟩:∃ tk,k (2 * i+1)=tk:=⟨_,rfl⟩
   obtain ⟨tv,htv⟩:∃ tv,k (2 * i+2)=tv:=⟨_,rfl⟩
   have hmY0:memY i x (fun i=>toksT (k (i+1)))=(if 0 < i then [[44]] else []) ++ (keyT x (toksT tk) ++ [58] :: toksT tv):=by rw [← htk,← htv];rfl
   rw [hmY0] at hbd
   have hmY:Aside (memY i x (fun i=>toksT (k (i+1)))=(if 0 < i then [[44]] else []) ++ (keyT x (toksT tk) ++ [58] :: toksT tv)):=hmY0
   rw [htk,htv] at M
   have hFk:Aside (FilterOk tk):=htk ▸ hFk0
   have hFv:Aside (FilterOk tv):=htv ▸ hFv0
   obtain ⟨m0,m2,⟨T1,q1,m1,rk0⟩,⟨T3,q3,m3,rv0⟩,hxne⟩:=M
   have g0:=P0'.cell hdw m0
   have g1:=P0'.cell hdw m1
   have g2:=P0'.cell hdw m2
   have g3:=P0'.cell hdw m3
   rw [Nat.mul_comm 4 i] at g0 g1 g2 g3
   have hpl:=P0'.pl
   rw [hS0] at hbd hpl
   have hS:Hid (putL s ([123] :: memsY i names (fun i=>toksT (k (i+1))))=S):=hS0
   have rk:Rf (· < wb) wr tk (.iface T1 (.pointer (some ⟨q1,0,none⟩))):=P0'.rf rk0
   have rv:Rf (· < wb) wr tv (.iface T3 (.pointer (some ⟨q3,0,none⟩))):=P0'.rf rv0
   have hi':(i:Int) < (n:Int):=by omega
   have hi0:(0:Int)≤(i:Int):=by omega
   have hwr:=P0'.lt
   have P:Aside (PS w wr wb s ([123] :: memsY i names (fun i=>toksT (k (i+1))))):=P0'
   clear m0 m1 m2 m3 htk htv hx hgd hmm hFk0 hFv0 hs0 hmY0 hS0 rk0 rv0 P0'
   by_cases hx1:x.data.toList=[40]
   ·rw [if_pos (.inl hx1)] at g0
    have hbr:(x.data.toList == [40])=true:=by simp [hx1]
    rw [hbr] at g2
    have hx1:Hid (x.data.toList=[40]):=hx1
    rw [show keyT x (toksT tk)=brk (toksT tk) by unfold keyT;rw [if_pos hx1.out]] at hbd
    by_cases h0:0 < i
    ·have h0':(0:Int) < (i:Int):=by omega
     rw [if_pos h0] at hbd
     simp only [lenL_cons,lenL_app,lenL_nil,lenL_brk,List.length_cons,List.length_nil,bsize] at hbd
     obtain ⟨W,hW⟩:∃ W,wr.alloc (.cells #[.string ⟨#[]⟩,.iface T1 (.pointer (some ⟨q1,0,none⟩)),.bool true,.iface T3 (.pointer (some ⟨q3,0,none⟩))] 169)=W:=⟨_,rfl⟩
     have kW:Below wr.heap.size wr W:=by rw [← hW];exact below_alloc _ _
     have hcl:Cl W wr.heap.size [.string ⟨#[]⟩,.iface T1 (.pointer (some ⟨q1,0,none⟩)),.bool true,.iface T3 (.pointer (some ⟨q3,0,none⟩))]:=by rw [← hW];exact Cl.start _ _ _
     have hNB:NoB W wr.heap.size:=by rw [← hW];exact noB_new _ _ _ (by decide)
     have Q0:PS W W wb S []:=PS.start (hpl.below kW)
     have HK:Aside (Rf (· < wb) W tk (.iface T1 (.pointer (some ⟨q1,0,none⟩)))):=rk.keep (fun _ h _=>h) kW.size (fun b _ hb=>kW.block b hb)
     have HV:Aside (Rf (· < wb) W tv (.iface T3 (.pointer (some ⟨q3,0,none⟩)))):=rv.keep (fun _ h _=>h) kW.size (fun b _ hb=>kW.block b hb)
     have HW:Hid (wr.alloc _=W):=hW
     have hWs:Hid (W.heap.size=wr.heap.size+1):=by show W.heap.size=_;rw [← hW];simp
     have hne:wr.heap.size≠wb:=by omega
     have kpW:Aside (KpW wb wr W):=⟨kW.mono (Nat.le_of_lt hwr),fun i o h _ _=>(kW.block i (Array.getElem?_eq_some_iff.1 h).1).trans h⟩
     have z0:W.cell? ⟨wr.heap.size,0,none⟩=some (.string ⟨#[]⟩):=(hcl.cell 0).trans rfl
     have z1:W.cell? ⟨wr.heap.size,1,none⟩=some (.iface T1 (.pointer (some ⟨q1,0,none⟩))):=(hcl.cell 1).trans rfl
     have z2:W.cell? ⟨wr.heap.size,2,none⟩=some (.bool true):=(hcl.cell 2).trans rfl
     have z3:W.cell? ⟨wr.heap.size,3,none⟩=some (.iface T3 (.pointer (some ⟨q3,0,none⟩))):=(hcl.cell 3).trans rfl
     have zs:wr.heap.size < W.heap.size:=cell_lt z0
     clear hW hcl
     go_wp2_with fail
     rw [HW.out]
     first | rw [← hWs.out] | skip
     refine Calls.mono (Q0.put1 ⟨#[44]⟩ (by decide) (by simp [lenL_cons,lenL_nil,lenL_app,lenL_brk];omega)) ?_
     rintro e v1 ⟨rfl,Q1⟩
     have z0_1:=Q1.cellN hNB hne z0
     have z1_1:=Q1.cellN hNB hne z1
     have z2_1:=Q1.cellN hNB hne z2
     have z3_1:=Q1.cellN hNB hne z3
     go_wp2_with fail
     refine Calls.mono (Q1.lst1 hFk.out HK.out (by simp [lenL_cons,lenL_nil,lenL_app,lenL_brk];omega)) ?_
     rintro e v2 ⟨rfl,Q2⟩
     have z0_2:=Q2.cellN hNB hne z0
     have z1_2:=Q2.cellN hNB hne z1
     have z2_2:=Q2.cellN hNB hne z2
     have z3_2:=Q2.cellN hNB hne z3
     go_wp2_with fail
     refine Calls.mono (Q2.put1 ⟨#[58]⟩ (by decide) (by simp [lenL_cons,lenL_nil,lenL_app,lenL_brk];omega)) ?_
     rintro e v3 ⟨rfl,Q3⟩
     have z0_3:=Q3.cellN hNB hne z0
     have z1_3:=Q3.cellN hNB hne z1
     have z2_3:=Q3.cellN hNB hne z2
     have z3_3:=Q3.cellN hNB hne z3
     go_wp2_with fail
     refine Calls.mono (Q3.fil hFv.out HV.out (by simp [lenL_cons,lenL_nil,lenL_app,lenL_brk];omega)) ?_
     rintro e v4 ⟨rfl,Q4⟩
     go_wp2_with fail
     go_roundg (n+1 - (i+1))
     case measure=>omega
     case rel =>
      refine ⟨i+1,by omega,by omega,by go_num,?_⟩
      rw [hs.out,hmY.out]
      rw [← hS.out] at Q4
      have:=P.out.join kpW.out Q4
      have e1:keyT x (toksT tk)=brk (toksT tk):=by unfold keyT;rw [if_pos hx1.out]
      rw [e1]
      rw [if_pos h0]
      simpa using this
    ·rw [if_neg h0] at hbd
     simp only [lenL_cons,lenL_app,lenL_nil,lenL_brk,List.length_cons,List.length_nil,bsize] at hbd
     have hi00:i=0:=by omega
     subst hi00
     obtain ⟨W,hW⟩:∃ W,wr.alloc (.cells #[.string ⟨#[]⟩,.iface T1 (.pointer (some ⟨q1,0,none⟩)),.bool true,.iface T3 (.pointer (some ⟨q3,0,none⟩))] 169)=W:=⟨_,rfl⟩
     have kW:Below wr.heap.size wr W:=by rw [← hW];exact below_alloc _ _
     have hcl:Cl W wr.heap.size [.string ⟨#[]⟩,.iface T1 (.pointer (some ⟨q1,0,none⟩)),.bool true,.iface T3 (.pointer (some ⟨q3,0,none⟩))]:=by rw [← hW];exact Cl.start _ _ _
     have hNB:NoB W wr.heap.size:=by rw [← hW];exact noB_new _ _ _ (by decide)
     have Q0:PS W W wb S []:=PS.start (hpl.below kW)
     have HK:Aside (Rf (· < wb) W tk (.iface T1 (.pointer (some ⟨q1,0,none⟩)))):=rk.keep (fun _ h _=>h) kW.size (fun b _ hb=>kW.block b hb)
     have HV:Aside (Rf (· < wb) W tv (.iface T3 (.pointer (some ⟨q3,0,none⟩)))):=rv.keep (fun _ h _=>h) kW.size (fun b _ hb=>kW.block b hb)
     have HW:Hid (wr.alloc _=W):=hW
     have hWs:Hid (W.heap.size=wr.heap.size+1):=by show W.heap.size=_;rw [← hW];simp
     have hne:wr.heap.size≠wb:=by omega
     have kpW:Aside (KpW wb wr W):=⟨kW.mono (Nat.le_of_lt hwr),fun i o h _ _=>(kW.block i (Array.getElem?_eq_some_iff.1 h).1).trans h⟩
     have z0:W.cell? ⟨wr.heap.size,0,none⟩=some (.string ⟨#[]⟩):=(hcl.cell 0).trans rfl
     have z1:W.cell? ⟨wr.heap.size,1,none⟩=some (.iface T1 (.pointer (some ⟨q1,0,none⟩))):=(hcl.cell 1).trans rfl
     have z2:W.cell? ⟨wr.heap.size,2,none⟩=some (.bool true):=(hcl.cell 2).trans rfl
     have z3:W.cell? ⟨wr.heap.size,3,none⟩=some (.iface T3 (.pointer (some ⟨q3,0,none⟩))):=(hcl.cell 3).trans rfl
     have zs:wr.heap.size < W.heap.size:=cell_lt z0
     clear hW hcl
     go_wp2_with fail
     rw [HW.out]
     first | rw [← hWs.out] | skip
     refine Calls.mono (Q0.lst1 hFk.out HK.out (by simp [lenL_cons,lenL_nil,lenL_app,lenL_brk];omega)) ?_
     rintro e v1 ⟨rfl,Q1⟩
     have z0_1:=Q1.cellN hNB hne z0
     have z1_1:=Q1.cellN hNB hne z1
     have z2_1:=Q1.cellN hNB hne z2
     have z3_1:=Q1.cellN hNB hne z3
     go_wp2_with fail
     refine Calls.mono (Q1.put1 ⟨#[58]⟩ (by decide) (by simp [lenL_cons,lenL_nil,lenL_app,lenL_brk];omega)) ?_
     rintro e v2 ⟨rfl,Q2⟩
     have z0_2:=Q2.cellN hNB hne z0
     have z1_2:=Q2.cellN hNB hne z1
     have z2_2:=Q2.cellN hNB hne z2
     have z3_2:=Q2.cellN hNB hne z3
     go_wp2_with fail
     refine Calls.mono (Q2.fil hFv.out HV.out (by simp [lenL_cons,lenL_nil,lenL_app,lenL_brk];omega)) ?_
     rintro e v3 ⟨rfl,Q3⟩
     go_wp2_with fail
     go_roundg (n+1 - (0+1))
     case measure=>omega
     case rel =>
      refine ⟨0+1,by omega,by omega,by go_num,?_⟩
      rw [hs.out,hmY.out]
      rw [← hS.out] at Q3
      have:=P.out.join kpW.out Q3
      have e1:keyT x (toksT tk)=brk (toksT tk):=by unfold keyT;rw [if_pos hx1.out]
      rw [e1]
      simpa using this
   ·by_cases hx2:x.data.toList=[34]
    ·rw [if_pos (.inr hx2)] at g0
     have hbr:(x.data.toList == [40])=false:=by simpa using hx1
     rw [hbr] at g2
     have hx2:Hid (x.data.toList=[34]):=hx2
     have hx1:Hid (¬ x.data.toList=[40]):=hx1
     rw [show keyT x (toksT tk)=toksT tk by unfold keyT;rw [if_neg hx1.out,if_pos hx2.out]] at hbd
     by_cases h0:0 < i
     ·have h0':(0:Int) < (i:Int):=by omega
      rw [if_pos h0] at hbd
      simp only [lenL_cons,lenL_app,lenL_nil,lenL_brk,List.length_cons,List.length_nil,bsize] at hbd
      obtain ⟨W,hW⟩:∃ W,wr.alloc (.cells #[.string ⟨#[]⟩,.iface T1 (.pointer (some ⟨q1,0,none⟩)),.bool false,.iface T3 (.pointer (some ⟨q3,0,none⟩))] 169)=W:=⟨_,rfl⟩
      have kW:Below wr.heap.size wr W:=by rw [← hW];exact below_alloc _ _
      have hcl:Cl W wr.heap.size [.string ⟨#[]⟩,.iface T1 (.pointer (some ⟨q1,0,none⟩)),.bool false,.iface T3 (.pointer (some ⟨q3,0,none⟩))]:=by rw [← hW];exact Cl.start _ _ _
      have hNB:NoB W wr.heap.size:=by rw [← hW];exact noB_new _ _ _ (by decide)
      have Q0:PS W W wb S []:=PS.start (hpl.below kW)
      have HK:Aside (Rf (· < wb) W tk (.iface T1 (.pointer (some ⟨q1,0,none⟩)))):=rk.keep (fun _ h _=>h) kW.size (fun b _ hb=>kW.block b hb)
      have HV:Aside (Rf (· < wb) W tv (.iface T3 (.pointer (some ⟨q3,0,none⟩)))):=rv.keep (fun _ h _=>h) kW.size (fun b _ hb=>kW.block b hb)
      have HW:Hid (wr.alloc _=W):=hW
      have hWs:Hid (W.heap.size=wr.heap.size+1):=by show W.heap.size=_;rw [← hW];simp
      have hne:wr.heap.size≠wb:=by omega
      have kpW:Aside (KpW wb wr W):=⟨kW.mono (Nat.le_of_lt hwr),fun i o h _ _=>(kW.block i (Array.getElem?_eq_some_iff.1 h).1).trans h⟩
      have z0:W.cell? ⟨wr.heap.size,0,none⟩=some (.string ⟨#[]⟩):=(hcl.cell 0).trans rfl
      have z1:W.cell? ⟨wr.heap.size,1,none⟩=some (.iface T1 (.pointer (some ⟨q1,0,none⟩))):=(hcl.cell 1).trans rfl
      have z2:W.cell? ⟨wr.heap.size,2,none⟩=some (.bool false):=(hcl.cell 2).trans rfl
      have z3:W.cell? ⟨wr.heap.size,3,none⟩=some (.iface T3 (.pointer (some ⟨q3,0,none⟩))):=(hcl.cell 3).trans rfl
      have zs:wr.heap.size < W.heap.size:=cell_lt z0
      clear hW hcl
      go_wp2_with fail
      rw [HW.out]
      first | rw [← hWs.out] | skip
      refine Calls.mono (Q0.put1 ⟨#[44]⟩ (by decide) (by simp [lenL_cons,lenL_nil,lenL_app,lenL_brk];omega)) ?_
      rintro e v1 ⟨rfl,Q1⟩
      have z0_1:=Q1.cellN hNB hne z0
      have z1_1:=Q1.cellN hNB hne z1
      have z2_1:=Q1.cellN hNB hne z2
      have z3_1:=Q1.cellN hNB hne z3
      go_wp2_with fail
      refine Calls.mono (Q1.fil hFk.out HK.out (by simp [lenL_cons,lenL_nil,lenL_app,lenL_brk];omega)) ?_
      rintro e v2 ⟨rfl,Q2⟩
      have z0_2:=Q2.cellN hNB hne z0
      have z1_2:=Q2.cellN hNB hne z1
      have z2_2:=Q2.cellN hNB hne z2
      have z3_2:=Q2.cellN hNB hne z3
      go_wp2_with fail
      refine Calls.mono (Q2.put1 ⟨#[58]⟩ (by decide) (by simp [lenL_cons,lenL_nil,lenL_app,lenL_brk];omega)) ?_
      rintro e v3 ⟨rfl,Q3⟩
      have z0_3:=Q3.cellN hNB hne z0
      have z1_3:=Q3.cellN hNB hne z1
      have z2_3:=Q3.cellN hNB hne z2
      have z3_3:=Q3.cellN hNB hne z3
      go_wp2_with fail
      refine Calls.mono (Q3.fil hFv.out HV.out (by simp [lenL_cons,lenL_nil,lenL_app,lenL_brk];omega)) ?_
      rintro e v4 ⟨rfl,Q4⟩
      go_wp2_with fail
      go_roundg (n+1 - (i+1))
      case measure=>omega
      case rel =>
       refine ⟨i+1,by omega,by omega,by go_num,?_⟩
       rw [hs.out,hmY.out]
       rw [← hS.out] at Q4
       have:=P.out.join kpW.out Q4
       have e1:keyT x (toksT tk)=toksT tk:=by unfold keyT;rw [if_neg hx1.out,if_pos hx2.out]
       rw [e1]
       rw [if_pos h0]
       simpa using this
     ·rw [if_neg h0] at hbd
      simp only [lenL_cons,lenL_app,lenL_nil,lenL_brk,List.length_cons,List.length_nil,bsize] at hbd
      have hi00:i=0:=by omega
      subst hi00
      obtain ⟨W,hW⟩:∃ W,wr.alloc (.cells #[.string ⟨#[]⟩,.iface T1 (.pointer (some ⟨q1,0,none⟩)),.bool false,.iface T3 (.pointer (some ⟨q3,0,none⟩))] 169)=W:=⟨_,rfl⟩
      have kW:Below wr.heap.size wr W:=by rw [← hW];exact below_alloc _ _
      have hcl:Cl W wr.heap.size [.string ⟨#[]⟩,.iface T1 (.pointer (some ⟨q1,0,none⟩)),.bool false,.iface T3 (.pointer (some ⟨q3,0,none⟩))]:=by rw [← hW];exact Cl.start _ _ _
      have hNB:NoB W wr.heap.size:=by rw [← hW];exact noB_new _ _ _ (by decide)
      have Q0:PS W W wb S []:=PS.start (hpl.below kW)
      have HK:Aside (Rf (· < wb) W tk (.iface T1 (.pointer (some ⟨q1,0,none⟩)))):=rk.keep (fun _ h _=>h) kW.size (fun b _ hb=>kW.block b hb)
      have HV:Aside (Rf (· < wb) W tv (.iface T3 (.pointer (some ⟨q3,0,none⟩)))):=rv.keep (fun _ h _=>h) kW.size (fun b _ hb=>kW.block b hb)
      have HW:Hid (wr.alloc _=W):=hW
      have hWs:Hid (W.heap.size=wr.heap.size+1):=by show W.heap.size=_;rw [← hW];simp
      have hne:wr.heap.size≠wb:=by omega
      have kpW:Aside (KpW wb wr W):=⟨kW.mono (Nat.le_of_lt hwr),fun i o h _ _=>(kW.block i (Array.getElem?_eq_some_iff.1 h).1).trans h⟩
      have z0:W.cell? ⟨wr.heap.size,0,none⟩=some (.string ⟨#[]⟩):=(hcl.cell 0).trans rfl
      have z1:W.cell? ⟨wr.heap.size,1,none⟩=some (.iface T1 (.pointer (some ⟨q1,0,none⟩))):=(hcl.cell 1).trans rfl
      have z2:W.cell? ⟨wr.heap.size,2,none⟩=some (.bool false):=(hcl.cell 2).trans rfl
      have z3:W.cell? ⟨wr.heap.size,3,none⟩=some (.iface T3 (.pointer (some ⟨q3,0,none⟩))):=(hcl.cell 3).trans rfl
      have zs:wr.heap.size < W.heap.size:=cell_lt z0
      clear hW hcl
      go_wp2_with fail
      rw [HW.out]
      first | rw [← hWs.out] | skip
      refine Calls.mono (Q0.fil hFk.out HK.out (by simp [lenL_cons,lenL_nil,lenL_app,lenL_brk];omega)) ?_
      rintro e v1 ⟨rfl,Q1⟩
      have z0_1:=Q1.cellN hNB hne z0
      have z1_1:=Q1.cellN hNB hne z1
      have z2_1:=Q1.cellN hNB hne z2
      have z3_1:=Q1.cellN hNB hne z3
      go_wp2_with fail
      refine Calls.mono (Q1.put1 ⟨#[58]⟩ (by decide) (by simp [lenL_cons,lenL_nil,lenL_app,lenL_brk];omega)) ?_
      rintro e v2 ⟨rfl,Q2⟩
      have z0_2:=Q2.cellN hNB hne z0
      have z1_2:=Q2.cellN hNB hne z1
      have z2_2:=Q2.cellN hNB hne z2
      have z3_2:=Q2.cellN hNB hne z3
      go_wp2_with fail
      refine Calls.mono (Q2.fil hFv.out HV.out (by simp [lenL_cons,lenL_nil,lenL_app,lenL_brk];omega)) ?_
      rintro e v3 ⟨rfl,Q3⟩
      go_wp2_with fail
      go_roundg (n+1 - (0+1))
      case measure=>omega
      case rel =>
       refine ⟨0+1,by omega,by omega,by go_num,?_⟩
       rw [hs.out,hmY.out]
       rw [← hS.out] at Q3
       have:=P.out.join kpW.out Q3
       have e1:keyT x (toksT tk)=toksT tk:=by unfold keyT;rw [if_neg hx1.out,if_pos hx2.out]
       rw [e1]
       simpa using this
    ·rw [if_neg (by simp [hx1,hx2])] at g0
     have hbr:(x.data.toList == [40])=false:=by simpa using hx1
     rw [hbr] at g2
     have hxe:(x.toList == [])=false:=by
      rw [ByteArray.toList_eq]
      have:=bsize x
      cases hh:x.data.toList with
      | nil=>rw [hh] at this;simp at this;omega
      | cons c l=>rfl
     have hx2:Hid (¬ x.data.toList=[34]):=hx2
     have hx1:Hid (¬ x.data.toList=[40]):=hx1
     rw [show keyT x (toksT tk)=[x.data.toList] by unfold keyT;rw [if_neg hx1.out,if_neg hx2.out]] at hbd
     by_cases h0:0 < i
     ·have h0':(0:Int) < (i:Int):=by omega
      rw [if_pos h0] at hbd
      simp only [lenL_cons,lenL_app,lenL_nil,lenL_brk,List.length_cons,List.length_nil,bsize] at hbd
      obtain ⟨W,hW⟩:∃ W,wr.alloc (.cells #[.string x,.iface T1 (.pointer (some ⟨q1,0,none⟩)),.bool false,.iface T3 (.pointer (some ⟨q3,0,none⟩))] 169)=W:=⟨_,rfl⟩
      have kW:Below wr.heap.size wr W:=by rw [← hW];exact below_alloc _ _
      have hcl:Cl W wr.heap.size [.string x,.iface T1 (.pointer (some ⟨q1,0,none⟩)),.bool false,.iface T3 (.pointer (some ⟨q3,0,none⟩))]:=by rw [← hW];exact Cl.start _ _ _
      have hNB:NoB W wr.heap.size:=by rw [← hW];exact noB_new _ _ _ (by decide)
      have Q0:PS W W wb S []:=PS.start (hpl.below kW)
      have HK:Aside (Rf (· < wb) W tk (.iface T1 (.pointer (some ⟨q1,0,none⟩)))):=rk.keep (fun _ h _=>h) kW.size (fun b _ hb=>kW.block b hb)
      have HV:Aside (Rf (· < wb) W tv (.iface T3 (.pointer (some ⟨q3,0,none⟩)))):=rv.keep (fun _ h _=>h) kW.size (fun b _ hb=>kW.block b hb)
      have HW:Hid (wr.alloc _=W):=hW
      have hWs:Hid (W.heap.size=wr.heap.size+1):=by show W.heap.size=_;rw [← hW];simp
      have hne:wr.heap.size≠wb:=by omega
      have kpW:Aside (KpW wb wr W):=⟨kW.mono (Nat.le_of_lt hwr),fun i o h _ _=>(kW.block i (Array.getElem?_eq_some_iff.1 h).1).trans h⟩
      have z0:W.cell? ⟨wr.heap.size,0,none⟩=some (.string x):=(hcl.cell 0).trans rfl
      have z1:W.cell? ⟨wr.heap.size,1,none⟩=some (.iface T1 (.pointer (some ⟨q1,0,none⟩))):=(hcl.cell 1).trans rfl
      have z2:W.cell? ⟨wr.heap.size,2,none⟩=some (.bool false):=(hcl.cell 2).trans rfl
      have z3:W.cell? ⟨wr.heap.size,3,none⟩=some (.iface T3 (.pointer (some ⟨q3,0,none⟩))):=(hcl.cell 3).trans rfl
      have zs:wr.heap.size < W.heap.size:=cell_lt z0
      clear hW hcl
      go_wp2_with fail
      rw [HW.out]
      first | rw [← hWs.out] | skip
      refine Calls.mono (Q0.put1 ⟨#[44]⟩ (by decide) (by simp [lenL_cons,lenL_nil,lenL_app,lenL_brk];omega)) ?_
      rintro e v1 ⟨rfl,Q1⟩
      have z0_1:=Q1.cellN hNB hne z0
      have z1_1:=Q1.cellN hNB hne z1
      have z2_1:=Q1.cellN hNB hne z2
      have z3_1:=Q1.cellN hNB hne z3
      go_wp2_with fail
      refine Calls.mono (Q1.put1 x hxne (by simp [lenL_cons,lenL_nil,lenL_app,lenL_brk];omega)) ?_
      rintro e v2 ⟨rfl,Q2⟩
      have z0_2:=Q2.cellN hNB hne z0
      have z1_2:=Q2.cellN hNB hne z1
      have z2_2:=Q2.cellN hNB hne z2
      have z3_2:=Q2.cellN hNB hne z3
      go_wp2_with fail
      refine Calls.mono (Q2.put1 ⟨#[58]⟩ (by decide) (by simp [lenL_cons,lenL_nil,lenL_app,lenL_brk];omega)) ?_
      rintro e v3 ⟨rfl,Q3⟩
      have z0_3:=Q3.cellN hNB hne z0
      have z1_3:=Q3.cellN hNB hne z1
      have z2_3:=Q3.cellN hNB hne z2
      have z3_3:=Q3.cellN hNB hne z3
      go_wp2_with fail
      refine Calls.mono (Q3.fil hFv.out HV.out (by simp [lenL_cons,lenL_nil,lenL_app,lenL_brk];omega)) ?_
      rintro e v4 ⟨rfl,Q4⟩
      go_wp2_with fail
      go_roundg (n+1 - (i+1))
      case measure=>omega
      case rel =>
       refine ⟨i+1,by omega,by omega,by go_num,?_⟩
       rw [hs.out,hmY.out]
       rw [← hS.out] at Q4
       have:=P.out.join kpW.out Q4
       have e1:keyT x (toksT tk)=[x.data.toList]:=by unfold keyT;rw [if_neg hx1.out,if_neg hx2.out]
       rw [e1]
       rw [if_pos h0]
       simpa using this
     ·rw [if_neg h0] at hbd
      simp only [lenL_cons,lenL_app,lenL_nil,lenL_brk,List.length_cons,List.length_nil,bsize] at hbd
      have hi00:i=0:=by omega
      subst hi00
      obtain ⟨W,hW⟩:∃ W,wr.alloc (.cells #[.string x,.iface T1 (.pointer (some ⟨q1,0,none⟩)),.bool false,.iface T3 (.pointer (some ⟨q3,0,none⟩))] 169)=W:=⟨_,rfl⟩
      have kW:Below wr.heap.size wr W:=by rw [← hW];exact below_alloc _ _
      have hcl:Cl W wr.heap.size [.string x,.iface T1 (.pointer (some ⟨q1,0,none⟩)),.bool false,.iface T3 (.pointer (some ⟨q3,0,none⟩))]:=by rw [← hW];exact Cl.start _ _ _
      have hNB:NoB W wr.heap.size:=by rw [← hW];exact noB_new _ _ _ (by decide)
      have Q0:PS W W wb S []:=PS.start (hpl.below kW)
      have HK:Aside (Rf (· < wb) W tk (.iface T1 (.pointer (some ⟨q1,0,none⟩)))):=rk.keep (fun _ h _=>h) kW.size (fun b _ hb=>kW.block b hb)
      have HV:Aside (Rf (· < wb) W tv (.iface T3 (.pointer (some ⟨q3,0,none⟩)))):=rv.keep (fun _ h _=>h) kW.size (fun b _ hb=>kW.block b hb)
      have HW:Hid (wr.alloc _=W):=hW
      have hWs:Hid (W.heap.size=wr.heap.size+1):=by show W.heap.size=_;rw [← hW];simp
      have hne:wr.heap.size≠wb:=by omega
      have kpW:Aside (KpW wb wr W):=⟨kW.mono (Nat.le_of_lt hwr),fun i o h _ _=>(kW.block i (Array.getElem?_eq_some_iff.1 h).1).trans h⟩
      have z0:W.cell? ⟨wr.heap.size,0,none⟩=some (.string x):=(hcl.cell 0).trans rfl
      have z1:W.cell? ⟨wr.heap.size,1,none⟩=some (.iface T1 (.pointer (some ⟨q1,0,none⟩))):=(hcl.cell 1).trans rfl
      have z2:W.cell? ⟨wr.heap.size,2,none⟩=some (.bool false):=(hcl.cell 2).trans rfl
      have z3:W.cell? ⟨wr.heap.size,3,none⟩=some (.iface T3 (.pointer (some ⟨q3,0,none⟩))):=(hcl.cell 3).trans rfl
      have zs:wr.heap.size < W.heap.size:=cell_lt z0
      clear hW hcl
      go_wp2_with fail
      rw [HW.out]
      first | rw [← hWs.out] | skip
      refine Calls.mono (Q0.put1 x hxne (by simp [lenL_cons,lenL_nil,lenL_app,lenL_brk];omega)) ?_
      rintro e v1 ⟨rfl,Q1⟩
      have z0_1:=Q1.cellN hNB hne z0
      have z1_1:=Q1.cellN hNB hne z1
      have z2_1:=Q1.cellN hNB hne z2
      have z3_1:=Q1.cellN hNB hne z3
      go_wp2_with fail
      refine Calls.mono (Q1.put1 ⟨#[58]⟩ (by decide) (by simp [lenL_cons,lenL_nil,lenL_app,lenL_brk];omega)) ?_
      rintro e v2 ⟨rfl,Q2⟩
      have z0_2:=Q2.cellN hNB hne z0
      have z1_2:=Q2.cellN hNB hne z1
      have z2_2:=Q2.cellN hNB hne z2
      have z3_2:=Q2.cellN hNB hne z3
      go_wp2_with fail
      refine Calls.mono (Q2.fil hFv.out HV.out (by simp [lenL_cons,lenL_nil,lenL_app,lenL_brk];omega)) ?_
      rintro e v3 ⟨rfl,Q3⟩
      go_wp2_with fail
      go_roundg (n+1 - (0+1))
      case measure=>omega
      case rel =>
       refine ⟨0+1,by omega,by omega,by go_num,?_⟩
       rw [hs.out,hmY.out]
       rw [← hS.out] at Q3
       have:=P.out.join kpW.out Q3
       have e1:keyT x (toksT tk)=[x.data.toList]:=by unfold keyT;rw [if_neg hx1.out,if_neg hx2.out]
       rw [e1]
       simpa using this
  ·have hi':¬ (i:Int) < (n:Int):=by omega
   have hin':Hid (i=n):=by show i=n;omega
   go_wp2_with fail
   refine Calls.mono (P0'.put1 ⟨#[125]⟩ (by decide) (by rw [hin'.out];simp [lenL_cons,lenL_nil,lenL_app];omega)) ?_
   rintro e w2 ⟨rfl,P2⟩
   go_wp2_with fail
   go_end0
   exact P2.finish (by rw [hin'.out];simp)
end
end Go.Proofs.Tryz
