import Derived.Test.YtndoeeampclfaaaGreatDoorWd4
set_option linter.all false
namespace Go.Proofs.Tryz
set_option maxHeartbeats 16000000
open Go.RowKit
set_option maxRecDepth 10000
theorem add_at (a j:Nat):(⟨a,0,none⟩:Addr).add j=⟨a,j,none⟩:=by
 unfold Addr.add
 split
 ·rename_i h0
  have:j=0:=by simpa using h0
  rw [this]
 ·simp
theorem oclone_ok {w:World}{a n c:Nat}{L:List El} (hrow:w.ownsRow 0 107 2 (.slice (some ⟨a,0,none⟩) n c) L.length (L.flatMap elC)) (hn0:0 < n) (hn:n≤10000) :
  Calls Tryz.prog 285 #[.slice (some ⟨a,0,none⟩) n c] w fun e w'=>∃ g cap,e = .returned (.slice (some ⟨g,0,none⟩) n cap)∧w'.ownsRow w.heap.size 107 2 (.slice (some ⟨g,0,none⟩) n cap) L.length (L.flatMap elC)∧Below w.heap.size w w':=by
 obtain ⟨i0,hi0,hz0,hz1,hz2⟩:=info_parts (show (Tryz.prog.info? 107).map (fun i=>(i.zero,i.size,i.bytes))=some (some (.agg #[.string ⟨#[]⟩,.nilIface]),2,32) by kernel_rfl)
 obtain ⟨hnL,hM,hc,hcm,_⟩:=owns_mem hrow
 have hal:=hM.lt
 subst hnL
 have hnil:∀ w,Sem.run Tryz.prog (binOp BinOp.eql 102 (.slice (some ⟨a,0,none⟩) L.length c) (.slice none 0 0)) w = .ok (.bool false) w:=fun w=>by kernel_rfl
 have hcell:∀ j v,(L.flatMap elC)[j]? = some v→w.cell? ⟨a,j,none⟩=some v:=fun j v hj=>by
  have hjl:=(List.getElem?_eq_some_iff.1 hj).1
  rw [els_len] at hjl
  rw [hrow.cellAt j (by omega)]
  exact hj
 have hone:∀ v∈L.flatMap elC,v.oneCell'=true:=fun v hv=>by
  obtain ⟨x,_,hx⟩:=List.mem_flatMap.1 hv
  simp only [elC,List.mem_cons,List.mem_nil_iff,or_false] at hx
  rcases hx with rfl | rfl <;> rfl
 go_enter Tryz.func285,Tryz.ntmps285
 have hown0:(w.alloc (.cells #[] 107)).ownsRow w.heap.size 107 2 (.slice (some ⟨w.heap.size,0,none⟩) 0 0) 0 []:=⟨rfl,.inr ⟨w.heap.size,0,#[],rfl,Nat.le_refl _,heap_new w _,by omega,by simp [maxLen],by simp,by simp⟩⟩
 go_wp2_with (refine wpList_append_lies _ (by rfl) _ _ _ (by rfl) w.heap.size 107 i0 _ 2 32 Tryz.underlying102 hi0 hz0 hz1 hz2 rfl (by omega) _ 0 [] (by rfl) hown0 ⟨a,0,none⟩ L.length c (L.flatMap elC) (by rfl) (els_len L) (fun j v hj=>by rw [add_at];exact ((below_alloc w _).cell (p:=⟨a,j,none⟩) hal).trans (hcell j v hj)) hone hn0 (by unfold maxLen;omega) (by omega) (by simp) (w.heap.size+1) (by simp) ?_;intro g1 cap1 w1 ow1 gr1 hat1 hlt1)
 go_ret
 have k1:Below w.heap.size w w1:=((Below.refl _ w).alloc (Nat.le_refl _) _).grown gr1 (by simp) (fun q hq=>(hown0.lt q hq).1)
 refine ⟨g1,cap1,?_,?_,k1⟩
 ·simp
 ·simpa using ow1
end Go.Proofs.Tryz
namespace Go.Proofs.Tryz
set_option maxHeartbeats 16000000
open Go.RowKit
set_option maxRecDepth 10000
theorem flat_set:∀ (L:List El) (q:Nat) {k:ByteArray}{x0 x:IV}{tx0 tx:Bys},L[q]? = some (k,x0,tx0)→(L.flatMap elC).set (q * 2+1) (iv x)=(L.set q (k,x,tx)).flatMap elC
 | [],q,_,_,_,_,_,h=>by simp at h
 | y :: L,0,k,x0,x,tx0,tx,h=>by
  simp only [List.getElem?_cons_zero,Option.some.injEq] at h
  subst h
  simp [elC]
 | y :: L,q+1,k,x0,x,tx0,tx,h=>by
  have ih:=flat_set (tx:=tx) L q (x:=x) (by simpa using h)
  rw [List.set_cons_succ,List.flatMap_cons,List.flatMap_cons,← ih,List.set_append_right _ _ (by simp [elC];omega)]
  congr 2
  simp [elC]
  omega
theorem owns_low {w:World}{N N' e s n:Nat}{v:Value}{xs:List Value} (h:w.ownsRow N e s v n xs) (hN:N'≤N):w.ownsRow N' e s v n xs:=by
 obtain ⟨hl,h | ⟨g,c,cur,e1,hg,r⟩⟩:=h
 ·exact ⟨hl,.inl h⟩
 ·exact ⟨hl,.inr ⟨g,c,cur,e1,Nat.le_trans hN hg,r⟩⟩
theorem owith_ok (hC:ComparesStr) {w:World}{a n c q T T0:Nat}{u u0:Value}{k:ByteArray}{tx tx0:Bys}{L:List El} (hrow:w.ownsRow 0 107 2 (.slice (some ⟨a,0,none⟩) n c) L.length (L.flatMap elC)) (hn:n≤10000) (hr:RiseE L) (hq:L[q]? = some (k,(T0,u0),tx0)) :
  Calls Tryz.prog 253 #[.slice (some ⟨a,0,none⟩) n c,.iface 100 (.string k),.iface T u] w fun e w'=>∃ g cap,e = .returned (.slice (some ⟨g,0,none⟩) n cap)∧w'.ownsRow w.heap.size 107 2 (.slice (some ⟨g,0,none⟩) n cap) L.length ((L.set q (k,(T,u),tx)).flatMap elC)∧Below w.heap.size w w':=by
 have m2:=hitVString
 obtain ⟨hnL,hM,hc,hcm,_⟩:=owns_mem hrow
 have hqn:q < n:=by rw [hnL];exact (List.getElem?_eq_some_iff.1 hq).1
 have z2:(q:Int) < (n:Int):=by omega
 have z3:(0:Int)≤(q:Int):=by omega
 have HF:Aside (Calls Tryz.prog 149 #[.slice (some ⟨a,0,none⟩) n c,.iface 100 (.string k)] w fun e w'=>e = .returned (.tuple #[.int .i64 q,.bool true])∧Below w.heap.size w w'):=ofind_ok hC hM hnL.symm (by omega) hr hq
 have HCL:Aside (∀ w1,Below w.heap.size w w1→Calls Tryz.prog 285 #[.slice (some ⟨a,0,none⟩) n c] w1 fun e w'=>∃ g cap,e = .returned (.slice (some ⟨g,0,none⟩) n cap)∧w'.ownsRow w1.heap.size 107 2 (.slice (some ⟨g,0,none⟩) n cap) L.length (L.flatMap elC)∧Below w1.heap.size w1 w'):=fun w1 k1=>oclone_ok (owns_same hrow (fun b hb=>k1.block b (hrow.lt b hb).2)) (by omega) hn
 have HQ:Aside (L[q]? = some (k,(T0,u0),tx0)):=hq
 have HNL:Hid (n=L.length):=hnL
 clear hrow hM hr hq hnL hc
 go_enter Tryz.func253,Tryz.ntmps253
 go_wp2_with fail
 refine Calls.mono HF.out ?_
 rintro e w1 ⟨rfl,k1⟩
 go_wp2_with fail
 refine Calls.mono (HCL.out w1 k1) ?_
 rintro e w2 ⟨g,cap,rfl,ow2,k2⟩
 have OW2:Aside (w2.ownsRow w1.heap.size 107 2 (.slice (some ⟨g,0,none⟩) n cap) L.length (L.flatMap elC)):=ow2
 obtain ⟨d0,d1,hgl,hcap⟩:w2.cell? ⟨g,q * 2+1,none⟩=some (.iface T0 u0)∧w2.frozen? ⟨g,q * 2+1,none⟩=false∧w1.heap.size≤g∧n≤cap:=by
  obtain ⟨_,hM2,hc2,_,hg2⟩:=owns_mem ow2
  exact ⟨(hM2.at HQ.out).2,hM2.free _,hg2,by have:=HNL.out;omega⟩
 clear ow2
 go_wp2_with fail
 go_ret
 obtain rfl:n=L.length:=HNL.out
 refine ⟨g,cap,rfl,?_,(k1.trans (k2.mono k1.size)).setCell (p:=⟨g,q * 2+1,none⟩) (Nat.le_trans k1.size hgl) _⟩
 have h3:=(OW2.out.stored (q * 2+1) (.iface T u)).1
 rw [show (Value.iface T u)=iv (T,u) from rfl,flat_set L q HQ.out] at h3
 exact owns_low h3 k1.size
end Go.Proofs.Tryz
namespace Go.Proofs.Tryz
set_option maxHeartbeats 16000000
open Go.RowKit
set_option maxRecDepth 10000
theorem settable_arr {w:World}{a n c i:Nat} (hi:i < n) (hn:n≤10000) :
  Calls Tryz.prog 205 #[.iface 86 (.slice (some ⟨a,0,none⟩) n c),.iface 98 (.int .i64 i)] w fun e w'=>e = .returned (.tuple #[.iface 86 (.slice (some ⟨a,0,none⟩) n c),.nilIface])∧Below w.heap.size w w':=by
 have m0:=missVNull;have m1:=hitVNumber;have m2:=missVString;have m3:=hitVArray;have m4:=missVObject;have m5:=missVBool
 have z2:¬ (10000:Int) < (i:Int):=by omega
 have z3:¬ (i:Int) < 0:=by omega
 go_enter Tryz.func205,Tryz.ntmps205
 go_wp2_with (first
  | (go_at_call 147;refine holds_arr.mono ?_;rintro e w1 ⟨rfl,k1⟩)
  | (go_at_call 148;refine (afind_ok hi (by omega)).mono ?_;rintro e w2 ⟨rfl,k2⟩;have k12:=(k1.alloc k1.size (.cells #[] 95)).trans (k2.mono (by simp;have:=k1.size;omega))))
 exact bodyPost_ret (v:=.tuple #[.iface 86 (.slice (some ⟨a,0,none⟩) n c),.nilIface]) (by simp [results,Tryz.results205,go_sem]) rfl ⟨rfl,k12⟩
theorem settable_obj {w:World}{r:Value}{k:ByteArray} :
  Calls Tryz.prog 205 #[.iface 102 r,.iface 100 (.string k)] w fun e w'=>e = .returned (.tuple #[.iface 102 r,.nilIface])∧Below w.heap.size w w':=by
 have m0:=missVNull;have m1:=missVNumber;have m2:=hitVString;have m3:=missVArray;have m4:=hitVObject;have m5:=missVBool
 go_enter Tryz.func205,Tryz.ntmps205
 go_wp2_with (go_at_call 147;refine holds_obj.mono ?_;rintro e w1 ⟨rfl,k1⟩)
 exact bodyPost_ret (v:=.tuple #[.iface 102 r,.nilIface]) (by simp [results,Tryz.results205,go_sem]) rfl ⟨rfl,k1.alloc k1.size _⟩
theorem settable_ok {w:World}{x s y:IV} (h:At1 w x s y):Calls Tryz.prog 205 #[iv x,iv s] w fun e w'=>e = .returned (.tuple #[iv x,.nilIface])∧Below w.heap.size w w':=by
 rcases h with ⟨a,n,c,i,xs,rfl,rfl,e3,e4,e5,e6⟩ | ⟨a,n,c,q,k,tx,L,rfl,rfl,e3,e4,e5,e6⟩
 ·exact settable_arr e3 e4
 ·exact settable_obj
end Go.Proofs.Tryz
namespace Go.Proofs.Tryz
set_option maxHeartbeats 16000000
open Go.RowKit
set_option maxRecDepth 10000
def WithV (w:World) (x s z y:IV):Prop :=
 (∃ (a n c i g c':Nat) (xs:List IV),x=(86,.slice (some ⟨a,0,none⟩) n c)∧s=(98,.int .i64 i)∧i < n∧n≤10000∧w.ownsRow 0 32 1 (.slice (some ⟨a,0,none⟩) n c) n (xs.map iv)∧y=(86,.slice (some ⟨g,0,none⟩) n c')∧w.ownsRow 0 32 1 (.slice (some ⟨g,0,none⟩) n c') n ((xs.set i z).map iv))∨
 (∃ (a n c q g c':Nat) (k:ByteArray) (x0:IV) (tx:Bys) (L:List El),x=(102,.slice (some ⟨a,0,none⟩) n c)∧s=(100,.string k)∧n≤10000∧RiseE L∧L[q]? = some (k,x0,tx)∧w.ownsRow 0 107 2 (.slice (some ⟨a,0,none⟩) n c) L.length (L.flatMap elC)∧y=(102,.slice (some ⟨g,0,none⟩) n c')∧w.ownsRow 0 107 2 (.slice (some ⟨g,0,none⟩) n c') L.length ((L.set q (k,z,tx)).flatMap elC))
theorem WithV.keep {w w':World} (h:KeptV w w') {x s z y:IV} (o:WithV w x s z y):WithV w' x s z y:=by
 rcases o with ⟨a,n,c,i,g,c',xs,e1,e2,e3,e4,e5,e6,e7⟩ | ⟨a,n,c,q,g,c',k,x0,tx,L,e1,e2,e3,e4,e5,e6,e7,e8⟩
 ·exact .inl ⟨a,n,c,i,g,c',xs,e1,e2,e3,e4,h.rowV e5,e6,h.rowV e7⟩
 ·exact .inr ⟨a,n,c,q,g,c',k,x0,tx,L,e1,e2,e3,e4,e5,h.rowM e6,e7,h.rowM e8⟩
def Put (N:Nat) (w:World):IV→List IV→IV→IV→Prop
 | _,[],z,y=>y=z
 | x,s :: ss,z,y=>∃ x1 y1,At1 w x s x1∧Put N w x1 ss z y1∧WithV w x s y1 y∧∀ g,y.2.ownBlock=some g→N≤g
theorem Put.keep {N:Nat}{w w':World} (h:KeptV w w'):∀ {ss:List IV}{x z y:IV},Put N w x ss z y→Put N w' x ss z y
 | [],_,_,_,o=>o
 | s :: ss,x,z,y,⟨x1,y1,h1,h2,h3,h4⟩=>⟨x1,y1,h1.keep h,Put.keep h h2,h3.keep h,h4⟩
theorem Put.low {N N':Nat}{w:World} (h:N'≤N):∀ {ss:List IV}{x z y:IV},Put N w x ss z y→Put N' w x ss z y
 | [],_,_,_,o=>o
 | s :: ss,x,z,y,⟨x1,y1,h1,h2,h3,h4⟩=>⟨x1,y1,h1,Put.low h h2,h3,fun g hg=>Nat.le_trans h (h4 g hg)⟩
theorem rise_set {L:List El} (h:RiseE L) {q:Nat}{k:ByteArray}{x0 z:IV}{tx tx':Bys} (hq:L[q]? = some (k,x0,tx)):RiseE (L.set q (k,z,tx')):=by
 have hql:=(List.getElem?_eq_some_iff.1 hq).1
 have hkey:∀ i (hi:i < (L.set q (k,z,tx')).length),elKey (L.set q (k,z,tx'))[i]=elKey (L[i]'(by simpa using hi)):=fun i hi=>by
  by_cases e:i=q
  ·subst e
   rw [List.getElem_set_self,(List.getElem?_eq_some_iff.1 hq).2]
   rfl
  ·rw [List.getElem_set_ne (by omega)]
 refine List.pairwise_iff_getElem.2 (fun i j hi hj hij=>?_)
 rw [hkey i hi,hkey j hj]
 exact List.pairwise_iff_getElem.1 h i j (by simpa using hi) (by simpa using hj) hij
theorem WithV.at {w:World}{x s z y:IV} (o:WithV w x s z y):At1 w y s z:=by
 rcases o with ⟨a,n,c,i,g,c',xs,rfl,rfl,e3,e4,e5,rfl,e7⟩ | ⟨a,n,c,q,g,c',k,x0,tx,L,rfl,rfl,e3,e4,e5,e6,rfl,e8⟩
 ·have hl:xs.length=n:=by have:=e5.1;simpa using this
  exact .inl ⟨g,n,c',i,xs.set i z,rfl,rfl,e3,e4,e7,List.getElem?_set_self (by omega)⟩
 ·have hql:=(List.getElem?_eq_some_iff.1 e5).1
  exact .inr ⟨g,n,c',q,k,tx,L.set q (k,z,tx),rfl,rfl,e3,rise_set e4 e5,by rw [List.length_set];exact e8,List.getElem?_set_self hql⟩
theorem put_get {N:Nat}{w:World}:∀ {ss:List IV}{x z y:IV},Put N w x ss z y→AtP w y ss z
 | [],_,_,_,o=>o
 | s :: ss,x,z,y,⟨x1,y1,h1,h2,h3,_⟩=>⟨y1,h3.at,put_get h2⟩
theorem iv_inj {x y:IV} (h:iv x=iv y):x=y:=by
 obtain ⟨T,u⟩:=x
 obtain ⟨T',u'⟩:=y
 simp only [iv,Value.iface.injEq] at h
 rw [h.1,h.2]
theorem map_iv_inj:∀ {l m:List IV},l.map iv=m.map iv→l=m
 | [],[],_=>rfl
 | [],_ :: _,h=>by simp at h
 | _ :: _,[],h=>by simp at h
 | x :: l,y :: m,h=>by
  simp only [List.map_cons,List.cons.injEq] at h
  rw [iv_inj h.1,map_iv_inj h.2]
theorem row_one {w:World}{N N' e s n m g c:Nat}{xs ys:List Value} (h:w.ownsRow N e s (.slice (some ⟨g,0,none⟩) n c) m xs) (k:w.ownsRow N' e s (.slice (some ⟨g,0,none⟩) n c) m ys):xs=ys:=by
 rcases h.2 with ⟨e,_⟩ | ⟨g1,c1,cur1,e1,_,hb1,_,_,_,ht1⟩
 ·cases e
 ·rcases k.2 with ⟨e,_⟩ | ⟨g2,c2,cur2,e2,_,hb2,_,_,_,ht2⟩
  ·cases e
  ·cases e1
   cases e2
   rw [hb1] at hb2
   cases hb2
   rw [← ht1,← ht2]
theorem elC_one:∀ {l m:List El},l.flatMap elC=m.flatMap elC→l.map (fun x=>(x.1,x.2.1))=m.map (fun x=>(x.1,x.2.1))
 | [],[],_=>rfl
 | [],_ :: _,h=>by simp [elC] at h
 | _ :: _,[],h=>by simp [elC] at h
 | x :: l,y :: m,h=>by
  simp only [List.flatMap_cons,elC,List.cons_append,List.nil_append,List.cons.injEq,Value.string.injEq] at h
  rw [List.map_cons,List.map_cons,h.1,iv_inj h.2.1,elC_one h.2.2]
end Go.Proofs.Tryz
namespace Go.Proofs.Tryz
set_option maxHeartbeats 16000000
open Go.RowKit
set_option maxRecDepth 10000
theorem At1.arr {w:World}{a n c i:Nat}{xs:List IV}{y:IV} (h:At1 w (86,.slice (some ⟨a,0,none⟩) n c) (98,.int .i64 i) y) (o:w.ownsRow 0 32 1 (.slice (some ⟨a,0,none⟩) n c) n (xs.map iv)):xs[i]? = some y:=by
 rcases h with ⟨a',n',c',i',xs',e1,e2,e3,e4,e5,e6⟩ | ⟨a',n',c',q,k,tx,L,e1,_⟩
 ·simp only [Prod.mk.injEq,true_and,Value.slice.injEq,Option.some.injEq,Addr.mk.injEq,and_true] at e1
  obtain ⟨rfl,rfl,rfl⟩:=e1
  simp only [Prod.mk.injEq,true_and,Value.int.injEq] at e2
  have:i=i':=by omega
  subst this
  rw [map_iv_inj (row_one o e5)]
  exact e6
 ·simp at e1
theorem At1.obj {w:World}{a n c q:Nat}{L:List El}{k:ByteArray}{x0 y:IV}{tx:Bys} (h:At1 w (102,.slice (some ⟨a,0,none⟩) n c) (100,.string k) y) (o:w.ownsRow 0 107 2 (.slice (some ⟨a,0,none⟩) n c) L.length (L.flatMap elC)) (hr:RiseE L) (hq:L[q]? = some (k,x0,tx)):x0=y:=by
 rcases h with ⟨a',n',c',i',xs',e1,_⟩ | ⟨a',n',c',q',k',tx',L',e1,e2,e3,e4,e5,e6⟩
 ·simp at e1
 ·simp only [Prod.mk.injEq,true_and,Value.slice.injEq,Option.some.injEq,Addr.mk.injEq,and_true] at e1
  obtain ⟨rfl,rfl,rfl⟩:=e1
  simp only [Prod.mk.injEq,true_and,Value.string.injEq] at e2
  subst e2
  obtain ⟨hn,_⟩:=owns_mem o
  obtain ⟨hn',_⟩:=owns_mem e5
  have hL:L.length=L'.length:=by omega
  rw [← hL] at e5
  have hm:=elC_one (row_one o e5)
  have h1:(L.map (fun x=>(x.1,x.2.1)))[q']? = some (k,y):=by rw [hm,List.getElem?_map,e6];rfl
  rw [List.getElem?_map] at h1
  cases hx:L[q']? with
  | none=>rw [hx] at h1;cases h1
  | some z =>
   obtain ⟨kz,yz,tz⟩:=z
   rw [hx] at h1
   simp only [Option.map_some,Option.some.injEq,Prod.mk.injEq] at h1
   obtain ⟨rfl,rfl⟩:=h1
   rcases Nat.lt_trichotomy q q' with hlt | rfl | hlt
   ·have h5:=klt_ne (rise_at hr hq hx hlt)
    exact (h5 rfl).elim
   ·rw [hq] at hx
    cases hx
    rfl
   ·have h5:=klt_ne (rise_at hr hx hq hlt)
    exact (h5 rfl).elim
theorem elC_of:∀ {l m:List El},l.map (fun x=>(x.1,x.2.1))=m.map (fun x=>(x.1,x.2.1))→l.flatMap elC=m.flatMap elC
 | [],[],_=>rfl
 | [],_ :: _,h=>by simp at h
 | _ :: _,[],h=>by simp at h
 | x :: l,y :: m,h=>by
  simp only [List.map_cons,List.cons.injEq,Prod.mk.injEq] at h
  rw [List.flatMap_cons,List.flatMap_cons,elC_of h.2,elC,elC,h.1.1,h.1.2]
theorem sum_set {α:Type} (f:α→Nat):∀ (l:List α) (i:Nat) {t t':α},l[i]? = some t→f t'=f t→((l.set i t').map f).sum=(l.map f).sum
 | [],i,_,_,h,_=>by simp at h
 | x :: l,0,t,t',h,e=>by
  simp only [List.getElem?_cons_zero,Option.some.injEq] at h
  subst h
  simp [e]
 | x :: l,i+1,t,t',h,e=>by
  have:=sum_set f l i (t:=t) (t':=t') (by simpa using h) e
  simp only [List.set_cons_succ,List.map_cons,List.sum_cons,this]
theorem put_same {N:Nat}{w:World}:∀ {ss:List IV}{d m:Nat}{x x' o y:IV},Eqv w d m x x'→AtP w x ss o→Put N w x ss o y→Eqv w d m y x'
 | [],d,m,x,x',o,y,h,ha,hp=>by
  have ha:x=o:=ha
  have hp:y=o:=hp
  rw [hp,← ha]
  exact h
 | s :: ss,d,m,x,x',o,y,h,⟨x1,a1,a2⟩,⟨x1',y1,b1,b2,b3,_⟩=>by
  rcases b3 with ⟨a,n,c,i,g,c',xs,rfl,rfl,e3,e4,e5,rfl,e7⟩ | ⟨a,n,c,q,g,c',k,x0,tx,L,rfl,rfl,e3,e4,e5,e6,rfl,e8⟩
  ·have i1:=a1.arr e5
   have i2:=b1.arr e5
   rw [i1] at i2
   cases i2
   have nleaf:¬ leafK (86,.slice (some ⟨a,0,none⟩) n c):=fun hl=>by
    rcases hl with e | ⟨_,e⟩ | ⟨_,_,_,e⟩ | ⟨_,e⟩ <;> simp at e
   cases d with
   | zero=>exact absurd h.2.2 nleaf
   | succ d =>
    rcases h with ⟨_,_,h⟩ | ⟨r,r',ts,f1,f2,o1,o2,ht,hs⟩ | ⟨r,r',ts,f1,_⟩
    ·exact absurd h nleaf
    ·simp only [Prod.mk.injEq,true_and] at f1
     subst f1
     have hln:ts.length=n:=by
      rcases o1.2 with ⟨e,_⟩ | ⟨_,_,_,e,_⟩
      ·cases e
      ·cases e;rfl
     rw [hln] at o1
     have hxs:xs=ts.map (·.1):=map_iv_inj (by
      rw [row_one e5 o1,List.map_map]
      rfl)
     subst hxs
     rw [List.getElem?_map] at i1
     cases hti:ts[i]? with
     | none=>rw [hti] at i1;cases i1
     | some t =>
      rw [hti] at i1
      simp only [Option.map_some,Option.some.injEq] at i1
      have hE:=put_same (ht t (List.mem_of_getElem? hti)) (i1.symm ▸ a2) (i1.symm ▸ b2)
      have hil:=(List.getElem?_eq_some_iff.1 hti).1
      refine .inr (.inl ⟨_,r',ts.set i (y1,t.2.1,t.2.2),rfl,f2,?_,?_,fun t' ht'=>?_,?_⟩)
      ·rw [List.length_set,hln,List.map_set]
       have:(ts.map fun t=>iv t.1).set i (iv y1)=((ts.map (·.1)).set i y1).map iv:=by rw [List.map_set,List.map_map];rfl
       rw [this]
       exact e7
      ·rw [List.length_set,List.map_set]
       have:(ts.map fun t=>iv t.2.1).set i (iv t.2.1)=ts.map fun t=>iv t.2.1:=by
        apply List.ext_getElem?
        intro j
        by_cases e:j=i
        ·subst e
         rw [List.getElem?_set_self (by simpa using hil),List.getElem?_map,hti];rfl
        ·rw [List.getElem?_set_ne (by omega)]
       rw [this]
       exact o2
      ·rcases List.mem_or_eq_of_mem_set ht' with hm | rfl
       ·exact ht t' hm
       ·exact hE
      ·rw [sum_set (fun x:IV×IV×Nat=>x.2.2) ts i (t':=(y1,t.2.1,t.2.2)) hti rfl]
       exact hs
    ·simp at f1
  ·have i1:=a1.obj e6 e4 e5
   have i2:=b1.obj e6 e4 e5
   subst i1
   subst i2
   have nleaf:¬ leafK (102,.slice (some ⟨a,0,none⟩) n c):=fun hl=>by
    rcases hl with e | ⟨_,e⟩ | ⟨_,_,_,e⟩ | ⟨_,e⟩ <;> simp at e
   cases d with
   | zero=>exact absurd h.2.2 nleaf
   | succ d =>
    rcases h with ⟨_,_,h⟩ | ⟨r,r',ts,f1,_⟩ | ⟨r,r',ts,f1,f2,o1,o2,ht,hs⟩
    ·exact absurd h nleaf
    ·simp at f1
    ·simp only [Prod.mk.injEq,true_and] at f1
     subst f1
     obtain ⟨hn,_⟩:=owns_mem e6
     obtain ⟨hn',_⟩:=owns_mem o1
     have hLt:(ts.map twL).length=L.length:=by omega
     have hts:ts.length=L.length:=by simpa using hLt
     rw [hLt] at o1
     have hm:=elC_one (row_one e6 o1)
     have h1:(ts.map twL).map (fun x:El=>(x.1,x.2.1))=L.map (fun x=>(x.1,x.2.1)):=hm.symm
     have hql:=(List.getElem?_eq_some_iff.1 e5).1
     obtain ⟨t,hti⟩:∃ t,ts[q]? = some t:=⟨_,List.getElem?_eq_getElem (by omega)⟩
     have h2:some (t.1,t.2.1)=some (k,x0):=by
      have:=congrArg (·[q]?) h1
      simp only [List.getElem?_map,hti,e5,Option.map_some] at this
      exact this
     simp only [Option.some.injEq,Prod.mk.injEq] at h2
     obtain ⟨hk,hx⟩:=h2
     have hE:=put_same (ht t (List.mem_of_getElem? hti)) (hx.symm ▸ a2) (hx.symm ▸ b2)
     have hR:(ts.set q (k,y1,t.2.2.1,t.2.2.2)).map twR=ts.map twR:=by
      rw [List.map_set]
      apply List.ext_getElem?
      intro j
      by_cases e:j=q
      ·subst e
       rw [List.getElem?_set_self (by rw [List.length_map];omega),List.getElem?_map,hti]
       simp [twR,hk]
      ·rw [List.getElem?_set_ne (by omega)]
     have hL:((ts.set q (k,y1,t.2.2.1,t.2.2.2)).map twL).flatMap elC=(L.set q (k,y1,tx)).flatMap elC:=by
      refine elC_of ?_
      rw [List.map_set,List.map_set,List.map_set,h1]
      rfl
     refine .inr (.inr ⟨_,r',ts.set q (k,y1,t.2.2.1,t.2.2.2),rfl,f2,?_,?_,fun t' ht'=>?_,?_⟩)
     ·rw [hL,List.length_map,List.length_set,hts]
      exact e8
     ·rw [hR]
      exact o2
     ·rcases List.mem_or_eq_of_mem_set ht' with hm2 | rfl
      ·exact ht t' hm2
      ·exact hE
     ·rw [sum_set (fun x:Tw=>x.2.2.2) ts q (t':=(k,y1,t.2.2.1,t.2.2.2)) hti rfl]
      exact hs
end Go.Proofs.Tryz
namespace Go.Proofs.Tryz
set_option maxHeartbeats 16000000
open Go.RowKit Go.Shelf
set_option maxRecDepth 100000
attribute [local go_sem] Oper.semAt_some
theorem back_in (n l b a o cc N:Nat) (xs:List IV) (J:Nat→World→Prop) (hN:xs.length=N) (hmax:N≤1000000)
  (hbox:∀ i W,J i W→W.cell? ⟨b,0,none⟩=some (.slice (some ⟨a,o,none⟩) N cc))
  (hel:∀ i W x,J (i+1) W→xs[i]? = some x→W.cell? ⟨a,o+i,none⟩=some (iv x))
  (h2:∀ i W x,J (i+1) W→xs[i]? = some x→YieldAt Fence.wide (n - 1) Tryz.prog l #[.int .i64 (i:Nat),iv x] W fun e W'=>e = .returned (.bool true)∧J i W')
  (W:World) (h0:J N W) :
  CallsIn Fence.wide n Tryz.prog 284 #[.func (.yield l) #[] #[],.pointer (some ⟨b,0,none⟩)] W fun e W'=>(∃ v,e = .returned v)∧J 0 W':=by
 have c0:=hbox _ _ h0
 refine callsIn_of_wp Tryz.func284 rfl trivial ?_ rfl
 simp only [Tryz.ntmps284,List.size_toArray,List.length_cons,List.length_nil,Nat.reduceAdd,Nat.reduceSub,Array.replicate_succ,Array.replicate_zero,List.push_toArray,List.append_toArray,List.nil_append,List.cons_append]
 gi_wp2
 gi_loopg [3] N (fun k v wr=>k≤N∧v = .int .i64 ((k:Int) - 1)∧J k wr)
 case atStart=>exact ⟨Nat.le_refl _,rfl,h0⟩
 case round =>
  obtain ⟨hk,rfl,hJ⟩:=hrel
  match gk,hk,hJ with
  | 0,hk,hJ =>
   gi_wp2
   go_end0
   exact ⟨⟨_,rfl⟩,hJ⟩
  | k+1,hk,hJ =>
   have e1:((k+1:Nat):Int) - 1=(k:Int):=by omega
   rw [e1]
   have z0:(0:Int)≤(k:Int):=by omega
   have z1:(k:Int) < (N:Int):=by omega
   obtain ⟨⟨T,u⟩,hx⟩:∃ x,xs[k]? = some x:=⟨_,List.getElem?_eq_getElem (by omega)⟩
   have f0:=hbox _ _ hJ
   have f1:=hel _ _ _ hJ hx
   have hy:=h2 _ _ _ hJ hx
   simp only [iv] at f1 hy
   obtain ⟨fn,tmps,assign,body,hy,hR⟩:=hy
   gi_wp2
   refine ⟨fun h=>(by cases h),hR.mono ?_⟩
   rintro e W2 ⟨rfl,hJ2⟩
   gi_wp2
   gi_roundg k
   case measure=>omega
   case rel=>exact ⟨by omega,rfl,hJ2⟩
theorem range_held {n:Nat}{P:Program}{g:Operand}{ps:Array Tmp}{assign body:Code}{Q:Exit→Act→World→Prop}{a:Act}{w:World}{gf:Nat}{held:Value} (h1:1≤n) (hg:a.eval g = .func (.func gf) #[] #[held]) (eg:∀ args w,(callFunc gf args).run P w = .ok (.enter gf args) w)
  (h:∀ fn,CallsIn Fence.wide (n - 1) P gf #[.func (.yield (w.heap.size+1)) #[] #[],held] ((w.alloc (.deferred (some []))).alloc (.loop { state:=.ready,pending:=none,fn,tmps:=a.tmps,params:=ps,assign,body,defers:=w.heap.size }))
   (rangePost Fence.wide n P (w.heap.size+1) Q { a with defers:=[{ target:=.collected w.heap.size,args:=#[] }] ++ a.defers })) :
  (Code.rangeFunc g ps assign body).wpIn Fence.wide n P Q a w:=by
 refine wpIn_rangeFunc ?_
 intro fn _
 refine ⟨w.heap.size+1,[{ target:=.collected w.heap.size,args:=#[] }],_,{ target:=.fn (.func gf) #[held],args:=#[.func (.yield (w.heap.size+1)) #[] #[]] },(w.alloc (.deferred (some []))).alloc (.loop { state:=.ready,pending:=none,fn,tmps:=a.tmps,params:=ps,assign,body,defers:=w.heap.size }),gf,
  #[.func (.yield (w.heap.size+1)) #[] #[],held],(w.alloc (.deferred (some []))).alloc (.loop { state:=.ready,pending:=none,fn,tmps:=a.tmps,params:=ps,assign,body,defers:=w.heap.size }),run_enterLoop_outer _ _ _ _ _,?_,?_,?_,fun _=>h1,h fn⟩
 ·simp only [resolve,hg]
  simp [go_sem]
 ·intro f' hf';trivial
 ·simp [invoke,go_sem,eg]
end Go.Proofs.Tryz
namespace Go.Proofs.Tryz
set_option maxHeartbeats 16000000
open Go.RowKit Go.Shelf
set_option maxRecDepth 100000
theorem with_arr {w:World}{a n c i:Nat}{xs:List IV}{z:IV} (hi:i < n) (hn:n≤10000) (o:w.ownsRow 0 32 1 (.slice (some ⟨a,0,none⟩) n c) n (xs.map iv)) :
  Calls Tryz.prog 252 #[.slice (some ⟨a,0,none⟩) n c,.iface 98 (.int .i64 i),iv z] w fun e w'=>∃ g,e = .returned (.slice (some ⟨g,0,none⟩) n n)∧w.heap.size≤g∧WithV w' (86,.slice (some ⟨a,0,none⟩) n c) (98,.int .i64 i) z (86,.slice (some ⟨g,0,none⟩) n n)∧Below w.heap.size w w':=by
 obtain ⟨T,u⟩:=z
 refine (awith_ok o hi hn).mono ?_
 rintro e w' ⟨g,rfl,hg,ow,k⟩
 exact ⟨g,rfl,hg,.inl ⟨a,n,c,i,g,n,xs,rfl,rfl,hi,hn,(KeptV.of_below k).rowV o,rfl,owns_zero ow⟩,k⟩
theorem with_obj (hC:ComparesStr) {w:World}{a n c q:Nat}{k:ByteArray}{x0 z:IV}{tx:Bys}{L:List El} (hn:n≤10000) (hr:RiseE L) (hq:L[q]? = some (k,x0,tx)) (o:w.ownsRow 0 107 2 (.slice (some ⟨a,0,none⟩) n c) L.length (L.flatMap elC)) :
  Calls Tryz.prog 253 #[.slice (some ⟨a,0,none⟩) n c,.iface 100 (.string k),iv z] w fun e w'=>∃ g c',e = .returned (.slice (some ⟨g,0,none⟩) n c')∧w.heap.size≤g∧WithV w' (102,.slice (some ⟨a,0,none⟩) n c) (100,.string k) z (102,.slice (some ⟨g,0,none⟩) n c')∧Below w.heap.size w w':=by
 obtain ⟨T,u⟩:=z
 obtain ⟨T0,u0⟩:=x0
 refine (owith_ok hC (tx:=tx) o hn hr hq).mono ?_
 rintro e w' ⟨g,c',rfl,ow,kk⟩
 exact ⟨g,c',rfl,(ow.lt g rfl).1,.inr ⟨a,n,c,q,g,c',k,(T0,u0),tx,L,rfl,rfl,hn,hr,hq,(KeptV.of_below kk).rowM o,rfl,owns_zero ow⟩,kk⟩
theorem backward_ok (p:Option Addr) (n c:Nat) (w:World):Calls Tryz.prog 251 #[.slice p n c] w fun e w'=>e = .returned (.func (.func 284) #[] #[.pointer (some ⟨w.heap.size,0,none⟩)])∧w'=w.alloc (.cells #[.slice p n c] 85):=by
 go_enter Tryz.func251,Tryz.ntmps251
 go_wp2
 go_ret
 exact ⟨rfl,rfl⟩
def mask (b:Nat) (W:World):World:=W.putObj b (.deferred none)
theorem mask_other {b k:Nat}{W:World} (h:k≠b):(mask b W).heap[k]? = W.heap[k]?:=World.putObj_heap_other h
theorem mask_cells {b k:Nat}{W:World}{c:Array Value}{T:Nat}{fz:Nat×Nat} (hb:b < W.heap.size) (h:(mask b W).heap[k]? = some (.cells c T fz)):k≠b:=fun e=>by
 subst e
 unfold mask at h
 rw [World.putObj_heap_same hb] at h
 cases h
theorem mask_kept {b:Nat}{W:World} (hb:b < W.heap.size):KeptV (mask b W) W:=fun k c fz h=>by
 have:k≠b:=by rcases h with h | h <;> exact mask_cells hb h
 exact (mask_other this).symm
theorem mask_move {b:Nat}{W W':World} (hb:b < W.heap.size) (h:∀ k,k < W.heap.size→k≠b→(∃ c T fz,W.heap[k]? = some (.cells c T fz)∧(T=32∨T=107))→W'.heap[k]? = W.heap[k]?):KeptV (mask b W) (mask b W'):=fun k c fz e=>by
 have hne:k≠b:=by rcases e with e | e <;> exact mask_cells hb e
 have e2:W.heap[k]? = some (.cells c 32 fz)∨W.heap[k]? = some (.cells c 107 fz):=by
  rw [mask_other hne] at e
  exact e
 rw [mask_other hne,mask_other hne]
 refine h k (by rcases e2 with e2 | e2 <;> exact lt_of_block e2) hne ?_
 rcases e2 with e2 | e2
 ·exact ⟨_,_,_,e2,.inl rfl⟩
 ·exact ⟨_,_,_,e2,.inr rfl⟩
end Go.Proofs.Tryz
