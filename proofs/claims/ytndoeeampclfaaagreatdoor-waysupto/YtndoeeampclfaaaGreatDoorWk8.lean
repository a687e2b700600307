import Derived.Test.YtndoeeampclfaaaGreatDoorWk7
import Derived.Test.YtndoeeampclfaaaGreatDoorWd4
set_option linter.all false
namespace Go.Proofs.Tryz
set_option maxHeartbeats 16000000
open Go.RowKit
set_option maxRecDepth 100000
def nm1:Tr→ByteArray×Int
 | .done _=>(e0,0)
 | .ask _ kind k=>((payOf (k 0)).s,if kind=15 then 1 else 2)
def defNames:Tr→Nat→List (ByteArray×Int)
 | _,0=>[]
 | .done _,_+1=>[]
 | .ask s kind k,n+1=>nm1 (.ask s kind k) :: defNames (k 2) n
def headOf:Tr→Nat×ByteArray×ByteArray×Tr
 | .done _=>(0,e0,e0,Tr.no)
 | .ask _ kind k=>(kind,(payOf (k 0)).s,(payOf (k 0)).q,k 1)
def sMap:ByteArray:=⟨#[109,97,112]⟩
def sF:ByteArray:=⟨#[102]⟩
def mapBody:Tr:=.collect (.bin (.each .ident) ⟨#[124]⟩ (.call0 sF 20))
theorem defs_head:(readAs fDefs).map headOf=some (15,sMap,sF,mapBody):=by kernel_rfl
def sOthers:List (ByteArray×Int):=[(⟨#[108,97,115,116]⟩,1),(⟨#[105,115,118,97,108,105,100]⟩,1),(⟨#[119,104,105,108,101]⟩,2),(⟨#[114,101,112,101,97,116]⟩,1),(⟨#[117,110,116,105,108]⟩,2),(⟨#[114,101,99,117,114,115,101]⟩,1),(⟨#[115,101,108,101,99,116]⟩,1)]
theorem defs_names:(readAs fDefs).map (fun t=>(defNames t 8).tail.reverse)=some sOthers:=by kernel_rfl
def ChainOn (p:Nat→Prop) (w:World) (base:Option Addr):List (ByteArray×Int)→Option Addr→Prop
 | [],kn=>kn=base
 | e :: es,kn=>∃ (b db:Nat) (around:Option Addr),kn=some ⟨b,0,none⟩∧p b∧KnB w b 2 e.1 e.2 .nilIface (.pointer (some ⟨db,0,none⟩)) .nilIface (.pointer none) (.pointer around)∧ChainOn p w base es around
theorem ChainOn.move {p:Nat→Prop}{w w':World}{base:Option Addr} (hs:SameOn (fun k=>p k∧k < w.heap.size) w w'):∀ {es:List (ByteArray×Int)}{kn:Option Addr},ChainOn p w base es kn→ChainOn p w' base es kn
 | [],_,h=>h
 | e :: es,kn,⟨b,db,around,h1,h2,h3,h4⟩=>⟨b,db,around,h1,h2,h3.same (hs b ⟨h2,h3.lt⟩),ChainOn.move hs h4⟩
def MapB (p:Nat→Prop) (w:World) (mb:Nat):Prop:=p mb∧∃ (db pd po pc:Nat) (x:Value),KnB w mb 2 sMap 1 .nilIface (.pointer (some ⟨db,0,none⟩)) .nilIface (.pointer none) (.pointer none)∧p db∧p pd∧w.cell? ⟨db,1,none⟩=some (.slice (some ⟨pd,po,none⟩) 1 pc)∧w.cell? ⟨pd,po,none⟩=some (.string sF)∧w.cell? ⟨db,2,none⟩=some x∧Rep p w x mapBody
theorem MapB.upon {n:Nat}{w w':World}{mb:Nat} (h:MapB (n≤·) w mb) (k:Below w.heap.size w w'):MapB (n≤·) w' mb:=by
 obtain ⟨h1,db,pd,po,pc,x,h2,h3,h4,h5,h6,h7,h8⟩:=h
 exact ⟨h1,db,pd,po,pc,x,h2.same (k.block _ h2.lt),h3,h4,(k.cell (lt_cell h5)).trans h5,(k.cell (lt_cell h6)).trans h6,(k.cell (lt_cell h7)).trans h7,h8.upon k⟩
theorem withDef_ok2 {w:World}{kn:Option Addr}{b d o n c:Nat}{name:ByteArray} (c0:w.cell? ⟨b,0,none⟩=some (.string name)) (c1:w.cell? ⟨b,1,none⟩=some (.slice (some ⟨d,o,none⟩) n c)) :
  Calls Tryz.prog 42 #[.pointer kn,.pointer (some ⟨b,0,none⟩)] w fun e w'=>∃ nb,e = .returned (.pointer (some ⟨nb,0,none⟩))∧w.heap.size≤nb∧KnB w' nb 2 name n .nilIface (.pointer (some ⟨b,0,none⟩)) .nilIface (.pointer none) (.pointer kn)∧Below w.heap.size w w':=by
 go_enter Tryz.func42,Tryz.ntmps42
 go_wp2
 go_region_held3 (fun w'=>w'.cell? ⟨b,0,none⟩=some (.string name)∧w'.cell? ⟨b,1,none⟩=some (.slice (some ⟨d,o,none⟩) n c)) (go_keep) (fail)
 all_goals
  go_wp2
  go_ret
  exact ⟨w.heap.size,rfl,Nat.le_refl _,heap_new w.drew _,(Below.refl w.heap.size w).drew.alloc (Nat.le_refl _) _⟩
theorem chain_step2 {p:Nat→Prop}{w:World}{v:Value}{t:Tr}{n:Nat} (h:Rep p w v t) (hc:chainB t (n+1)=true) :
  ∃ b d o m c x t',v = .iface 120 (.pointer (some ⟨b,0,none⟩))∧w.cell? ⟨b,0,none⟩=some (.string (nm1 t).1)∧w.cell? ⟨b,1,none⟩=some (.slice (some ⟨d,o,none⟩) m c)∧w.cell? ⟨b,3,none⟩=some x∧Rep p w x t'∧chainB t' n=true∧(nm1 t).2=(m:Nat)∧defNames t (n+1)=nm1 t :: defNames t' n:=by
 cases t with
 | done y=>cases hc
 | ask s0 kind k =>
  match kind,h,hc with
  | 15,h,hc=>obtain ⟨b,d,o,c,x,y,rfl,a,a',c0,c1,c2,c3,c4,r1,r2⟩:=h;exact ⟨_,_,_,_,_,_,_,rfl,c0,c1,c4,r2,hc,rfl,rfl⟩
  | 16,h,hc=>obtain ⟨b,d,o,c,x,y,rfl,a,a',c0,c1,c2,c2',c3,c4,r1,r2⟩:=h;exact ⟨_,_,_,_,_,_,_,rfl,c0,c1,c4,r2,hc,rfl,rfl⟩
  | 0,_,hc=>cases hc
  | 1,_,hc=>cases hc
  | 2,_,hc=>cases hc
  | 3,_,hc=>cases hc
  | 4,_,hc=>cases hc
  | 5,_,hc=>cases hc
  | 6,_,hc=>cases hc
  | 7,_,hc=>cases hc
  | 8,_,hc=>cases hc
  | 9,_,hc=>cases hc
  | 10,_,hc=>cases hc
  | 11,_,hc=>cases hc
  | 12,_,hc=>cases hc
  | 13,_,hc=>cases hc
  | 14,_,hc=>cases hc
  | 17,_,hc=>cases hc
  | 18,_,hc=>cases hc
  | _+19,h,_=>exact h.elim
theorem head_rep {p:Nat→Prop}{w:World}{v:Value}{t:Tr} (h:Rep p w v t) (hh:headOf t=(15,sMap,sF,mapBody)):∃ b pd po pc x,v = .iface 120 (.pointer (some ⟨b,0,none⟩))∧p b∧p pd∧w.cell? ⟨b,0,none⟩=some (.string sMap)∧w.cell? ⟨b,1,none⟩=some (.slice (some ⟨pd,po,none⟩) 1 pc)∧w.cell? ⟨pd,po,none⟩=some (.string sF)∧w.cell? ⟨b,2,none⟩=some x∧Rep p w x mapBody:=by
 cases t with
 | done y=>exact h.elim
 | ask s0 kind k =>
  simp only [headOf,Prod.mk.injEq] at hh
  obtain ⟨rfl,h1,h2,h3⟩:=hh
  obtain ⟨b,d,o,c,x,y,rfl,a,a',c0,c1,c2,c3,c4,r1,r2⟩:=h
  rw [h1] at c0
  rw [h2] at c2
  rw [h3] at r1
  exact ⟨b,d,o,c,x,rfl,a,a',c0,c1,c2,c3,r1⟩
def GivenC (p:Nat→Prop) (w:World) (kn:Option Addr):Prop:=∃ mb,ChainOn p w (some ⟨mb,0,none⟩) sOthers kn∧MapB p w mb
theorem given_ok2 (hI:ParsesInt) (w:World) (hS:SignsIn w):Calls Tryz.prog 21 #[] w fun e w'=>∃ kn,e = .returned (.pointer kn)∧Below w.heap.size w w'∧GivenC (w.heap.size≤·) w' kn:=by
 obtain ⟨t,ht,hc⟩:=defs_chain
 have hR:=readAs_ok hI ht w (of_decide_eq_true (by kernel_rfl)) hS
 have hH:headOf t=(15,sMap,sF,mapBody):=by
  have:=defs_head
  rw [ht] at this
  exact Option.some.inj this
 have hNm:(defNames t 8).tail.reverse=sOthers:=by
  have:=defs_names
  rw [ht] at this
  exact Option.some.inj this
 have HNm:Hid ((defNames t 8).tail.reverse=sOthers):=hNm
 have HH:Hid (headOf t=(15,sMap,sF,mapBody)):=hH
 clear hNm hH
 have hD:=hitDef
 have hM:=missDef
 go_enter Tryz.func21,Tryz.ntmps21
 go_wp2_with (go_at_call 9;refine hR.mono ?_;rintro e w1 ⟨T,b,rfl,k1,r1⟩)
 go_loopg [1,2] 8 (fun k v tv wr=>∃ kn tr,v = .pointer kn∧Rep (w.heap.size≤·) wr tv tr∧chainB tr k=true∧Below w.heap.size w wr∧Aside ((k=8∧tr=t∧kn=none)∨∃ mb es,ChainOn (w.heap.size≤·) wr (some ⟨mb,0,none⟩) es kn∧MapB (w.heap.size≤·) wr mb∧es.reverse ++ defNames tr k=(defNames t 8).tail))
 case atStart=>exact ⟨none,t,rfl,r1,hc,k1,.inl ⟨rfl,rfl,rfl⟩⟩
 case round =>
  obtain ⟨kn,tr,rfl,hr,hch,hb,HR⟩:=hrel
  match gk,hch,HR with
  | 0,hch,HR =>
   obtain ⟨b',rfl⟩:=chain_end hr hch
   go_wp2_with fail
   go_ret
   refine ⟨kn,rfl,hb,?_⟩
   rcases HR.out with ⟨h0,_⟩ | ⟨mb,es,h1,h2,h3⟩
   ·cases h0
   ·have:es=sOthers:=by
     rw [← HNm.out,← h3]
     simp [defNames]
    subst this
    exact ⟨mb,h1,h2⟩
  | k+1,hch,HR =>
   obtain ⟨b',d,o,m,c,x,t',rfl,c0,c1,c3,r3,hch',hm,hdn⟩:=chain_step2 hr hch
   have hlt:=cell_lt c3
   obtain ⟨T3,b3,rfl⟩:=r3.shape
   have HDN:Hid (defNames tr (k+1)=nm1 tr :: defNames t' k):=hdn
   have HM:Hid ((nm1 tr).2=(m:Nat)):=hm
   have HRR:Aside (Rep (w.heap.size≤·) wr (.iface 120 (.pointer (some ⟨b',0,none⟩))) tr):=hr
   clear hdn hm hr
   obtain ⟨N1,hN1⟩:∃ N1,(nm1 tr).1=N1:=⟨_,rfl⟩
   rw [hN1] at c0
   have HN1:Hid ((nm1 tr).1=N1):=hN1
   clear hN1
   go_wp2_with (go_at_call 42;refine (withDef_ok2 c0 c1).mono ?_;rintro e w2 ⟨nb,rfl,hnb,hkn,k2⟩;have c3':=(k2.cell (p:=⟨b',3,none⟩) hlt).trans c3)
   go_roundg k
   case measure=>omega
   case rel =>
    have hnb':w.heap.size≤nb:=Nat.le_trans hb.size hnb
    refine ⟨_,t',rfl,r3.upon k2,hch',hb.trans (k2.mono hb.size),.inr ?_⟩
    rcases HR.out with ⟨h0,h1,h2⟩ | ⟨mb,es,h1,h2,h3⟩
    ·have hk7:k=7:=by omega
     subst hk7
     subst h1
     subst h2
     obtain ⟨b5,pd,po,pc,x5,e5,q1,q2,q3,q4,q5,q6,q7⟩:=head_rep HRR.out HH.out
     cases e5
     have e6:N1=sMap:=by rw [c0] at q3;simpa using q3
     have e7:m=1:=by
      rw [c1] at q4
      simp only [Option.some.injEq,Value.slice.injEq] at q4
      exact q4.2.1
     subst e6
     subst e7
     refine ⟨nb,[],rfl,⟨hnb',b',pd,po,pc,x5,hkn,q1,q2,(k2.cell (lt_cell q4)).trans q4,(k2.cell (lt_cell q5)).trans q5,(k2.cell (lt_cell q6)).trans q6,q7.upon k2⟩,?_⟩
     rw [HDN.out]
     rfl
    ·refine ⟨mb,(N1,(m:Int)) :: es,⟨nb,b',kn,rfl,hnb',hkn,h1.move (fun j hj=>k2.block j hj.2)⟩,h2.upon k2,?_⟩
     rw [← h3,HDN.out,← HN1.out,← HM.out]
     simp
end Go.Proofs.Tryz
namespace Go.Proofs.Tryz
set_option maxHeartbeats 16000000
open Go.RowKit
set_option maxRecDepth 10000
structure Fc where
 lv:Value
 rv:Value
 ts:List (IV×IV×Nat)
def Fc.cells (e:Fc):List Value:=[e.lv,e.rv]
def tsN (ts:List (IV×IV×Nat)):Nat:=(ts.map (·.2.2)).sum
def FcOk (w:World) (e:Fc):Prop:=Sl w e.lv (e.ts.map (·.1))∧Sl w e.rv (e.ts.map (·.2.1))∧∀ t∈e.ts,∃ d,Eqv w d t.2.2 t.1 t.2.1
theorem FcOk.keep {w w':World} (h:KeptV w w') {e:Fc} (o:FcOk w e):FcOk w' e :=
 ⟨o.1.keep h,o.2.1.keep h,fun t ht=>by obtain ⟨d,hd⟩:=o.2.2 t ht;exact ⟨d,hd.keep h⟩⟩
def stN (stk:List Fc):Nat:=(stk.map (fun e=>tsN e.ts)).sum
structure CmpS (w0 w:World) (v:Value) (stk:List Fc):Prop where
 row:w.ownsRow w0.heap.size 351 2 v stk.length (stk.flatMap Fc.cells)
 ok:∀ e∈stk,FcOk w e
 below:Below w0.heap.size w0 w
theorem fc_len (stk:List Fc):(stk.flatMap Fc.cells).length=stk.length * 2:=by
 induction stk with
 | nil=>rfl
 | cons e l ih=>rw [List.flatMap_cons,List.length_append,ih,List.length_cons];simp [Fc.cells];omega
theorem CmpS.move {w0 w w':World}{v:Value}{stk:List Fc} (h:CmpS w0 w v stk) (k:Below w.heap.size w w'):CmpS w0 w' v stk :=
 ⟨owns_same h.row (fun b hb=>k.block b (h.row.lt b hb).2),fun e he=>(h.ok e he).keep (KeptV.of_below k),h.below.trans (k.mono h.below.size)⟩
theorem topFc {w:World}{B:Nat}{v:Value}{lo:List Fc}{e:Fc} (ow:w.ownsRow B 351 2 v (lo ++ [e]).length ((lo ++ [e]).flatMap Fc.cells)):∃ g cap,v = .slice (some ⟨g,0,none⟩) (lo.length+1) cap∧B≤g∧lo.length+1≤cap∧cap≤9223372036854775807∧w.cell? ⟨g,lo.length * 2,none⟩=some e.lv∧w.cell? ⟨g,lo.length * 2+1,none⟩=some e.rv∧(∀ q,w.frozen? ⟨g,q,none⟩=false)∧g < w.heap.size:=by
 rw [List.length_append,List.length_singleton] at ow
 rcases ow.2 with ⟨_,h0⟩ | ⟨g,cap,cur,e1,hg,hb,hn,hm,hs,ht⟩
 ·omega
 ·have hc:∀ i v,e.cells[i]? = some v→w.cell? ⟨g,lo.length * 2+i,none⟩=some v:=fun i v hi=>by
   have hi2:i < 2:=by have:=(List.getElem?_eq_some_iff.1 hi).1;simpa [Fc.cells] using this
   have h2:cur.toList[lo.length * 2+i]? = some v:=by
    rw [← List.getElem?_take_of_lt (show lo.length * 2+i < (lo.length+1) * 2 by omega),ht,List.flatMap_append,List.getElem?_append_right (by rw [fc_len];omega),fc_len,Nat.add_sub_cancel_left]
    simpa using hi
   exact cells_cell hb (by simpa using h2)
  exact ⟨g,cap,e1,hg,hn,by simpa [maxLen] using hm,hc 0 _ rfl,hc 1 _ rfl,fun q=>cells_free hb,lt_of_block hb⟩
theorem popFc {w:World}{B g cap:Nat}{lo:List Fc}{e:Fc} (h:w.ownsRow B 351 2 (.slice (some ⟨g,0,none⟩) (lo.length+1) cap) (lo ++ [e]).length ((lo ++ [e]).flatMap Fc.cells)):w.ownsRow B 351 2 (.slice (some ⟨g,0,none⟩) lo.length cap) lo.length (lo.flatMap Fc.cells):=by
 rw [List.length_append,List.length_singleton] at h
 obtain ⟨hl,h⟩:=h
 refine ⟨by rw [fc_len],.inr ?_⟩
 rcases h with ⟨e1,_⟩ | ⟨g',cap',cur,e1,hg,hb,hn,hm,hs,ht⟩
 ·cases e1
 ·cases e1
  refine ⟨g,cap,cur,rfl,hg,hb,by omega,hm,hs,?_⟩
  have:=congrArg (List.take (lo.length * 2)) ht
  rw [List.take_take,Nat.min_eq_left (by omega),List.flatMap_append,List.take_append_of_le_length (by rw [fc_len];omega),List.take_of_length_le (l:=lo.flatMap Fc.cells) (by rw [fc_len];omega)] at this
  exact this
theorem Sl.tail {w:World}{a o d M:Nat}{c:Array Value}{x:IV}{xs:List IV} (hb:w.heap[a]? = some (.cells c 32 (0,0))) (hx:∀ i y,(x :: xs)[i]? = some y→c[o+i]? = some (iv y)) (hM:(x :: xs).length=M) (hd:M≤d) (hm:d≤9223372036854775807) (p:Option Addr) (hp:p=some ⟨a,o+1,none⟩∨d - 1=0):Sl w (.slice p (M - 1) (d - 1)) xs:=by
 rw [List.length_cons] at hM
 refine ⟨p,d - 1,by rw [← hM,Nat.add_sub_cancel],by omega,by omega,?_⟩
 rcases hp with hp | hp
 ·refine .inr ⟨a,o+1,c,hp,hb,fun i y hy=>?_⟩
  have:=hx (i+1) y (by simpa using hy)
  rw [show o+1+i=o+(i+1) by omega]
  exact this
 ·exact .inl (List.eq_nil_of_length_eq_zero (by omega))
theorem CmpS.took {w0 wr:World}{g cap q:Nat}{lo:List Fc}{e:Fc}{t:IV×IV×Nat}{ts:List (IV×IV×Nat)}{nl nr:Value} (h:CmpS w0 wr (.slice (some ⟨g,0,none⟩) (lo.length+1) cap) (lo ++ [e])) (ht:e.ts=t :: ts) (hl:Sl wr nl (ts.map (·.1))) (hr:Sl wr nr (ts.map (·.2.1))) :
  CmpS w0 (((wr.drewN q).setCell ⟨g,lo.length * 2,none⟩ nl).setCell ⟨g,lo.length * 2+1,none⟩ nr) (.slice (some ⟨g,0,none⟩) (lo.length+1) cap) (lo ++ [⟨nl,nr,ts⟩])∧KeptV wr (((wr.drewN q).setCell ⟨g,lo.length * 2,none⟩ nl).setCell ⟨g,lo.length * 2+1,none⟩ nr):=by
 have hgB:=(h.row.lt g rfl).1
 obtain ⟨cg,fg,hcg⟩:=own_kind h.row g rfl
 have hk:KeptV wr (((wr.drewN q).setCell ⟨g,lo.length * 2,none⟩ nl).setCell ⟨g,lo.length * 2+1,none⟩ nr):=fun b c fz hb=>by
  have hne:b≠g:=fun e=>by
   subst e
   rcases hb with hb | hb <;> rw [hcg] at hb <;> simp at hb
  rw [Below.heap_setCell _ _ _ _ (by simpa using hne),Below.heap_setCell _ _ _ _ (by simpa using hne)]
  rfl
 refine ⟨⟨?_,fun x hx=>?_,?_⟩,hk⟩
 ·have hrow:=h.row
  rw [List.length_append,List.length_singleton] at hrow ⊢
  have h1:(wr.drewN q).ownsRow w0.heap.size 351 2 (.slice (some ⟨g,0,none⟩) (lo.length+1) cap) (lo.length+1) ((lo ++ [e]).flatMap Fc.cells):=owns_same hrow (fun _ _=>rfl)
  have h2:=((h1.stored (lo.length * 2) nl).1.stored (lo.length * 2+1) nr).1
  have e1:(((lo ++ [e]).flatMap Fc.cells).set (lo.length * 2) nl).set (lo.length * 2+1) nr=(lo ++ [(⟨nl,nr,ts⟩:Fc)]).flatMap Fc.cells:=by
   rw [List.flatMap_append,List.flatMap_append,List.set_append_right _ _ (by rw [fc_len];omega),fc_len,Nat.sub_self,List.set_append_right _ _ (by rw [fc_len];omega),fc_len,Nat.add_sub_cancel_left]
   simp [Fc.cells]
  rw [e1] at h2
  exact h2
 ·rcases List.mem_append.1 hx with hx | hx
  ·exact (h.ok x (by simp [hx])).keep hk
  ·rw [List.mem_singleton.1 hx]
   refine ⟨hl.keep hk,hr.keep hk,fun s hs=>?_⟩
   obtain ⟨d,hd⟩:=(h.ok e (by simp)).2.2 s (by rw [ht];simp [show s∈ts from hs])
   exact ⟨d,hd.keep hk⟩
 ·exact ((h.below.trans (belowD _ _ q)).setCell (p:=⟨g,lo.length * 2,none⟩) hgB _).setCell (p:=⟨g,lo.length * 2+1,none⟩) hgB _
theorem Compare_same (hC:ComparesStr) {w:World}{d n:Nat}{x y:IV} (h:Eqv w d n x y) (hn:n≤1000000) :
  Calls Tryz.prog 223 #[iv x,iv y] w fun e w'=>e = .returned (.int .i64 0)∧Below w.heap.size w w':=by
 obtain ⟨i0,hi0,hz0,hz1,hz2⟩:=info_parts (show (Tryz.prog.info? 351).map (fun i=>(i.zero,i.size,i.bytes))=some (some (.agg #[.slice none 0 0,.slice none 0 0]),2,48) by kernel_rfl)
 have H:Aside _:=h
 clear h
 obtain ⟨T,u⟩:=x
 obtain ⟨T',u'⟩:=y
 simp only [iv]
 go_enter Tryz.func223,Tryz.ntmps223
 go_wp2_with fail
 go_step3
 go_wp2_with fail
 go_step3
 go_wp2_with fail
 go_loopg [0,1,5] n (fun k v0 v1 v5 wr=>∃ (T T':Nat) (u u':Value) (d m:Nat) (stk:List Fc),v0 = .iface T u∧v1 = .iface T' u'∧m+stN stk≤k∧stk.length+k≤n∧Aside (Eqv wr d m (T,u) (T',u'))∧Aside (CmpS w wr v5 stk))
 case atStart=>exact ⟨T,T',u,u',d,n,[],rfl,rfl,by simp [stN],by simp,H,World.ownsRow_nil _ _ _ _,by simp,Below.refl _ _⟩
 case round =>
  obtain ⟨T,T',u,u',d,m,stk,rfl,rfl,hk,hkn,HE,HC⟩:=hrel
  obtain ⟨sp,sc,rfl⟩:∃ sp sc,u5=Value.slice sp stk.length sc:=by
   rcases HC.out.row.2 with ⟨e,h0⟩ | ⟨_,_,_,e,_⟩
   ·exact ⟨none,0,by rw [e,h0]⟩
   ·exact ⟨_,_,e⟩
  obtain ⟨ho,ts,hs,hl,hE,hpL,hpR⟩:=eq_step hC HE.out (by omega)
  match gk,hk,hkn with
  | 0,hk,hkn=>omega
  | K+1,hk,hkn =>
   have HO:Aside _:=ho
   have HPL:Aside _:=hpL
   have HPR:Aside _:=hpR
   have HEE:Aside _:=hE
   clear ho hpL hpR hE
   go_wp2_with fail
   refine Calls.mono HO.out ?_
   rintro e w1 ⟨rfl,k1⟩
   go_wp2_with fail
   refine Calls.mono (HPL.out w1 k1) ?_
   rintro e w2 ⟨lv,rfl,k2,sl2⟩
   have k12:=k1.trans (k2.mono k1.size)
   go_wp2_with fail
   refine Calls.mono (HPR.out w2 k12) ?_
   rintro e w3 ⟨rv,rfl,k3,sr3⟩
   have k13:=k12.trans (k3.mono k12.size)
   have CS3:Aside (CmpS w w3 (.slice sp stk.length sc) stk):=HC.out.move k13
   have hF3:FcOk w3 ⟨lv,rv,ts⟩:=⟨sl2.keep (KeptV.of_below k3),sr3,fun t ht=>⟨d,(HEE.out t ht).keep (KeptV.of_below k13)⟩⟩
   have HF3:Aside (FcOk w3 ⟨lv,rv,ts⟩):=hF3
   obtain ⟨p1,c1,rfl,_⟩:=sl2
   obtain ⟨p2,c2,rfl,_⟩:=sr3
   rw [List.length_map,List.length_map]
   clear hF3
   have push:∀ g4 cap4 w4,w4.ownsRow w.heap.size 351 2 (.slice (some ⟨g4,0,none⟩) (stk.length+1) cap4) (stk.length+1) (stk.flatMap Fc.cells ++ [.slice p1 ts.length c1,.slice p2 ts.length c2])→(w3.alloc (.cells #[.slice p1 ts.length c1,.slice p2 ts.length c2] 351)).grownBy w4 (Value.slice sp stk.length sc).ownBlock→CmpS w w4 (.slice (some ⟨g4,0,none⟩) (stk.length+1) cap4) (stk ++ [⟨.slice p1 ts.length c1,.slice p2 ts.length c2,ts⟩]):=fun g4 cap4 w4 ow4 gr4=>by
    have hrow:=CS3.out.row
    have hle:=CS3.out.below.size
    have hok:KeptV w3 w4:=KeptV.of_others (T:=351) (((Lib.OthersKept.refl _ _ w3).alloc _).grown gr4 (own_kind (hrow.alloc _))) (by decide) (by decide)
    refine ⟨?_,fun e he=>?_,(CS3.out.below.alloc (by omega) _).grown gr4 (by simp;omega) (fun q hq=>(hrow.lt q hq).1)⟩
    ·rw [List.length_append,List.length_singleton,List.flatMap_append]
     exact ow4
    ·rcases List.mem_append.1 he with he | he
     ·exact (CS3.out.ok e he).keep hok
     ·rw [List.mem_singleton.1 he]
      have:=HF3.out.keep hok
      simpa only [List.length_map] using this
   have PUSH:Aside _:=push
   have HROW:Aside (w3.ownsRow w.heap.size 351 2 (.slice sp stk.length sc) stk.length (stk.flatMap Fc.cells)):=CS3.out.row
   have hle3:=CS3.out.below.size
   clear push
   by_cases hm0:ts=[]
   case' pos =>
    subst hm0
    go_wp2_with fail
    obtain ⟨stk1,HC1,hlen1,hsum1⟩:∃ stk1,Aside (CmpS w w3 (.slice sp stk.length sc) stk1)∧stk1.length≤stk.length+1∧stN stk1≤K:=⟨stk,CS3,by omega,by simp at hs;omega⟩
   case' neg =>
    have hm1:0 < ts.length:=List.length_pos_iff.2 hm0
    have hz3:(0:Int) < (ts.length:Int)+(ts.length:Int):=by omega
    go_wp2_with (refine wpList_append_lies _ (by rfl) _ _ _ (by rfl) w.heap.size 351 i0 _ 2 48 Tryz.underlying348 hi0 hz0 hz1 hz2 rfl (by omega) (.slice sp stk.length sc) stk.length (stk.flatMap Fc.cells) (by rfl) (HROW.out.alloc _) ⟨w3.heap.size,0,none⟩ 1 1 [.slice p1 ts.length c1,.slice p2 ts.length c2] (by rfl) (by rfl) (World.news_of_block (cs:=#[.slice p1 ts.length c1,.slice p2 ts.length c2]) (t:=351) (fr:=(0,0)) (heap_new w3 _)) (by simp [Value.oneCell']) (by omega) (by unfold maxLen;omega) (by omega) (by simp;omega) (w3.heap.size+1) (by simp) ?_;intro g4 cap4 w4 ow4 gr4 hat4 hlt4;have CS4:Aside (CmpS w w4 (.slice (some ⟨g4,0,none⟩) (stk.length+1) cap4) (stk ++ [⟨.slice p1 ts.length c1,.slice p2 ts.length c2,ts⟩])):=PUSH.out g4 cap4 w4 ow4 gr4;clear ow4)
    obtain ⟨stk1,HC1,hlen1,hsum1⟩:∃ stk1,Aside (CmpS w w4 (.slice (some ⟨g4,0,none⟩) (stk.length+1) cap4) stk1)∧stk1.length≤stk.length+1∧stN stk1≤K:=⟨_,CS4,by simp,by simp [stN,tsN] at hk hs ⊢;omega⟩
   all_goals
    go_loopg [5] stk1.length (fun kk v5 wi=>∃ stk2:List Fc,stk2.length≤kk∧stk2.length≤stk.length+1∧stN stk2≤K∧Aside (CmpS w wi v5 stk2))
    case atStart=>exact ⟨stk1,Nat.le_refl _,hlen1,hsum1,HC1⟩
    case round =>
     clear HC1 CS3 HF3 PUSH HROW HO HPL HPR HEE HE HC
     obtain ⟨stk2,h1,h2,h3,HC2⟩:=hrel
     by_cases he:stk2=[]
     ·subst he
      have hv:=HC2.out.row
      obtain ⟨sp2,sc2,rfl⟩:∃ sp sc,u5=Value.slice sp 0 sc:=by
       rcases hv.2 with ⟨e,h0⟩ | ⟨_,_,_,e,_⟩
       ·exact ⟨none,0,e⟩
       ·exact ⟨_,_,e⟩
      clear hv
      go_wp2_with fail
      simp only [Exit.noGoto]
      exact bodyPost_ret (v:=.int .i64 0) (by simp [results,Tryz.results223,go_sem]) rfl ⟨rfl,HC2.out.below⟩
     ·obtain ⟨lo,e,rfl⟩:∃ lo e,stk2=lo ++ [e]:=⟨stk2.dropLast,stk2.getLast he,(List.dropLast_concat_getLast he).symm⟩
      have hrow:=HC2.out.row
      obtain ⟨g,cap,rfl,hgB,hcap,hcm,e0,e1,hfz,hgl⟩:=topFc hrow
      have hfe:=HC2.out.ok e (by simp)
      obtain ⟨q1,d1,hq1,hq1c,hq1m,hq1x⟩:=hfe.1
      obtain ⟨q2,d2,hq2,hq2c,hq2m,hq2x⟩:=hfe.2.1
      rw [List.length_map] at hq1 hq2 hq1c hq2c
      rw [hq1] at e0
      rw [hq2] at e1
      have hpop:=popFc hrow
      clear hrow
      cases hts:e.ts with
      | nil =>
       rw [hts,List.length_nil] at e0 e1
       have HPOP:Aside (wr.ownsRow w.heap.size 351 2 (.slice (some ⟨g,0,none⟩) lo.length cap) lo.length (lo.flatMap Fc.cells)):=hpop
       have z2:lo.length≤2000000:=by rw [List.length_append,List.length_singleton] at h2;omega
       have HH:Hid _:=And.intro h1 (And.intro h2 h3)
       clear hpop hfe hq1 hq2 hq1c hq2c hq1m hq2m hq1x hq2x h1 h2 h3
       go_wp2_with fail
       go_region_with ((go_at_call 265;refine (cmpInt_id _ _).mono ?_;rintro e w9 ⟨rfl,hw9⟩;subst hw9))
       all_goals
        go_wp2_with fail
        have hh:=HH.out
        rw [List.length_append,List.length_singleton] at hh
        go_roundg (gk - 1)
        case measure=>omega
        case rel=>exact ⟨lo,by omega,by omega,by have h9:=hh.2.2;simp [stN] at h9 ⊢;omega,World.ownsRow.drew HPOP.out,fun e' he'=>FcOk.keep (w:=wr) (w':=wr.drew) (fun _ _ _ _=>rfl) (HC2.out.ok e' (by simp [he'])),HC2.out.below.trans (belowD _ _ 1)⟩
      | cons t ts' =>
       obtain ⟨⟨A,au⟩,⟨A',au'⟩,tn⟩:=t
       have z2:lo.length≤2000000:=by rw [List.length_append,List.length_singleton] at h2;omega
       rw [hts] at hq1x hq2x
       rcases hq1x with hq1x | ⟨a1,o1,cc1,rfl,hb1,hx1⟩
       ·simp at hq1x
       rcases hq2x with hq2x | ⟨a2,o2,cc2,rfl,hb2,hx2⟩
       ·simp at hq2x
       have f1:wr.cell? ⟨a1,o1,none⟩=some (.iface A au):=cells_cell hb1 (by simpa [iv] using hx1 0 _ rfl)
       have f2:wr.cell? ⟨a2,o2,none⟩=some (.iface A' au'):=cells_cell hb2 (by simpa [iv] using hx2 0 _ rfl)
       have z3:(0:Int) < ((e.ts.length:Nat):Int):=by rw [hts];simp
       obtain ⟨M,hM⟩:∃ M,e.ts.length=M:=⟨_,rfl⟩
       rw [hM] at e0 e1 z3 hq1c hq2c
       have hl1:∀ p,(p=some ⟨a1,o1+1,none⟩∨d1 - 1=0)→Sl wr (.slice p (M - 1) (d1 - 1)) (ts'.map (·.1)):=fun p hp=>Sl.tail (x:=(A,au)) hb1 hx1 (by rw [← hM,hts];simp) hq1c hq1m p hp
       have hl2:∀ p,(p=some ⟨a2,o2+1,none⟩∨d2 - 1=0)→Sl wr (.slice p (M - 1) (d2 - 1)) (ts'.map (·.2.1)):=fun p hp=>Sl.tail (x:=(A',au')) hb2 hx2 (by rw [← hM,hts];simp) hq2c hq2m p hp
       obtain ⟨dd,hdd⟩:=hfe.2.2 ((A,au),(A',au'),tn) (by rw [hts];simp)
       have HDD:Aside (Eqv wr dd tn (A,au) (A',au')):=hdd
       have HTOOK:Aside (∀ q nl nr,Sl wr nl (ts'.map (·.1))→Sl wr nr (ts'.map (·.2.1))→CmpS w (((wr.drewN q).setCell ⟨g,lo.length * 2,none⟩ nl).setCell ⟨g,lo.length * 2+1,none⟩ nr) (.slice (some ⟨g,0,none⟩) (lo.length+1) cap) (lo ++ [⟨nl,nr,ts'⟩])∧KeptV wr (((wr.drewN q).setCell ⟨g,lo.length * 2,none⟩ nl).setCell ⟨g,lo.length * 2+1,none⟩ nr)):=fun q nl nr h5 h6=>HC2.out.took hts h5 h6
       have HL1:Aside (∀ p,p=some ⟨a1,o1+1,none⟩→Sl wr (.slice p (M - 1) (d1 - 1)) (ts'.map (·.1))):=fun p hp=>hl1 p (.inl hp)
       have HL2:Aside (∀ p,p=some ⟨a2,o2+1,none⟩→Sl wr (.slice p (M - 1) (d2 - 1)) (ts'.map (·.2.1))):=fun p hp=>hl2 p (.inl hp)
       have HZ1:Aside (∀ p,d1 - 1=0→Sl wr (.slice p (M - 1) 0) (ts'.map (·.1))):=fun p hp=>by have:=hl1 p (.inr hp);rw [hp] at this;exact this
       have HZ2:Aside (∀ p,d2 - 1=0→Sl wr (.slice p (M - 1) 0) (ts'.map (·.2.1))):=fun p hp=>by have:=hl2 p (.inr hp);rw [hp] at this;exact this
       have HH:Hid ((∀ nl nr,tn+stN (lo ++ [⟨nl,nr,ts'⟩])≤K)∧lo.length+1≤stk.length+1):=by
        refine ⟨fun nl nr=>?_,by simpa using h2⟩
        have h9:=h3
        simp [stN,tsN,hts] at h9 ⊢
        omega
       clear hl1 hl2 hdd hfe hpop hb1 hb2 hx1 hx2 h1 h2 h3 hq1 hq2
       go_wp2_with fail
       go_quiet (fail)
       go_wp2_with fail
       have mixed:Tryz.prog.follows Departure.mixedOrders=true:=by kernel_rfl
       go_big_region_o
       go_wp2_with fail
       ·go_roundg K
        case measure=>omega
        case rel =>
         have hk:=HTOOK.out (nq+1) (.slice (some ⟨a1,o1,none⟩) (M - 1) 0) (.slice (some ⟨a2,o2,none⟩) (M - 1) 0) (HZ1.out _ (by omega)) (HZ2.out _ (by omega))
         exact ⟨A,A',au,au',dd,tn,lo ++ [(⟨.slice (some ⟨a1,o1,none⟩) (M - 1) 0,.slice (some ⟨a2,o2,none⟩) (M - 1) 0,ts'⟩:Fc)],rfl,rfl,HH.out.1 _ _,by have:=HH.out.2;rw [List.length_append,List.length_singleton];omega,HDD.out.keep hk.2,hk.1⟩
       ·go_roundg K
        case measure=>omega
        case rel =>
         have hk:=HTOOK.out (nq+1) (.slice (some ⟨a1,o1,none⟩) (M - 1) 0) (.slice (some ⟨a2,o2+1,none⟩) (M - 1) (d2 - 1)) (HZ1.out _ (by omega)) (HL2.out _ rfl)
         exact ⟨A,A',au,au',dd,tn,lo ++ [(⟨.slice (some ⟨a1,o1,none⟩) (M - 1) 0,.slice (some ⟨a2,o2+1,none⟩) (M - 1) (d2 - 1),ts'⟩:Fc)],rfl,rfl,HH.out.1 _ _,by have:=HH.out.2;rw [List.length_append,List.length_singleton];omega,HDD.out.keep hk.2,hk.1⟩
       ·go_roundg K
        case measure=>omega
        case rel =>
         have hk:=HTOOK.out (nq+1) (.slice (some ⟨a1,o1+1,none⟩) (M - 1) (d1 - 1)) (.slice (some ⟨a2,o2,none⟩) (M - 1) 0) (HL1.out _ rfl) (HZ2.out _ (by omega))
         exact ⟨A,A',au,au',dd,tn,lo ++ [(⟨.slice (some ⟨a1,o1+1,none⟩) (M - 1) (d1 - 1),.slice (some ⟨a2,o2,none⟩) (M - 1) 0,ts'⟩:Fc)],rfl,rfl,HH.out.1 _ _,by have:=HH.out.2;rw [List.length_append,List.length_singleton];omega,HDD.out.keep hk.2,hk.1⟩
       ·go_roundg K
        case measure=>omega
        case rel =>
         have hk:=HTOOK.out (nq+1) (.slice (some ⟨a1,o1+1,none⟩) (M - 1) (d1 - 1)) (.slice (some ⟨a2,o2+1,none⟩) (M - 1) (d2 - 1)) (HL1.out _ rfl) (HL2.out _ rfl)
         exact ⟨A,A',au,au',dd,tn,lo ++ [(⟨.slice (some ⟨a1,o1+1,none⟩) (M - 1) (d1 - 1),.slice (some ⟨a2,o2+1,none⟩) (M - 1) (d2 - 1),ts'⟩:Fc)],rfl,rfl,HH.out.1 _ _,by have:=HH.out.2;rw [List.length_append,List.length_singleton];omega,HDD.out.keep hk.2,hk.1⟩
end Go.Proofs.Tryz
namespace Go.Proofs.Tryz
set_option maxHeartbeats 16000000
open Go.RowKit
set_option maxRecDepth 10000
theorem withParam_ok {w:World}{k wh:Option Addr}{name:ByteArray}{T b:Nat}:Calls Tryz.prog 151 #[.pointer k,.string name,.iface T (.pointer (some ⟨b,0,none⟩)),.pointer wh] w fun e w'=>∃ nb,e = .returned (.pointer (some ⟨nb,0,none⟩))∧Below w.heap.size w w'∧w.heap.size≤nb∧KnB w' nb 2 name 0 .nilIface (.pointer none) (.iface T (.pointer (some ⟨b,0,none⟩))) (.pointer wh) (.pointer k):=by
 go_enter Tryz.func151,Tryz.ntmps151
 go_wp2_with fail
 go_ret
 exact ⟨w.heap.size,rfl,below_alloc w _,Nat.le_refl _,heap_new w _⟩
theorem call_param {C:Nat→Prop}{Ls:List SP}{w:World}{kn kw:Option Addr}{d use ps:Int}{cb T b na c:Nat}{p:Option Addr}{name:ByteArray}{val ar:Value}{s:Sp} (hk:KnB w cb use name ps val (.pointer none) (.iface T (.pointer (some ⟨b,0,none⟩))) (.pointer kw) ar)
  (h:∀ w1,Below w.heap.size w w1→Calls Tryz.prog 22 #[.agg #[.pointer kw,.int .i64 d],.iface T (.pointer (some ⟨b,0,none⟩)),spv s] w1 (MadeC Ls C w1)) :
  Calls Tryz.prog 110 #[.agg #[.pointer kn,.int .i64 d],.pointer (some ⟨cb,0,none⟩),.slice p na c,spv s] w (MadeC Ls C w):=by
 obtain ⟨k0,k1,k2,k3,k4,k5,k6,k7⟩:=hk.facts
 have kl:=hk.lt
 obtain ⟨⟨Tx,ux⟩,q⟩:=s
 simp only [spv,iv] at h ⊢
 clear hk
 go_enter Tryz.func110,Tryz.ntmps110
 go_wp2_with fail
 obtain ⟨wA,hA,kW,wp,wx,wl⟩:=two_boxes w kn d ((Tx,ux),q)
 simp only [iv] at hA
 obtain ⟨x0,x1,_,_,x4⟩:=wx.facts
 have a1:=wp.c1
 have a2:=(kW.cell (p:=⟨cb,6,none⟩) kl).trans k6
 have a3:=(kW.cell (p:=⟨cb,5,none⟩) kl).trans k5
 have s0:=six ((Below.refl _ wA).drew) a1 a2 a3 x0 x1 x0
 rw [← hA]
 clear hA
 go_region_held3 (fun w'=>w'.cell? ⟨w.heap.size,1,none⟩=some (.int .i64 d)∧w'.cell? ⟨cb,6,none⟩=some (.pointer kw)∧w'.cell? ⟨cb,5,none⟩=some (.iface T (.pointer (some ⟨b,0,none⟩)))∧w'.cell? ⟨w.heap.size+1,0,none⟩=some (.iface Tx ux)∧w'.cell? ⟨w.heap.size+1,1,none⟩=some (.pointer q)∧w'.cell? ⟨w.heap.size+1,0,none⟩=some (.iface Tx ux)) (first | exact s0 | exact e4 | go_keep)
  (first | (go_at_call 22;refine (h _ kW.drew).mono ?_;rintro e w1 ⟨k1,K,cap,rfl,hM⟩;have kX:Below wA.heap.size wA w1:=(Below.refl _ _).drew.trans (k1.mono (by simp));have e4:=six kX a1 a2 a3 x0 x1 x0))
 all_goals
  go_wp2_with fail
  go_ret
  exact MadeC.under ⟨k1,K,cap,rfl,hM⟩ kW.drew
theorem call_def1 {C:Nat→Prop}{Ls:List SP}{w:World}{kn:Option Addr}{d use ps:Int}{cb db pd po pc ad ao ac T b T1 b1:Nat}{name dname pname:ByteArray}{val hd wh ar:Value}{s:Sp} (hk:KnB w cb use name ps val (.pointer (some ⟨db,0,none⟩)) hd wh ar) (c1:w.cell? ⟨db,1,none⟩=some (.slice (some ⟨pd,po,none⟩) 1 pc)) (c2:w.cell? ⟨pd,po,none⟩=some (.string pname)) (c3:w.cell? ⟨db,2,none⟩=some (.iface T (.pointer (some ⟨b,0,none⟩)))) (c4:w.cell? ⟨ad,ao,none⟩=some (.iface T1 (.pointer (some ⟨b1,0,none⟩)))) (hd0:0 < d) (hd1:d≤1000)
  (h:∀ w1 nb,Below w.heap.size w w1→w.heap.size≤nb→KnB w1 nb 2 pname 0 .nilIface (.pointer none) (.iface T1 (.pointer (some ⟨b1,0,none⟩))) (.pointer kn) (.pointer (some ⟨cb,0,none⟩))→Calls Tryz.prog 22 #[.agg #[.pointer (some ⟨nb,0,none⟩),.int .i64 (d - 1)],.iface T (.pointer (some ⟨b,0,none⟩)),spv s] w1 (MadeC Ls (fun k=>C k∨w.heap.size≤k) w1)) :
  Calls Tryz.prog 110 #[.agg #[.pointer kn,.int .i64 d],.pointer (some ⟨cb,0,none⟩),.slice (some ⟨ad,ao,none⟩) 1 ac,spv s] w (MadeC Ls C w):=by
 obtain ⟨k0,k1,k2,k3,k4,k5,k6,k7⟩:=hk.facts
 have kl:=hk.lt
 have l1:=lt_cell c1
 have l2:=lt_cell c2
 have l4:=lt_cell c4
 have z0:¬ d=0:=by omega
 have z1:(d == 0)=false:=by simpa using z0
 have z2:IntKind.i64.wrap (d - 1)=d - 1:=by rw [IntKind.wrap_i64];omega
 obtain ⟨⟨Tx,ux⟩,q⟩:=s
 simp only [spv,iv] at h ⊢
 clear hk
 go_enter Tryz.func110,Tryz.ntmps110
 go_wp2_with fail
 refine wp_loop_rounds 2 ?_
 rw [rounds_succ]
 go_wp2_with fail
 obtain ⟨wA,hA,kW,wp,wx,wl⟩:=two_boxes w kn d ((Tx,ux),q)
 simp only [iv] at hA
 obtain ⟨x0,x1,_,_,x4⟩:=wx.facts
 have a0:=wp.c0
 have a1:=wp.c1
 have a2:=(kW.cell (p:=⟨cb,4,none⟩) kl).trans k4
 have a3:=(kW.cell (p:=⟨db,2,none⟩) l1).trans c3
 have a4:=(kW.cell (p:=⟨ad,ao,none⟩) l4).trans c4
 have s0:=eight ((Below.refl _ wA).drew) a0 a1 a2 a3 a4 x0 x1 x0
 rw [← hA]
 clear hA
 have HP:∀ w1,Calls Tryz.prog 151 #[.pointer (some ⟨cb,0,none⟩),.string pname,.iface T1 (.pointer (some ⟨b1,0,none⟩)),.pointer kn] w1 fun e w'=>∃ nb,e = .returned (.pointer (some ⟨nb,0,none⟩))∧Below w1.heap.size w1 w'∧w1.heap.size≤nb∧KnB w' nb 2 pname 0 .nilIface (.pointer none) (.iface T1 (.pointer (some ⟨b1,0,none⟩))) (.pointer kn) (.pointer (some ⟨cb,0,none⟩)):=fun w1=>withParam_ok
 go_region_held3 (fun w'=>w'.cell? ⟨w.heap.size,0,none⟩=some (.pointer kn)∧w'.cell? ⟨w.heap.size,1,none⟩=some (.int .i64 d)∧w'.cell? ⟨cb,4,none⟩=some (.pointer (some ⟨db,0,none⟩))∧w'.cell? ⟨db,2,none⟩=some (.iface T (.pointer (some ⟨b,0,none⟩)))∧w'.cell? ⟨ad,ao,none⟩=some (.iface T1 (.pointer (some ⟨b1,0,none⟩)))∧w'.cell? ⟨w.heap.size+1,0,none⟩=some (.iface Tx ux)∧w'.cell? ⟨w.heap.size+1,1,none⟩=some (.pointer q)∧w'.cell? ⟨w.heap.size+1,0,none⟩=some (.iface Tx ux)) (first | exact s0 | exact e4 | go_keep)
  (first | (go_at_call 151;refine (HP _).mono ?_;rintro e w1 ⟨nb,rfl,k1,hnb,hkn⟩;have kX:Below wA.heap.size wA w1:=(Below.refl _ _).drew.trans (k1.mono (by simp));have e4:=eight kX a0 a1 a2 a3 a4 x0 x1 x0))
 all_goals
  obtain ⟨b0,b1',b2,b3,b4,b5,b6,-⟩:=e4
  have hXs:=kX.size
  have hnb':wA.heap.size≤nb:=hnb
  have hl1:w.heap.size+1 < w1.heap.size:=by omega
  have hl2:cb < w1.heap.size:=by omega
  have hl3:db < w1.heap.size:=by have:db < w.heap.size:=l1;omega
  have kA:=kW.trans (kX.mono kW.size)
  have HO:=h w1.drew nb kA.drew (by omega) (hkn.same rfl)
  have hnl:=hkn.lt
  go_wp2_with fail
  rw [rounds_succ]
  go_wp2_with fail
  have t0:=six ((Below.refl _ w1).drew) b1' b2 b3 b5 b6 b5
  go_region_held3 (fun w'=>w'.cell? ⟨w.heap.size,1,none⟩=some (.int .i64 d)∧w'.cell? ⟨cb,4,none⟩=some (.pointer (some ⟨db,0,none⟩))∧w'.cell? ⟨db,2,none⟩=some (.iface T (.pointer (some ⟨b,0,none⟩)))∧w'.cell? ⟨w.heap.size+1,0,none⟩=some (.iface Tx ux)∧w'.cell? ⟨w.heap.size+1,1,none⟩=some (.pointer q)∧w'.cell? ⟨w.heap.size+1,0,none⟩=some (.iface Tx ux)) (first | exact t0 | exact f4 | go_keep)
   (first | (go_at_call 22;refine HO.mono ?_;rintro e w2 ⟨k2,K,cap,rfl,hM⟩;have kY:Below w1.heap.size w1 w2:=(Below.refl _ _).drew.trans (k2.mono (by simp));have f4:=six kY b1' b2 b3 b5 b6 b5))
  all_goals
   go_wp2_with fail
   go_ret
   exact (MadeC.under (L:=Ls) (C:=fun k=>C k∨w.heap.size≤k) ⟨k2,K,cap,rfl,hM⟩ kA.drew).more (by grind)
theorem named_def {C:Nat→Prop}{Ls:List SP}{w0 w:World}{kn:Option Addr}{d:Int}{b n na c cb:Nat}{p:Option Addr}{name:ByteArray}{x:IV} (hC:∀ k,C k→k < w0.heap.size) (hb:C b) (c0:w0.cell? ⟨b,0,none⟩=some (.string name)) (c1:w0.cell? ⟨b,1,none⟩=some (.slice p na c)) (hF:FindIs C w0 2 name na n kn (some ⟨cb,0,none⟩)) (hs:SameOn C w0 w) (hl:w0.heap.size≤w.heap.size)
  (h:∀ w1,Below w.heap.size w w1→Calls Tryz.prog 110 #[.agg #[.pointer kn,.int .i64 d],.pointer (some ⟨cb,0,none⟩),.slice p na c,.agg #[iv x,.pointer none]] w1 (MadeC Ls C w1)) :
  Calls Tryz.prog 63 #[.agg #[.pointer kn,.int .i64 d],.pointer (some ⟨b,0,none⟩),.agg #[iv x,.pointer none]] w (MadeC Ls C w):=by
 have n0:=hs.cell hb c0
 have n1:=hs.cell hb c1
 have n3:b < w.heap.size:=by have:=hC b hb;omega
 have hf:∀ w1,Below w.heap.size w w1→Calls Tryz.prog 55 #[.pointer kn,.int .u8 2,.string name,.int .i64 na] w1 fun e w'=>e = .returned (.pointer (some ⟨cb,0,none⟩))∧Below w1.heap.size w1 w':=fun w1 k=>kfind_ok (hF.move (C':=C) (hs.trans (fun j hj=>k.block j (by have:=hC j hj;omega))) (fun _ h=>h))
 obtain ⟨T,u⟩:=x
 simp only [iv] at h ⊢
 go_enter Tryz.func63,Tryz.ntmps63
 go_wp2_with fail
 obtain ⟨wA,hA,kW,wp,wf,wx,wl⟩:=three_boxes w kn d (.pointer (some ⟨b,0,none⟩)) 169 ((T,u),none)
 simp only [iv] at hA
 obtain ⟨x0,x1,_,_,x4⟩:=wx.facts
 have a0:=wp.c0
 have a1:=wp.c1
 have a2:=wf.cell
 have a3:=(kW.cell (p:=⟨b,0,none⟩) n3).trans n0
 have a4:=(kW.cell (p:=⟨b,1,none⟩) n3).trans n1
 have s0:=eight ((Below.refl _ wA).drew) a0 a1 a2 a3 a4 x0 x1 x0
 rw [← hA]
 clear hA
 go_region_held3 (fun w'=>w'.cell? ⟨w.heap.size,0,none⟩=some (.pointer kn)∧w'.cell? ⟨w.heap.size,1,none⟩=some (.int .i64 d)∧w'.cell? ⟨w.heap.size+1,0,none⟩=some (.pointer (some ⟨b,0,none⟩))∧w'.cell? ⟨b,0,none⟩=some (.string name)∧w'.cell? ⟨b,1,none⟩=some (.slice p na c)∧w'.cell? ⟨w.heap.size+2,0,none⟩=some (.iface T u)∧w'.cell? ⟨w.heap.size+2,1,none⟩=some (.pointer none)∧w'.cell? ⟨w.heap.size+2,0,none⟩=some (.iface T u)) (first | exact s0 | exact e4 | go_keep)
  (first | (go_at_call 55;refine (hf _ kW.drew).mono ?_;rintro e w1 ⟨rfl,k1⟩;have kX:Below wA.heap.size wA w1:=(Below.refl _ _).drew.trans (k1.mono (by simp));have e4:=eight kX a0 a1 a2 a3 a4 x0 x1 x0))
 all_goals
  obtain ⟨b0,b1,b2,b3,b4,b5,b6,-⟩:=e4
  have hXs:=kX.size
  have hWs:=kW.size
  have hl1:w.heap.size+2 < w1.heap.size:=by omega
  have hl2:b < w1.heap.size:=by omega
  have kA:=kW.trans (kX.mono kW.size)
  go_wp2_with fail
  have HCL:=h w1.drew kA.drew
  have t0:=six ((Below.refl _ w1).drew) b0 b1 b2 b4 b5 b6
  go_region_held3 (fun w'=>w'.cell? ⟨w.heap.size,0,none⟩=some (.pointer kn)∧w'.cell? ⟨w.heap.size,1,none⟩=some (.int .i64 d)∧w'.cell? ⟨w.heap.size+1,0,none⟩=some (.pointer (some ⟨b,0,none⟩))∧w'.cell? ⟨b,1,none⟩=some (.slice p na c)∧w'.cell? ⟨w.heap.size+2,0,none⟩=some (.iface T u)∧w'.cell? ⟨w.heap.size+2,1,none⟩=some (.pointer none)) (first | exact t0 | exact f4 | go_keep)
   (first | (go_at_call 110;refine HCL.mono ?_;rintro e w2 ⟨k2,K,cap,rfl,hM⟩;have kY:Below w1.heap.size w1 w2:=(Below.refl _ _).drew.trans (k2.mono (by simp));have f4:=six kY b0 b1 b2 b4 b5 b6))
  all_goals
   go_wp2_with fail
   go_ret
   exact MadeC.under ⟨k2,K,cap,rfl,hM⟩ kA.drew
end Go.Proofs.Tryz
