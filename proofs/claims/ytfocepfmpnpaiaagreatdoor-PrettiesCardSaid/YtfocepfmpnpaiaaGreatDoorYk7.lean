import Derived.Test.YtfocepfmpnpaiaaGreatDoorYk3
set_option linter.all false
namespace Go.Proofs.Tryz
set_option maxHeartbeats 16000000
open Go.RowKit
set_option maxRecDepth 10000
section
variable {a w w' : World} {rb g : Nat} {X : List Nat} {L L' M : List Tok} {K K' : List Kn} {lost lost' : Int} {its : List (Out Tn × Value)} {s : ByteArray}
theorem acc_other {s1 s2:ByteArray} (d:acc s1 L=(true,M)) (h:s1.data.toList≠s2.data.toList):acc s2 L=(false,L):=by
 match L,d with
 | t :: u :: l,d =>
  have d:(if isTok t s1=true then (true,u :: l) else (false,t :: u :: l))=(true,M):=d
  split at d
  ·rename_i hi
   show (if isTok t s2=true then _ else _)=_
   rw [if_neg]
   intro h2
   have e1:=(isTok_kind hi).2
   have e2:=(isTok_kind h2).2
   rw [ByteArray.toList_eq,ByteArray.toList_eq] at e1 e2
   exact h (e1.symm.trans e2)
  ·cases d
theorem seesT (h:RdR w rb g L K lost) (d:acc s L=(true,M)) :
  Calls Tryz.prog 54 #[.pointer (some ⟨rb,0,none⟩),.string s] w fun e w'=>e = .returned (.bool true)∧KpR rb w w'∧RdR w' rb g L K lost:=by
 have:=seesQ (s:=s) h
 rw [d] at this
 exact this
theorem seesF (h:RdR w rb g L K lost) (d:acc s L=(false,M)) :
  Calls Tryz.prog 54 #[.pointer (some ⟨rb,0,none⟩),.string s] w fun e w'=>e = .returned (.bool false)∧KpR rb w w'∧RdR w' rb g L K lost:=by
 have:=seesQ (s:=s) h
 rw [d] at this
 exact this
theorem GvR.from {x:Out Tn}{e:Ending} (h:GvR rb g w L' K lost x e w') (k:KpR rb a w) (hl:L'.length≤L.length) (hs:Sx L L'):GvR rb g a L K lost x e w':=by
 obtain ⟨b,L2,lost2,e1,k1,r1,l1,s1,f1⟩:=h
 refine ⟨b,L2,lost2,e1,k.trans k1,r1,by omega,hs.trans s1,f1.mono fun t _ hh=>⟨hh.1.keep (fun i hi _=>⟨by have:=k.size;omega,hi.2⟩) (Nat.le_refl _) (fun _ _ _=>rfl),hh.2⟩⟩
theorem minusR_ok {P:Ps}{B:Nat} (hP:SndR P B) (h:RdR w rb g L K lost) (ht:TbR w rb) (hK:K.length+L.length≤100000) (hB:8 * L.length+2≤B) :
  Calls Tryz.prog 55 #[.pointer (some ⟨rb,0,none⟩)] w (GvR rb g w L K lost (minusS P L)):=by
 have hn:=NqR.start h ht
 obtain ⟨j0,hj0,hy0,hy1,hy2⟩:=info_parts info_node
 clear h
 go_enter Tryz.func55,Tryz.ntmps55
 go_wp2_with fail
 cases d0:acc sMinus L with
 | mk b0 M0 =>
 cases b0 with
 | true =>
  have z0:=acc_len d0
  refine Calls.mono (takesT hn.rd d0) ?_
  rintro e w1 ⟨rfl,k1,r1⟩
  have hn:=hn.call k1 r1
  go_wp2_with fail
  refine Calls.mono (hP.minus hn.rd hn.tbw (by omega) (by omega)) ?_
  rintro e w2 ⟨b2,L2,lost2,rfl,k2,r2,l2,s2,f2⟩
  have hn:=hn.item (v:=.pointer (some ⟨b2,0,none⟩)) k2 r2 f2.rn
  have f2:=f2.lo
  go_wp2_with fail
  go_ret
  rw [show minusS P L=thn (P 1 M0) fun a l2=>.ok (nd 13 Pyl.none [a],l2) by simp [minusS,d0]]
  have hB1:Below w2.heap.size w2 ((w2.alloc (.cells #[.pointer (some ⟨b2,0,none⟩)] 25)).alloc (.cells #[.string ⟨#[110,101,103]⟩,.string ⟨#[]⟩,.int .i64 0,.int .i64 0,.string ⟨#[]⟩,.slice none 0 0,.slice none 0 0,.slice (some ⟨w2.heap.size,0,none⟩) 1 1,.slice none 0 0] 51)):=(below_alloc _ _).alloc (by simp) _
  have hn2:=hn.below hB1
  refine ⟨w2.heap.size+1,L2,lost2,rfl,hn2.kept,hn2.rd,by omega,acc_sx d0,Fn.thn f2 (fun a1 e1 h1=>Fn.ok ⟨(Rn.lit (kind:=13) (y:=Pyl.none) (ts:=[a1]) (vs:=[.pointer (some ⟨b2,0,none⟩)]) hn rfl (fun j x hx=>?_) rfl (by simp) _ rfl).2,?_⟩) (Sx.refl _)⟩
  ·match j,hx with
   | 0,hx=>cases hx;exact hn.kid (.head _) e1
   | j+1,hx=>simp at hx
  ·rw [lost_nd1 rfl]
   exact h1
 | false =>
 have d0':=acc_false d0
 subst d0'
 refine Calls.mono (takesF hn.rd d0) ?_
 rintro e w1 ⟨rfl,k1,r1⟩
 have hn:=hn.call k1 r1
 go_wp2_with fail
 cases d1:acc sLabel M0 with
 | mk b1 M1 =>
 cases b1 with
 | true =>
  have z1:=acc_len d1
  refine Calls.mono (takesT hn.rd d1) ?_
  rintro e w2 ⟨rfl,k2,r2⟩
  have hn:=hn.call k2 r2
  go_wp2_with fail
  have hc:=Cl.start w2 [.string ⟨#[108,97,98,101,108]⟩,.string ⟨#[]⟩,.int .i64 0,.int .i64 0,.string ⟨#[]⟩,.slice none 0 0,.slice none 0 0,.slice none 0 0,.slice none 0 0] 51
  have hn:=hn.own (.cells #[.string ⟨#[108,97,98,101,108]⟩,.string ⟨#[]⟩,.int .i64 0,.int .i64 0,.string ⟨#[]⟩,.slice none 0 0,.slice none 0 0,.slice none 0 0,.slice none 0 0] 51)
  refine Calls.mono (namedQ 4 118 rfl (.inr rfl) hn.rd) ?_
  rintro e w3 ⟨x,L3,rfl,k3,r3,l3,f3,s3,x3⟩
  have hc:=hc.callR hn (.head _) k3
  have hn:=hn.call k3 r3
  have e1:w3.cell? ⟨w2.heap.size,1,none⟩=some (.string ⟨#[]⟩):=(hc.cell 1).trans rfl
  have q1:=hc.free 1
  go_wp2_with fail
  have hc:=hc.set 1 (.string x) (by simp)
  have hn:=hn.set (o:=1) (.string x) (.head _)
  refine Calls.mono (needsQ hn.rd) ?_
  rintro e w4 ⟨rfl,L4,k4,r4,l4,f4,s4⟩
  have hc:=hc.callR hn (.head _) k4
  have hn:=hn.call k4 r4
  go_wp2_with fail
  refine Calls.mono (reach_ok hP (n:=0) (vs:=[]) 108 hn (.head _) hc (World.ownsRow_nil _ _ _ _) (fun b e=>by cases e) (by omega) (by omega) (by omega)) ?_
  rintro e w5 ⟨L5,lost5,r',v5,g5,rfl,hn,hc,ho,hg,l5,s5,f5⟩
  go_wp2_with fail
  go_ret
  rw [show minusS P M0=labelS P M1 by simp [minusS,d0,boundS,d1]]
  refine ⟨w2.heap.size,L5,lost5,rfl,hn.kept,hn.rd,by omega,acc_sx d1,Fn.thn f3 (fun t3 _ h3=>Fn.thn f4 (fun _ _ _=>Fn.thn f5 (fun a5 e5 h5=>Fn.ok ⟨?_,?_⟩) (Sx.refl _)) s5) (s4.trans s5)⟩
  ·rw [← h3]
   have hm:=hn.mine _ (.tail _ (.head _))
   refine Rn.mk (r:=r') (r':=.slice none 0 0) ⟨hm.1,hm.2.2⟩ hm.2.1 hc ho (fun b e=>⟨(hn.mine b (hg b e)).1,(hn.mine b (hg b e)).2.2⟩) (fun j v hv=>?_) (World.ownsRow_nil _ _ _ _) (fun b e=>by cases e)
   match j,hv with
   | 0,hv=>cases hv;exact hn.kid (.head _) e5
   | j+1,hv=>simp at hv
  ·rw [← h3,lost_nd1 rfl]
   exact h5
 | false =>
 refine Calls.mono (takesF hn.rd d1) ?_
 rintro e w2 ⟨rfl,k2,r2⟩
 have hn:=hn.call k2 r2
 go_wp2_with fail
 cases d2:acc sTry M0 with
 | mk b2 M2 =>
 cases b2 with
 | true =>
  have z2:=acc_len d2
  refine Calls.mono (takesT hn.rd d2) ?_
  rintro e w3 ⟨rfl,k3,r3⟩
  have hn:=hn.call k3 r3
  go_wp2_with fail
  have hc:=Cl.start w3 [.string ⟨#[116,114,121]⟩,.string ⟨#[]⟩,.int .i64 0,.int .i64 0,.string ⟨#[]⟩,.slice none 0 0,.slice none 0 0,.slice none 0 0,.slice none 0 0] 51
  have hn:=hn.own (.cells #[.string ⟨#[116,114,121]⟩,.string ⟨#[]⟩,.int .i64 0,.int .i64 0,.string ⟨#[]⟩,.slice none 0 0,.slice none 0 0,.slice none 0 0,.slice none 0 0] 51)
  refine Calls.mono (hP.minus hn.rd hn.tbw (by omega) (by omega)) ?_
  rintro e w4 ⟨b4,L4,lost4,rfl,k4,r4,l4,s4,f4⟩
  have hc:=hc.callR hn (.head _) k4
  have hn:=hn.item (v:=.pointer (some ⟨b4,0,none⟩)) k4 r4 f4.rn
  have f4:=f4.lo
  have hS:w4.cell? ⟨w3.heap.size,7,none⟩=some (.slice none 0 0):=(hc.cell 7).trans rfl
  have q4:=hc.free
  have z4:=(hn.mine _ (.head _)).2.1
  go_wp2_with (refine wpList_append_lies _ (by rfl) _ _ _ (by rfl) 0 25 j0 _ 1 8 Tryz.underlying49 hj0 hy0 hy1 hy2 rfl (by omega) (.slice none 0 0) 0 [] (by rfl) (World.ownsRow_nil _ _ _ _) ⟨w4.heap.size,0,none⟩ 1 1 [.pointer (some ⟨b4,0,none⟩)] (by rfl) (by rfl) (World.news_of_block (cs:=#[.pointer (some ⟨b4,0,none⟩)]) (t:=25) (fr:=(0,0)) (heap_new w4 _)) (by simp [Value.oneCell']) (by omega) (by unfold maxLen;omega) (by omega) (by simp) (w4.heap.size+1) (by simp) ?_;intro g5 cap5 w5 ow5 hgr5 hat5 hlt5;have hc:=(hc.below (below_alloc _ _) z4).grown hgr5 (by simp;omega) (by simp [Value.ownBlock]);have hn:=(hn.alloc _).grown hgr5 (by simp [Value.ownBlock]) (hat5.imp id (fun e=>by simpa using e)) hlt5;have hS5:w5.cell? ⟨w3.heap.size,7,none⟩=some (.slice none 0 0):=(hc.cell 7).trans rfl;have q5:=hc.free)
  have hg5:g5≠w3.heap.size:=by
   rcases hat5 with e | e
   ·cases e
   ·first | omega | (simp at e;omega)
  have hc:=hc.set 7 (.slice (some ⟨g5,0,none⟩) (0+1) cap5) (by simp)
  have hn:=hn.set (o:=7) (.slice (some ⟨g5,0,none⟩) (0+1) cap5) (.tail _ (.head _))
  have ho:=ownsB_set (N:=w3.heap.size) (o:=7) (u:=.slice (some ⟨g5,0,none⟩) (0+1) cap5) ow5 (fun b e=>by cases e;exact hg5)
  cases d5:acc sCatch L4 with
  | mk b5 M5 =>
  cases b5 with
  | false =>
   refine Calls.mono (takesF hn.rd d5) ?_
   rintro e w6 ⟨rfl,k6,r6⟩
   have hc:=hc.callR hn (.tail _ (.head _)) k6
   have ho:=ownsR_call ho hn (fun b e=>by cases e;exact .head _) k6
   have hn:=hn.call k6 r6
   go_wp2_with fail
   go_ret
   rw [show minusS P M0=tryS P M2 by simp [minusS,d0,boundS,d1,d2]]
   refine ⟨w3.heap.size,L4,lost4,rfl,hn.kept,hn.rd,by omega,acc_sx d2,?_⟩
   unfold tryS
   refine Fn.thn f4 (fun a4 e4 h4=>?_) (Sx.refl _)
   simp only [d5]
   refine Fn.ok ⟨?_,?_⟩
   ·have hm:=hn.mine _ (.tail _ (.head _))
    refine Rn.mk (r:=.slice (some ⟨g5,0,none⟩) (0+1) cap5) (r':=.slice none 0 0) ⟨hm.1,hm.2.2⟩ hm.2.1 hc ho (fun b e=>by cases e;exact ⟨(hn.mine _ (.head _)).1,(hn.mine _ (.head _)).2.2⟩) (fun j v hv=>?_) (World.ownsRow_nil _ _ _ _) (fun b e=>by cases e)
    match j,hv with
    | 0,hv=>cases hv;exact hn.kid (.head _) e4
    | j+1,hv=>simp at hv
   ·rw [lost_nd1 rfl]
    exact h4
  | true =>
   have z5:=acc_len d5
   refine Calls.mono (takesT hn.rd d5) ?_
   rintro e w6 ⟨rfl,k6,r6⟩
   have hc:=hc.callR hn (.tail _ (.head _)) k6
   have ho:=ownsR_call ho hn (fun b e=>by cases e;exact .head _) k6
   have hn:=hn.call k6 r6
   go_wp2_with fail
   refine Calls.mono (hP.minus hn.rd hn.tbw (by omega) (by omega)) ?_
   rintro e w7 ⟨b7,L7,lost7,rfl,k7,r7,l7,s7,f7⟩
   have hc:=hc.callR hn (.tail _ (.head _)) k7
   have ho:=ownsR_call ho hn (fun b e=>by cases e;exact .head _) k7
   have hn:=hn.item (v:=.pointer (some ⟨b7,0,none⟩)) k7 r7 f7.rn
   have f7:=f7.lo
   have hS7:w7.cell? ⟨w3.heap.size,7,none⟩=some (.slice (some ⟨g5,0,none⟩) (0+1) cap5):=(hc.cell 7).trans rfl
   have q7:=hc.free
   have z7:=(hn.mine _ (.tail _ (.head _))).2.1
   go_wp2_with (refine wpList_append_lies _ (by rfl) _ _ _ (by rfl) 0 25 j0 _ 1 8 Tryz.underlying49 hj0 hy0 hy1 hy2 rfl (by omega) (.slice (some ⟨g5,0,none⟩) (0+1) cap5) (0+1) ([] ++ [.pointer (some ⟨b4,0,none⟩)]) (by rfl) (ownsB_below ho (below_alloc _ _)) ⟨w7.heap.size,0,none⟩ 1 1 [.pointer (some ⟨b7,0,none⟩)] (by rfl) (by rfl) (World.news_of_block (cs:=#[.pointer (some ⟨b7,0,none⟩)]) (t:=25) (fr:=(0,0)) (heap_new w7 _)) (by simp [Value.oneCell']) (by omega) (by unfold maxLen;omega) (by omega) (by simp) (w7.heap.size+1) (by simp) ?_;intro g8 cap8 w8 ow8 hgr8 hat8 hlt8;have hc:=(hc.below (below_alloc _ _) z7).grown hgr8 (by simp;omega) (fun e=>by cases e;exact hg5 rfl);have hn:=(hn.alloc _).grown hgr8 (fun i e=>by cases e;exact .head _) (hat8.imp id (fun e=>by simpa using e)) hlt8;have hS8:w8.cell? ⟨w3.heap.size,7,none⟩=some (.slice (some ⟨g5,0,none⟩) (0+1) cap5):=(hc.cell 7).trans rfl;have q8:=hc.free)
   have hg8:g8≠w3.heap.size:=by
    rcases hat8 with e | e
    ·cases e;exact hg5
    ·first | omega | (simp at e;omega)
   have hc:=hc.set 7 (.slice (some ⟨g8,0,none⟩) (0+1+1) cap8) (by simp)
   have hn:=hn.set (o:=7) (.slice (some ⟨g8,0,none⟩) (0+1+1) cap8) (.tail _ (.tail _ (.head _)))
   have ho:=ownsB_set (N:=w3.heap.size) (o:=7) (u:=.slice (some ⟨g8,0,none⟩) (0+1+1) cap8) ow8 (fun b e=>by cases e;exact hg8)
   go_ret
   rw [show minusS P M0=tryS P M2 by simp [minusS,d0,boundS,d1,d2]]
   refine ⟨w3.heap.size,L7,lost7,rfl,hn.kept,hn.rd,by omega,acc_sx d2,?_⟩
   unfold tryS
   refine Fn.thn f4 (fun a4 e4 h4=>?_) ((fun e=>absurd (show acc sCatch L4=(false,L4) from acc_one e _) (by rw [d5];simp)))
   simp only [d5]
   refine Fn.thn f7 (fun a7 e7 h7=>Fn.ok ⟨?_,?_⟩) (Sx.refl _)
   ·have hm:=hn.mine _ (.tail _ (.tail _ (.head _)))
    refine Rn.mk (r:=.slice (some ⟨g8,0,none⟩) (0+1+1) cap8) (r':=.slice none 0 0) ⟨hm.1,hm.2.2⟩ hm.2.1 hc ho (fun b e=>by cases e;exact ⟨(hn.mine _ (.head _)).1,(hn.mine _ (.head _)).2.2⟩) (fun j v hv=>?_) (World.ownsRow_nil _ _ _ _) (fun b e=>by cases e)
    match j,hv with
    | 0,hv=>cases hv;exact hn.kid (.tail _ (.head _)) e4
    | 1,hv=>cases hv;exact hn.kid (.head _) e7
    | j+2,hv=>simp at hv
   ·rw [lost_nd2 rfl]
    show lost7=lostF (lostF lost (chk a4 K)) (chk a7 K)
    rw [← h4]
    exact h7
 | false =>
 refine Calls.mono (takesF hn.rd d2) ?_
 rintro e w3 ⟨rfl,k3,r3⟩
 have hn:=hn.call k3 r3
 go_wp2_with fail
 cases d3:acc sReduce M0 with
 | mk b3 M3 =>
 cases b3 with
 | true =>
  refine Calls.mono (seesT hn.rd d3) ?_
  rintro e w4 ⟨rfl,k4,r4⟩
  have hn:=hn.call k4 r4
  go_wp2_with fail
  refine Calls.mono (fold_ok hP sReduce (.inl rfl) hn.rd hn.tbw d3 hK (by omega)) ?_
  intro e w5 h5
  obtain ⟨b5,L5,lost5,rfl,hrest⟩:=id h5
  go_wp2_with fail
  go_ret
  have e5:minusS P M0=foldS P sReduce M3:=by simp [minusS,d0,boundS,d1,d2,d3,foldS]
  rw [e5]
  exact h5.from hn.kept (Nat.le_refl _) (Sx.refl _)
 | false =>
 refine Calls.mono (seesF hn.rd d3) ?_
 rintro e w4 ⟨rfl,k4,r4⟩
 have hn:=hn.call k4 r4
 go_wp2_with fail
 cases d4:acc sForeach M0 with
 | mk b4 M4 =>
 cases b4 with
 | true =>
  refine Calls.mono (seesT hn.rd d4) ?_
  rintro e w5 ⟨rfl,k5,r5⟩
  have hn:=hn.call k5 r5
  go_wp2_with fail
  refine Calls.mono (fold_ok hP sForeach (.inr rfl) hn.rd hn.tbw d4 hK (by omega)) ?_
  intro e w6 h6
  obtain ⟨b6,L6,lost6,rfl,hrest⟩:=id h6
  go_wp2_with fail
  go_ret
  have e6:minusS P M0=foldS P sForeach M4:=by
   have:¬ sForeach=sReduce:=by decide
   simp [minusS,d0,boundS,d1,d2,d3,d4,foldS,this]
  rw [e6]
  exact h6.from hn.kept (Nat.le_refl _) (Sx.refl _)
 | false =>
 refine Calls.mono (seesF hn.rd d4) ?_
 rintro e w5 ⟨rfl,k5,r5⟩
 have hn:=hn.call k5 r5
 go_wp2_with fail
 cases d5:acc sIf M0 with
 | mk b5 M5 =>
 cases b5 with
 | true =>
  have z5:=acc_len d5
  refine Calls.mono (takesT hn.rd d5) ?_
  rintro e w6 ⟨rfl,k6,r6⟩
  have hn:=hn.call k6 r6
  go_wp2_with fail
  refine Calls.mono (hP.filter hn.rd hn.tbw (by omega) (by omega)) ?_
  rintro e w7 ⟨b7,L7,lost7,rfl,k7,r7,l7,s7,f7⟩
  have hn:=hn.item (v:=.pointer (some ⟨b7,0,none⟩)) k7 r7 f7.rn
  have f7:=f7.lo
  go_wp2_with fail
  refine Calls.mono (needsQ hn.rd) ?_
  rintro e w8 ⟨rfl,L8,k8,r8,l8,f8,s8⟩
  have hn:=hn.call k8 r8
  go_wp2_with fail
  refine Calls.mono (hP.filter hn.rd hn.tbw (by omega) (by omega)) ?_
  rintro e w9 ⟨b9,L9,lost9,rfl,k9,r9,l9,s9,f9⟩
  have hn:=hn.item (v:=.pointer (some ⟨b9,0,none⟩)) k9 r9 f9.rn
  have f9:=f9.lo
  go_wp2_with fail
  refine Calls.mono (needsQ hn.rd) ?_
  rintro e wA ⟨rfl,LA,kA,rA,lA,fA,sA⟩
  have hn:=hn.call kA rA
  go_wp2_with fail
  refine Calls.mono (hP.filter hn.rd hn.tbw (by omega) (by omega)) ?_
  rintro e wB ⟨bB,LB,lostB,rfl,kB,rB,lB,sB,fB⟩
  have hn:=hn.item (v:=.pointer (some ⟨bB,0,none⟩)) kB rB fB.rn
  have fB:=fB.lo
  go_wp2_with fail
  refine Calls.mono (needsQ hn.rd) ?_
  rintro e wC ⟨rfl,LC,kC,rC,lC,fC,sC⟩
  have hn:=hn.call kC rC
  go_wp2_with fail
  go_ret
  rw [show minusS P M0=ifS P M5 by simp [minusS,d0,boundS,d1,d2,d3,d4,d5]]
  have hn2:=hn.below (w':=(wC.alloc (.cells #[.pointer (some ⟨b7,0,none⟩),.pointer (some ⟨b9,0,none⟩),.pointer (some ⟨bB,0,none⟩)] 25)).alloc (.cells #[.string ⟨#[105,102]⟩,.string ⟨#[]⟩,.int .i64 0,.int .i64 0,.string ⟨#[]⟩,.slice none 0 0,.slice none 0 0,.slice (some ⟨wC.heap.size,0,none⟩) 3 3,.slice none 0 0] 51)) ((below_alloc _ _).alloc (by simp) _)
  have tB:Sx LB LC:=sC
  have tA:=sB.trans tB
  have t9:=sA.trans tA
  have t8:=s9.trans t9
  have t7:=s8.trans t8
  refine ⟨wC.heap.size+1,LC,lostB,rfl,hn2.kept,hn2.rd,by omega,acc_sx d5,Fn.thn f7 (fun a7 e7 h7=>Fn.thn f8 (fun _ _ _=>Fn.thn f9 (fun a9 e9 h9=>Fn.thn fA (fun _ _ _=>Fn.thn fB (fun aB eB hB2=>Fn.thn fC (fun _ _ _=>Fn.ok ⟨(Rn.lit (kind:=15) (y:=Pyl.none) (ts:=[a7,a9,aB]) (vs:=[.pointer (some ⟨b7,0,none⟩),.pointer (some ⟨b9,0,none⟩),.pointer (some ⟨bB,0,none⟩)]) hn rfl (fun j x hx=>?_) rfl (by simp) _ rfl).2,?_⟩) (Sx.refl _)) tB) tA) t9) t8) t7⟩
  ·match j,hx with
   | 0,hx=>cases hx;exact hn.kid (.tail _ (.tail _ (.head _))) e7
   | 1,hx=>cases hx;exact hn.kid (.tail _ (.head _)) e9
   | 2,hx=>cases hx;exact hn.kid (.head _) eB
   | j+3,hx=>simp at hx
  ·rw [lost_nd3 rfl]
   show lostB=lostF (lostF (lostF lost (chk a7 K)) (chk a9 K)) (chk aB K)
   rw [← h7,← h9]
   exact hB2
 | false =>
 refine Calls.mono (takesF hn.rd d5) ?_
 rintro e w6 ⟨rfl,k6,r6⟩
 have hn:=hn.call k6 r6
 go_wp2_with fail
 refine Calls.mono (hP.post hn.rd hn.tbw (by omega) (by omega)) ?_
 rintro e w7 ⟨b7,L7,lost7,rfl,k7,r7,l7,s7,f7⟩
 have hn:=hn.item (v:=.pointer (some ⟨b7,0,none⟩)) k7 r7 f7.rn
 have f7r:=f7.rn
 have f7:=f7.lo
 go_wp2_with fail
 cases d8:acc sAs L7 with
 | mk b8 M8 =>
 cases b8 with
 | false =>
  refine Calls.mono (takesF hn.rd d8) ?_
  rintro e w8 ⟨rfl,k8,r8⟩
  have hn:=hn.call k8 r8
  go_wp2_with fail
  go_ret
  rw [show minusS P M0=bindS P M0 by simp [minusS,d0,boundS,d1,d2,d3,d4,d5]]
  refine ⟨b7,L7,lost7,rfl,hn.kept,hn.rd,by omega,s7,?_⟩
  unfold bindS
  refine Fn.thn f7 (fun a7 e7 h7=>?_) (Sx.refl _)
  simp only [d8]
  exact Fn.ok ⟨hn.kid (.head _) e7,h7⟩
 | true =>
  have z8:=acc_len d8
  refine Calls.mono (takesT hn.rd d8) ?_
  rintro e w8 ⟨rfl,k8,r8⟩
  have hn:=hn.call k8 r8
  go_wp2_with fail
  have hc:=Cl.start (w8.alloc (.cells #[.pointer (some ⟨b7,0,none⟩)] 25)) [.string ⟨#[97,115]⟩,.string ⟨#[]⟩,.int .i64 0,.int .i64 0,.string ⟨#[]⟩,.slice none 0 0,.slice none 0 0,.slice (some ⟨w8.heap.size,0,none⟩) 1 1,.slice none 0 0] 51
  have ho:((w8.alloc (.cells #[.pointer (some ⟨b7,0,none⟩)] 25)).alloc (.cells #[.string ⟨#[97,115]⟩,.string ⟨#[]⟩,.int .i64 0,.int .i64 0,.string ⟨#[]⟩,.slice none 0 0,.slice none 0 0,.slice (some ⟨w8.heap.size,0,none⟩) 1 1,.slice none 0 0] 51)).ownsRow 0 25 1 (.slice (some ⟨w8.heap.size,0,none⟩) 1 1) 1 [.pointer (some ⟨b7,0,none⟩)]:=⟨rfl,.inr ⟨w8.heap.size,1,#[.pointer (some ⟨b7,0,none⟩)],rfl,Nat.zero_le _,((below_alloc (w8.alloc _) _).block w8.heap.size (by simp)).trans (heap_new w8 _),Nat.le_refl _,by decide,rfl,rfl⟩⟩
  have hn:=(hn.own (.cells #[.pointer (some ⟨b7,0,none⟩)] 25)).own (.cells #[.string ⟨#[97,115]⟩,.string ⟨#[]⟩,.int .i64 0,.int .i64 0,.string ⟨#[]⟩,.slice none 0 0,.slice none 0 0,.slice (some ⟨w8.heap.size,0,none⟩) 1 1,.slice none 0 0] 51)
  simp only [World.size_alloc] at hc hn
  refine Calls.mono (namedQ 4 118 rfl (.inr rfl) hn.rd) ?_
  rintro e w9 ⟨x,L9,rfl,k9,r9,l9,f9,s9,x9⟩
  have hc:=hc.callR hn (.head _) k9
  have ho:=ownsR_call ho hn (fun b e=>by cases e;exact .tail _ (.head _)) k9
  have hn:=hn.call k9 r9
  have e1:w9.cell? ⟨w8.heap.size+1,1,none⟩=some (.string ⟨#[]⟩):=(hc.cell 1).trans rfl
  have q1:=hc.free 1
  go_wp2_with fail
  have hc:=hc.set 1 (.string x) (by simp)
  have ho:=ownsB_set (N:=w8.heap.size+1) (o:=1) (u:=.string x) ho (fun b e=>by cases e;exact Nat.ne_of_lt (Nat.lt_succ_self _))
  have hn:=hn.set (o:=1) (.string x) (.head _)
  refine Calls.mono (needsQ hn.rd) ?_
  rintro e wA ⟨rfl,LA,kA,rA,lA,fA,sA⟩
  have hc:=hc.callR hn (.head _) kA
  have ho:=ownsR_call ho hn (fun b e=>by cases e;exact .tail _ (.head _)) kA
  have hn:=hn.call kA rA
  go_wp2_with fail
  refine Calls.mono (reach_ok hP (n:=1) (vs:=[.pointer (some ⟨b7,0,none⟩)]) 118 hn (.head _) hc ho (fun b e=>by cases e;exact ⟨.tail _ (.head _),Nat.ne_of_lt (Nat.lt_succ_self _)⟩) (by omega) (by omega) (by omega)) ?_
  rintro e wB ⟨LB,lostB,r',vB,gB,rfl,hn,hc,ho,hg,lB,sB,fB⟩
  go_wp2_with fail
  go_ret
  rw [show minusS P M0=bindS P M0 by simp [minusS,d0,boundS,d1,d2,d3,d4,d5]]
  refine ⟨w8.heap.size+1,LB,lostB,rfl,hn.kept,hn.rd,by omega,(fun e=>by have:=s7 e;subst this;rw [acc_one e] at d8;cases d8),?_⟩
  unfold bindS
  refine Fn.thn f7 (fun a7 e7 h7=>?_) (fun e=>by rw [acc_one e] at d8;cases d8)
  simp only [d8]
  refine Fn.thn f9 (fun t9 _ h9=>Fn.thn fA (fun _ _ _=>Fn.thn fB (fun aB eB hB2=>Fn.ok ⟨?_,?_⟩) (Sx.refl _)) sB) (sA.trans sB)
  ·rw [← h9]
   have hm:=hn.mine _ (.tail _ (.head _))
   refine Rn.mk (r:=r') (r':=.slice none 0 0) ⟨hm.1,hm.2.2⟩ hm.2.1 hc ho (fun b e=>⟨(hn.mine b (hg b e)).1,(hn.mine b (hg b e)).2.2⟩) (fun j v hv=>?_) (World.ownsRow_nil _ _ _ _) (fun b e=>by cases e)
   match j,hv with
   | 0,hv=>cases hv;exact hn.kid (.tail _ (.head _)) e7
   | 1,hv=>cases hv;exact hn.kid (.head _) eB
   | j+2,hv=>simp at hv
  ·rw [← h9,lost_nd2 rfl]
   show lostB=lostF (lostF lost (chk a7 K)) (chk aB (K ++ [(118,x,0)]))
   rw [← h7]
   exact hB2
end
end Go.Proofs.Tryz
namespace Go.Proofs.Tryz
set_option maxHeartbeats 16000000
open Go.RowKit
set_option maxRecDepth 10000
section
variable {a w w' : World} {rb g : Nat} {X : List Nat} {L L' M : List Tok} {K K' : List Kn} {lost lost' : Int} {its : List (Out Tn × Value)} {s : ByteArray}
theorem RdR.bad (h:RdR w rb g L K lost):∃ b,w.cell? ⟨rb,2,none⟩=some (.int .i64 b)∧(b < 0∨(¬ b < 0∧kindOf L=1)):=by
 obtain ⟨cap,F,I,bad,nv,h,h2,h3⟩:=h
 refine ⟨bad,h.c2,?_⟩
 rcases h2 with ⟨e,_⟩ | ⟨e,e2,_⟩
 ·exact .inl (by omega)
 ·exact .inr ⟨by omega,e2⟩
def PfQ (P:Ps) (rb:Nat) (w wr:World) (L M:List Tok) (K:List Kn) (lost lostM:Int) (v:Value):Prop :=
 (∃ f m,M.length≤m∧postfixS P L=afterS P m f M∧Rn (fun b=>w.heap.size≤b∧nbOf wr rb≠some b) wr f v∧lostM=lostF lost (chk f K))∨(∃ r,postfixS P L = .error r∧M=stuck r∧kindOf M=1)
theorem pfq_next {P:Ps}{M':List Tok}{v':Value}{x:Out Tn}{m:Nat} (h:postfixS P L=thn x fun f l=>afterS P m f l) (f:Fn x M' fun t=>Rn (fun b=>w.heap.size≤b∧nbOf w' rb≠some b) w' t v'∧lost'=lostF lost (chk t K)) (hm:M'.length≤m):PfQ P rb w w' L M' K lost lost' v':=by
 match x,f with
 | .ok (t,l),⟨e,g⟩=>subst e;exact .inl ⟨t,m,hm,h,g.1,g.2⟩
 | .error r,⟨e,k⟩=>exact .inr ⟨r,h,e,k⟩
theorem PfQ.yes {P:Ps}{wr:World}{M1:List Tok}{lostM:Int}{v:Value} (h:PfQ P rb w wr L M K lost lostM v) (e:acc s M=(true,M1)):∃ f m,M1.length≤m∧postfixS P L=afterS P (m+1) f M∧Rn (fun b=>w.heap.size≤b∧nbOf wr rb≠some b) wr f v∧lostM=lostF lost (chk f K):=by
 rcases h with ⟨f,m,h1,h2,h3⟩ | ⟨r,_,_,k⟩
 ·have:=acc_len e
  match m,h1,h2 with
  | 0,h1,_=>omega
  | m+1,h1,h2=>exact ⟨f,m,by omega,h2,h3⟩
 ·rw [acc_one k] at e
  cases e
theorem PfQ.done {P:Ps}{wr:World}{lostM:Int}{v:Value} (h:PfQ P rb w wr L M K lost lostM v) (hne:M≠[]) (e0:acc sDot M=(false,M)) (e1:acc sSqO M=(false,M)) (e2:acc sAsk M=(false,M)):Fn (postfixS P L) M fun t=>Rn (fun b=>w.heap.size≤b∧nbOf wr rb≠some b) wr t v∧lostM=lostF lost (chk t K):=by
 rcases h with ⟨f,m,h1,h2,h3⟩ | ⟨r,h1,h2,h3⟩
 ·match m,h1,h2 with
  | 0,h1,_=>exact absurd (List.eq_nil_of_length_eq_zero (by omega)) hne
  | m+1,h1,h2 =>
   rw [h2]
   simp only [afterS,e0,e1,e2]
   exact Fn.ok h3
 ·rw [h1]
  exact ⟨h2,h3⟩
def PfJ (P:Ps) (w:World) (rb g:Nat) (L:List Tok) (K:List Kn) (lost:Int) (k:Nat) (v:Value) (wr:World):Prop :=
 ∃ b M lostM,v = .pointer (some ⟨b,0,none⟩)∧NqR w wr rb g [] M K lostM []∧M.length≤L.length∧M.length≤k∧Sx L M∧PfQ P rb w wr L M K lost lostM v
theorem NqR.drop (h:NqR a w rb g X L K lost its):NqR a w rb g [] L K lost [] :=
 ⟨h.kept,h.rd,h.rbs,h.gbs,h.tb,fun b hb=>by simp at hb,fun q hq=>by simp at hq⟩
theorem NqR.add (h:NqR a w rb g [] L K lost its) {f:Tn}{v:Value} (hf:Rn (fun b=>a.heap.size≤b∧nbOf w rb≠some b) w f v):NqR a w rb g [] L K lost ((.ok (f,[]),v) :: its):=by
 refine ⟨h.kept,h.rd,h.rbs,h.gbs,h.tb,h.mine,fun q hq t l' e=>?_⟩
 rcases List.mem_cons.mp hq with rfl | hq
 ·cases e
  exact hf.keep (fun b hb _=>⟨hb.1,by simp,hb.2⟩) (Nat.le_refl _) (fun _ _ _=>rfl)
 ·exact h.its q hq t l' e
theorem postfixR_ok {P:Ps}{B:Nat} (hP:SndR P B) (h:RdR w rb g L K lost) (ht:TbR w rb) (hK:K.length+L.length≤100000) (hB:8 * L.length+1≤B) :
  Calls Tryz.prog 81 #[.pointer (some ⟨rb,0,none⟩)] w (GvR rb g w L K lost (postfixS P L)):=by
 have hn:=NqR.start h ht
 clear h
 go_enter Tryz.func81,Tryz.ntmps81
 go_wp2_with fail
 refine Calls.mono (hP.prim hn.rd hn.tbw (by omega) (by omega)) ?_
 rintro e w1 ⟨b1,L1,lost1,rfl,k1,r1,l1,s1,f1⟩
 have hn:=hn.call k1 r1
 go_wp2_with fail
 go_loopg [3] (L.length+1) (fun k v wr=>PfJ P w rb g L K lost k v wr)
 case atStart =>
  refine ⟨b1,L1,lost1,rfl,hn,l1,by omega,s1,?_⟩
  unfold PfQ postfixS
  match hx:P 4 L,f1 with
  | .ok (t,l),⟨e,g⟩=>subst e;exact .inl ⟨t,_,Nat.le_refl _,rfl,g.1,g.2⟩
  | .error r,⟨e,k⟩=>exact .inr ⟨r,rfl,e,k⟩
 case round =>
  clear hn f1 r1 k1
  obtain ⟨b,M,lostM,rfl,hn,bM,bk,sM,hR⟩:=hrel
  obtain ⟨bad,c2,hbad⟩:=hn.rd.bad
  have hne:=hn.rd.wf.ne
  have hrb:=hn.rd.rbs
  match gk,bk with
  | 0,bk=>exact absurd hne (by intro h;exact h (List.eq_nil_of_length_eq_zero (by omega)))
  | k+1,bk =>
  rcases hbad with hbad | ⟨hbad,hk1⟩
  case inr =>
   go_wp2_with fail
   go_ret
   exact ⟨b,M,lostM,rfl,hn.kept,hn.rd,bM,sM,hR.done hne (acc_one hk1 _) (acc_one hk1 _) (acc_one hk1 _)⟩
  cases d0:acc sAsk M with
  | mk q0 M0 =>
  cases q0 with
  | true =>
   obtain ⟨f,m,hm0,hE,hF,hlo⟩:=hR.yes d0
   have z0:=acc_len d0
   have hn:=hn.add hF
   go_wp2_with fail
   refine Calls.mono (takesT hn.rd d0) ?_
   rintro e w2 ⟨rfl,k2,r2⟩
   have hn:=hn.call k2 r2
   go_wp2_with fail
   go_roundg k
   case measure=>omega
   case rel =>
    have hE2:postfixS P L=afterS P m (nd 8 Pyl.none [f]) M0:=by
     rw [hE]
     simp only [afterS,acc_other d0 (s2:=sDot) (by decide),acc_other d0 (s2:=sSqO) (by decide),d0]
    have hlit:=Rn.lit (kind:=8) (y:=Pyl.none) (ts:=[f]) (vs:=[.pointer (some ⟨b,0,none⟩)]) hn rfl (fun j x hx=>by
     match j,hx with
     | 0,hx=>cases hx;exact hn.kid (.head _) rfl
     | j+1,hx=>simp at hx) rfl (by simp) _ rfl
    exact ⟨_,M0,lostM,rfl,hlit.1.drop,by omega,by omega,(fun e=>by have:=sM e;rw [this] at d0;rw [acc_one e] at d0;cases d0),.inl ⟨_,m,by omega,hE2,hlit.2,by rw [lost_nd1 rfl];exact hlo⟩⟩
  | false =>
  have hstk:kindOf M=1→∀ (s:ByteArray) (M':List Tok),acc s M≠(true,M'):=fun e s M' h=>by rw [acc_one e] at h;cases h
  have d0':=acc_false d0
  subst d0'
  go_wp2_with fail
  refine Calls.mono (takesF hn.rd d0) ?_
  rintro e w2 ⟨rfl,k2,r2⟩
  have hR2:PfQ P rb w w2 L M0 K lost lostM (.pointer (some ⟨b,0,none⟩)):=by
   rcases hR with ⟨f,m,h1,h2,h3,h4⟩ | h
   ·refine .inl ⟨f,m,h1,h2,?_,h4⟩
    have:=(hn.add h3).call k2 r2
    exact this.kid (.head _) rfl
   ·exact .inr h
  have hn:=hn.call k2 r2
  clear hR k2 r2
  cases d1:acc sDot M0 with
  | mk q1 M1 =>
  cases q1 with
  | true =>
   obtain ⟨f,m,hm0,hE,hF,hlo⟩:=hR2.yes d1
   have z1:=acc_len d1
   have hn:=hn.add hF
   go_wp2_with fail
   refine Calls.mono (takesT hn.rd d1) ?_
   rintro e w3 ⟨rfl,k3,r3⟩
   have hn:=hn.call k3 r3
   go_wp2_with fail
   refine Calls.mono (namedQ 2 110 rfl (.inl rfl) hn.rd) ?_
   rintro e w4 ⟨x,L4,rfl,k4,r4,l4,f4,s4,x4⟩
   have hn:=hn.call k4 r4
   go_wp2_with fail
   go_roundg k
   case measure=>omega
   case rel =>
    have hE2:postfixS P L=thn (thn (exk 2 M1) fun t l2=>.ok (nd 5 { Pyl.none with name:=t.text } [f],l2)) fun f l=>afterS P m f l:=by
     rw [hE,thn_thn]
     simp only [afterS,d1]
     rfl
    have hlit:=Rn.lit (kind:=5) (y:={ Pyl.none with name:=x }) (ts:=[f]) (vs:=[.pointer (some ⟨b,0,none⟩)]) hn rfl (fun j x hx=>by
     match j,hx with
     | 0,hx=>cases hx;exact hn.kid (.head _) rfl
     | j+1,hx=>simp at hx) rfl (by simp) _ rfl
    exact ⟨_,L4,lostM,rfl,hlit.1.drop,by omega,by omega,fun e=>absurd d1 (hstk (by have:=sM e;rw [this];exact e) _ _),pfq_next hE2 (Fn.thn f4 (fun t4 _ h4=>Fn.ok (by rw [← h4];exact ⟨hlit.2,by rw [lost_nd1 rfl];exact hlo⟩)) (Sx.refl _)) (by omega)⟩
  | false =>
  go_wp2_with fail
  refine Calls.mono (takesF hn.rd d1) ?_
  rintro e w3 ⟨rfl,k3,r3⟩
  have hR3:PfQ P rb w w3 L M0 K lost lostM (.pointer (some ⟨b,0,none⟩)):=by
   rcases hR2 with ⟨f,m,h1,h2,h3,h4⟩ | h
   ·refine .inl ⟨f,m,h1,h2,?_,h4⟩
    have:=(hn.add h3).call k3 r3
    exact this.kid (.head _) rfl
   ·exact .inr h
  have hn:=hn.call k3 r3
  clear hR2 k3 r3
  cases d2:acc sSqO M0 with
  | mk q2 M2 =>
  cases q2 with
  | false =>
   have d1':=acc_false d1
   have d2':=acc_false d2
   go_wp2_with fail
   refine Calls.mono (takesF hn.rd d2) ?_
   rintro e w4 ⟨rfl,k4,r4⟩
   have hR4:PfQ P rb w w4 L M0 K lost lostM (.pointer (some ⟨b,0,none⟩)):=by
    rcases hR3 with ⟨f,m,h1,h2,h3,h4⟩ | h
    ·refine .inl ⟨f,m,h1,h2,?_,h4⟩
     have:=(hn.add h3).call k4 r4
     exact this.kid (.head _) rfl
    ·exact .inr h
   have hn:=hn.call k4 r4
   go_wp2_with fail
   go_ret
   exact ⟨b,M0,lostM,rfl,hn.kept,hn.rd,bM,sM,hR4.done hne (d1' ▸ d1) (d2' ▸ d2) d0⟩
  | true =>
   obtain ⟨f,m,hm0,hE,hF,hlo⟩:=hR3.yes d2
   have z2:=acc_len d2
   have hn:=hn.add hF
   go_wp2_with fail
   refine Calls.mono (takesT hn.rd d2) ?_
   rintro e w4 ⟨rfl,k4,r4⟩
   have hn:=hn.call k4 r4
   go_wp2_with fail
   cases d3:acc sSqC M2 with
   | mk q3 M3 =>
   cases q3 with
   | true =>
    have z3:=acc_len d3
    refine Calls.mono (takesT hn.rd d3) ?_
    rintro e w5 ⟨rfl,k5,r5⟩
    have hn:=hn.call k5 r5
    go_wp2_with fail
    go_roundg k
    case measure=>omega
    case rel =>
     have hE2:postfixS P L=afterS P m (nd 7 Pyl.none [f]) M3:=by
      rw [hE]
      simp only [afterS,d1,d2,d3]
     have hlit:=Rn.lit (kind:=7) (y:=Pyl.none) (ts:=[f]) (vs:=[.pointer (some ⟨b,0,none⟩)]) hn rfl (fun j x hx=>by
      match j,hx with
      | 0,hx=>cases hx;exact hn.kid (.head _) rfl
      | j+1,hx=>simp at hx) rfl (by simp) _ rfl
     exact ⟨_,M3,lostM,rfl,hlit.1.drop,by omega,by omega,fun e=>absurd d2 (hstk (by have:=sM e;rw [this];exact e) _ _),.inl ⟨_,m,by omega,hE2,hlit.2,by rw [lost_nd1 rfl];exact hlo⟩⟩
   | false =>
    refine Calls.mono (takesF hn.rd d3) ?_
    rintro e w5 ⟨rfl,k5,r5⟩
    have hn:=hn.call k5 r5
    go_wp2_with fail
    refine Calls.mono (hP.filter hn.rd hn.tbw (by omega) (by omega)) ?_
    rintro e w6 ⟨b6,L6,lost6,rfl,k6,r6,l6,s6,f6⟩
    have hn:=hn.item (v:=.pointer (some ⟨b6,0,none⟩)) k6 r6 f6.rn
    have f6:=f6.lo
    go_wp2_with fail
    refine Calls.mono (needsQ hn.rd) ?_
    rintro e w7 ⟨rfl,L7,k7,r7,l7,f7,s7⟩
    have hn:=hn.call k7 r7
    go_wp2_with fail
    go_roundg k
    case measure=>omega
    case rel =>
     have hE2:postfixS P L=thn (thn (P 0 M2) fun b l2=>thn (exq sSqC l2) fun _ l3=>.ok (nd 6 Pyl.none [f,b],l3)) fun f l=>afterS P m f l:=by
      rw [hE,thn_thn]
      simp only [afterS,d1,d2,d3,thn_thn]
      rfl
     refine ⟨_,L7,lost6,rfl,(hn.below ((below_alloc _ _).alloc (by simp) _)).drop,by omega,by omega,fun e=>absurd d2 (hstk (by have:=sM e;rw [this];exact e) _ _),pfq_next hE2 (Fn.thn f6 (fun a6 e6 h6=>Fn.thn f7 (fun _ _ _=>Fn.ok ⟨(Rn.lit (kind:=6) (y:=Pyl.none) (ts:=[f,a6]) (vs:=[.pointer (some ⟨b,0,none⟩),.pointer (some ⟨b6,0,none⟩)]) hn rfl (fun j x hx=>?_) rfl (by simp) _ rfl).2,?_⟩) (Sx.refl _)) s7) (by omega)⟩
     ·match j,hx with
      | 0,hx=>cases hx;exact hn.kid (.tail _ (.head _)) rfl
      | 1,hx=>cases hx;exact hn.kid (.head _) e6
      | j+2,hx=>simp at hx
     ·rw [lost_nd2 rfl]
      show lost6=lostF (lostF lost (chk f K)) (chk a6 K)
      rw [← hlo]
      exact h6
end
end Go.Proofs.Tryz
namespace Go.Proofs.Tryz
set_option maxHeartbeats 16000000
open Go.RowKit
set_option maxRecDepth 10000
def rowsT (r:Nat):List (List UInt8):=[[[124]],[[44]],[[47,47]],[[124,61],[61]],[[111,114]],[[97,110,100]],[[61,61],[33,61],[60],[60,61],[62],[62,61]],[[43],[45]],[[42],[47],[37]]].getD r []
def rowS (r:Nat):ByteArray:=⟨(spaced (rowsT r)).toArray⟩
def howB (r:Nat):Int:=[114,108,114,110,108,108,110,108,108].getD r 0
theorem row_mem (x:List UInt8) (r:Nat) (hr:r < 9):(rowsT r).contains x=decide (rowOf x=(r:Int)+1):=by
 have H:(x=[124]∧rowOf x=1)∨(x=[44]∧rowOf x=2)∨(x=[47,47]∧rowOf x=3)∨((x=[124,61]∨x=[61])∧rowOf x=4)∨(x=[111,114]∧rowOf x=5)∨(x=[97,110,100]∧rowOf x=6)∨((x=[61,61]∨x=[33,61]∨x=[60]∨x=[60,61]∨x=[62]∨x=[62,61])∧rowOf x=7)∨((x=[43]∨x=[45])∧rowOf x=8)∨((x=[42]∨x=[47]∨x=[37])∧rowOf x=9)∨((∀ r < 9,(rowsT r).contains x=false)∧rowOf x=0):=by
  by_cases h:∃ r < 9,(rowsT r).contains x=true
  ·obtain ⟨r,hr,h⟩:=h
   have:r=0∨r=1∨r=2∨r=3∨r=4∨r=5∨r=6∨r=7∨r=8:=by omega
   rcases this with rfl | rfl | rfl | rfl | rfl | rfl | rfl | rfl | rfl
   all_goals
    simp only [rowsT,List.getD_cons_zero,List.getD_cons_succ,List.contains_cons,List.contains_nil,Bool.or_false,Bool.or_eq_true,beq_iff_eq] at h
    first
     | (subst h;decide)
     | (rcases h with rfl | rfl | rfl | rfl | rfl | rfl <;> decide)
     | (rcases h with rfl | rfl | rfl <;> decide)
     | (rcases h with rfl | rfl <;> decide)
  ·have h2:∀ r < 9,(rowsT r).contains x=false:=fun r hr=>by
    rw [Bool.eq_false_iff]
    exact fun e=>h ⟨r,hr,e⟩
   have e0:=h2 0 (by omega)
   have e1:=h2 1 (by omega)
   have e2:=h2 2 (by omega)
   have e3:=h2 3 (by omega)
   have e4:=h2 4 (by omega)
   have e5:=h2 5 (by omega)
   have e6:=h2 6 (by omega)
   have e7:=h2 7 (by omega)
   have e8:=h2 8 (by omega)
   simp only [rowsT,List.getD_cons_zero,List.getD_cons_succ,List.contains_cons,List.contains_nil,Bool.or_false,Bool.or_eq_false_iff] at e0 e1 e2 e3 e4 e5 e6 e7 e8
   have:rowOf x=0:=by
    unfold rowOf
    simp only [e0,e1,e2,e3,e4,e5,e6,e7,e8,Bool.or_self,Bool.false_eq_true,if_false]
   exact .inr (.inr (.inr (.inr (.inr (.inr (.inr (.inr (.inr ⟨h2,this⟩))))))))
 have hrr:r=0∨r=1∨r=2∨r=3∨r=4∨r=5∨r=6∨r=7∨r=8:=by omega
 rcases H with ⟨rfl,h⟩ | ⟨rfl,h⟩ | ⟨rfl,h⟩ | ⟨h0,h⟩ | ⟨rfl,h⟩ | ⟨rfl,h⟩ | ⟨h0,h⟩ | ⟨h0,h⟩ | ⟨h0,h⟩ | ⟨h0,h⟩
 all_goals first
  | (rcases hrr with rfl | rfl | rfl | rfl | rfl | rfl | rfl | rfl | rfl <;> rfl)
  | (rcases h0 with rfl | rfl | rfl | rfl | rfl | rfl <;> (rcases hrr with rfl | rfl | rfl | rfl | rfl | rfl | rfl | rfl | rfl <;> rfl))
  | (rcases h0 with rfl | rfl | rfl <;> (rcases hrr with rfl | rfl | rfl | rfl | rfl | rfl | rfl | rfl | rfl <;> rfl))
  | (rcases h0 with rfl | rfl <;> (rcases hrr with rfl | rfl | rfl | rfl | rfl | rfl | rfl | rfl | rfl <;> rfl))
  | (rw [h0 r hr,h];symm;rw [decide_eq_false_iff_not];omega)
theorem row_size (r:Nat) (hr:r < 9):(rowS r).size≤50000:=by
 have:r=0∨r=1∨r=2∨r=3∨r=4∨r=5∨r=6∨r=7∨r=8:=by omega
 rcases this with rfl | rfl | rfl | rfl | rfl | rfl | rfl | rfl | rfl <;> decide
theorem row_words (r:Nat) (hr:r < 9):∀ x∈rowsT r,32 ∉ x:=by
 have:r=0∨r=1∨r=2∨r=3∨r=4∨r=5∨r=6∨r=7∨r=8:=by omega
 rcases this with rfl | rfl | rfl | rfl | rfl | rfl | rfl | rfl | rfl <;> decide
theorem within_row (r:Nat) (hr:r < 9) (x:ByteArray) (hx:x.size≤2000) (hb:32 ∉ x.data.toList) (h0:x.data.toList≠[]) (w:World) :
  Calls Tryz.prog 50 #[.string (rowS r),.string (⟨#[32]⟩ ++ x ++ ⟨#[32]⟩)] w fun e w'=>e = .returned (.bool (decide (rowOf x.data.toList=(r:Int)+1)))∧w'=w:=by
 have:=within_blank (rowS r) x w (row_size r hr) (by omega)
 rw [show (rowS r).data.toList=spaced (rowsT r) from rfl,within_spaced _ hb h0 _ (row_words r hr),row_mem _ r hr] at this
 exact this
def BindP (r:Nat) (w:World) (e:Ending) (w':World):Prop:=e = .returned (.tuple #[.string (rowS r),.int .u8 (howB r)])∧Below w.heap.size w w'
theorem bindings_ok (r:Nat) (hr:r < 9) (q:Int) (hq:q=r) (w:World):Calls Tryz.prog 56 #[.int .i64 q] w (BindP r w):=by
 have:r=0∨r=1∨r=2∨r=3∨r=4∨r=5∨r=6∨r=7∨r=8:=by omega
 subst hq
 rcases this with rfl | rfl | rfl | rfl | rfl | rfl | rfl | rfl | rfl
 all_goals
  go_enter Tryz.func56,Tryz.ntmps56
  go_wp2_with fail
  go_quiet (fail)
  go_wp2_with fail
  go_ret2
  exact ⟨rfl,Below.dN (below_alloc _ _) _⟩
end Go.Proofs.Tryz
namespace Go.Proofs.Tryz
set_option maxHeartbeats 16000000
open Go.RowKit
set_option maxRecDepth 10000
section
variable {a w w' : World} {rb g : Nat} {X : List Nat} {L L' M : List Tok} {K K' : List Kn} {lost lost' : Int} {its : List (Out Tn × Value)} {s : ByteArray}
def ClQ (P:Ps) (k m:Nat) (x:Out Tn) (rb:Nat) (w wr:World) (M:List Tok) (K:List Kn) (lost lostM:Int) (v:Value):Prop :=
 (∃ f m',M.length≤m'∧m'≤m∧x=loops P m' k f M∧Rn (fun b=>w.heap.size≤b∧nbOf wr rb≠some b) wr f v∧lostM=lostF lost (chk f K))∨(∃ r,x = .error r∧M=stuck r∧kindOf M=1)
theorem ClQ.done {P:Ps}{k m:Nat}{x:Out Tn}{wr:World}{lostM:Int}{v:Value} (h:ClQ P k m x rb w wr M K lost lostM v) (hne:M≠[]) (ho:¬ opAt M=9 - (k:Int)):Fn x M fun t=>Rn (fun b=>w.heap.size≤b∧nbOf wr rb≠some b) wr t v∧lostM=lostF lost (chk t K):=by
 rcases h with ⟨f,m',h1,_,h2,h3⟩ | ⟨r,h1,h2,h3⟩
 ·match m',h1,h2 with
  | 0,h1,_=>exact absurd (List.eq_nil_of_length_eq_zero (by omega)) hne
  | m'+1,h1,h2 =>
   rw [h2,loops,if_neg ho]
   exact Fn.ok h3
 ·rw [h1]
  exact ⟨h2,h3⟩
theorem ClQ.kept {P:Ps}{k m:Nat}{x:Out Tn}{wr wr':World}{lostM lost1:Int}{v:Value}{L1:List Tok} (h:ClQ P k m x rb w wr M K lost lostM v) (hn:NqR w wr rb g [] M K lostM []) (kp:KpR rb wr wr') (r:RdR wr' rb g L1 K lost1):ClQ P k m x rb w wr' M K lost lostM v:=by
 rcases h with ⟨f,m',h1,h2,h3,h4,h5⟩ | h
 ·exact .inl ⟨f,m',h1,h2,h3,((hn.add h4).call kp r).kid (.head _) rfl,h5⟩
 ·exact .inr h
def ClJ (P:Ps) (k m:Nat) (x:Out Tn) (w:World) (rb g:Nat) (L:List Tok) (K:List Kn) (lost:Int) (j:Nat) (v:Value) (wr:World):Prop :=
 ∃ b M lostM,v = .pointer (some ⟨b,0,none⟩)∧NqR w wr rb g [] M K lostM []∧M.length≤L.length∧M.length≤j∧Sx L M∧ClQ P k m x rb w wr M K lost lostM v
theorem RdR.hand (h:RdR w rb g L K lost):∃ t b,w.cell? ⟨rb,2,none⟩=some (.int .i64 b)∧Okt t∧Calls Tryz.prog 11 #[.pointer (some ⟨rb,0,none⟩)] w (HandP t w)∧((b < 0∧(∃ l,L=t :: l)∧∃ i:Nat,w.cell? ⟨rb,1,none⟩=some (.int .i64 i)∧i≤3000∧w.frozen? ⟨rb,1,none⟩=false∧∀ u l,L=t :: u :: l→∀ W,Below w.heap.size w W→RdR (W.setCell ⟨rb,1,none⟩ (.int .i64 ((i:Int)+1))) rb g (u :: l) K lost∧KpR rb W (W.setCell ⟨rb,1,none⟩ (.int .i64 ((i:Int)+1))))∨(¬ b < 0∧kindOf L=1)):=by
 obtain ⟨cap,F,I,bad,nv,h,h2,h3⟩:=h
 obtain ⟨t,ht,hdr⟩:=drop_cons h.lt
 refine ⟨t,bad,h.c2,h.okt t (List.mem_of_getElem? ht),hand_ok h ht,?_⟩
 rcases h2 with ⟨e,hL⟩ | ⟨e,e2,_⟩
 ·refine .inl ⟨by omega,⟨_,by rw [← hL,hdr]⟩,I,h.c1,by have:=h.lt;have:=h.len;omega,h.fz 1,fun u l e3 W hW=>?_⟩
  rw [hdr] at hL
  rw [e3] at hL h3
  have hd:F.drop (I+1)=u :: l:=(List.cons.inj hL).2
  have hl:(F.drop (I+1)).length=l.length+1:=by rw [hd];rfl
  rw [List.length_drop] at hl
  have hA:=(h.below hW).set1 (J:=I+1) (by omega)
  rw [show ((I+1:Nat):Int)=(I:Int)+1 by omega] at hA
  exact ⟨⟨cap,F,I+1,bad,nv,hA,.inl ⟨e,hd⟩,h3.2⟩,KpR.set (by decide)⟩
 ·exact .inr ⟨by omega,e2⟩
theorem NqR.drop2 (h:NqR a w rb g X L K lost its):NqR a w rb g [] L K lost its :=
 ⟨h.kept,h.rd,h.rbs,h.gbs,h.tb,fun b hb=>by simp at hb,fun q hq t l' e=>(h.its q hq t l' e).keep (fun _ hb _=>⟨hb.1,by simp,hb.2.2⟩) (Nat.le_refl _) (fun _ _ _=>rfl)⟩
theorem how_cases (r:Nat) (hr:r < 9):(howB r=114∧right ((r:Int)+1)=true)∨(howB r=110∧right ((r:Int)+1)=false∧once ((r:Int)+1)=true)∨(howB r=108∧right ((r:Int)+1)=false∧once ((r:Int)+1)=false):=by
 have:r=0∨r=1∨r=2∨r=3∨r=4∨r=5∨r=6∨r=7∨r=8:=by omega
 rcases this with rfl | rfl | rfl | rfl | rfl | rfl | rfl | rfl | rfl <;> decide
theorem climb_nine {x:Out Tn} (hM:Aside (Calls Tryz.prog 55 #[.pointer (some ⟨rb,0,none⟩)] w (GvR rb g w L K lost x))) :
  Calls Tryz.prog 27 #[.pointer (some ⟨rb,0,none⟩),.int .i64 9] w (GvR rb g w L K lost x):=by
 go_enter Tryz.func27,Tryz.ntmps27
 go_wp2_with fail
 refine Calls.mono hM.out ?_
 intro e w1 h1
 obtain ⟨b1,L1,lost1,rfl,hrest⟩:=id h1
 have H1:Aside (GvR rb g w L K lost x (.returned (.pointer (some ⟨b1,0,none⟩))) w1):=h1
 clear h1 hrest
 go_wp2_with fail
 go_ret
 exact H1.out
theorem climb_any {P:Ps}{B:Nat} (hP:SndR P B) (m:Nat):∀ (k:Nat),k≤9→∀ {w:World}{rb g:Nat}{L:List Tok}{K:List Kn}{lost:Int} (q:Int),q=9 - (k:Int)→RdR w rb g L K lost→TbR w rb→K.length+L.length≤100000→L.length≤m→8 * L.length+3≤B→
  Calls Tryz.prog 27 #[.pointer (some ⟨rb,0,none⟩),.int .i64 q] w (GvR rb g w L K lost (climbs P (loops P m) k L)):=by
 induction m using Nat.strongRecOn with
 | ind m ihm =>
 intro k
 induction k with
 | zero =>
  intro _ w rb g L K lost q hq h ht hK hm hB
  have hq:q=9:=by omega
  subst hq
  exact climb_nine (hP.minus h ht hK hB)
 | succ k ihk =>
  intro hk w rb g L K lost q hq h ht hK hm hB
  have hn:=NqR.start h ht
  have hq9:¬ q=9:=by omega
  have h1:=ihk (by omega) (q+1) (by omega) h ht hK hm hB
  obtain ⟨r,hr⟩:∃ r:Nat,r=8 - k:=⟨_,rfl⟩
  have hr9:r < 9:=by omega
  have hqr:q=(r:Int):=by omega
  have HRR:Hid _:=hr
  clear hr
  have hb:=fun w=>bindings_ok r hr9 q hqr w
  obtain ⟨xx,hxx⟩:∃ xx,climbs P (loops P m) (k+1) L=xx:=⟨_,rfl⟩
  have hx2:thn (climbs P (loops P m) k L) (fun a l1=>loops P m k a l1)=xx:=hxx
  rw [hxx]
  have H1:Aside (Calls Tryz.prog 27 #[.pointer (some ⟨rb,0,none⟩),.int .i64 (q+1)] w (GvR rb g w L K lost (climbs P (loops P m) k L))):=h1
  have HIH:Aside (∀ m':Nat,m' < m→∀ (k:Nat),k≤9→∀ {w:World}{rb g:Nat}{L:List Tok}{K:List Kn}{lost:Int} (q:Int),q=9 - (k:Int)→RdR w rb g L K lost→TbR w rb→K.length+L.length≤100000→L.length≤m'→8 * L.length+3≤B→Calls Tryz.prog 27 #[.pointer (some ⟨rb,0,none⟩),.int .i64 q] w (GvR rb g w L K lost (climbs P (loops P m') k L))):=fun m' hm' k hk=>ihm m' hm' k hk
  have HBi:Aside (∀ w:World,Calls Tryz.prog 56 #[.int .i64 q] w (BindP r w)):=hb
  have HX:Hid _:=hx2
  have HQ:Hid _:=hq
  have HR:Hid _:=hqr
  have hq0:0≤q:=by omega
  have hq8:q≤8:=by omega
  clear h h1 ihk ihm hb hxx hx2 hq hqr
  go_enter Tryz.func27,Tryz.ntmps27
  go_wp2_with fail
  refine Calls.mono H1.out ?_
  rintro e w1 ⟨b1,L1,lost1,rfl,k1,r1,l1,s1,f1⟩
  have hn:=hn.call k1 r1
  go_wp2_with fail
  refine Calls.mono (HBi.out _) ?_
  rintro e w2 ⟨rfl,hB2⟩
  have hn2:=hn.below hB2
  go_wp2_with fail
  go_loopg [5] (L.length+1) (fun j v wr=>ClJ P k m xx w rb g L K lost j v wr)
  case atStart =>
   refine ⟨b1,L1,lost1,rfl,hn2,l1,by omega,s1,?_⟩
   rw [← HX.out]
   match hx:climbs P (loops P m) k L,f1 with
   | .ok (t,l),⟨e,gg⟩ =>
    subst e
    refine .inl ⟨t,m,by omega,Nat.le_refl _,rfl,?_,gg.2⟩
    have:=((NqR.drop hn).add gg.1).below hB2
    exact this.kid (.head _) rfl
   | .error r',⟨e,kk⟩=>exact .inr ⟨r',rfl,e,kk⟩
  case round =>
   clear hn hn2 f1 r1 k1
   obtain ⟨b,M,lostM,rfl,hn,bM,bk,sM,hR⟩:=hrel
   have hne:=hn.rd.wf.ne
   have hwf:=hn.rd.wf
   have hrb:=hn.rd.rbs
   obtain ⟨t,bad,c2,okt,hhand,hcase⟩:=hn.rd.hand
   have HH:Aside (Calls Tryz.prog 11 #[.pointer (some ⟨rb,0,none⟩)] wr (HandP t wr)):=hhand
   clear hhand
   match gk,bk with
   | 0,bk=>exact absurd hne (by intro h;exact h (List.eq_nil_of_length_eq_zero (by omega)))
   | j+1,bk =>
   have kb:=kb_sign okt.k0 okt.k7
   go_wp2_with fail
   refine Calls.mono HH.out ?_
   rintro e w3 ⟨k3,x3,n3,p3,rfl,hT,hB3⟩
   have c2':w3.cell? ⟨rb,2,none⟩=some (.int .i64 bad):=(hB3.cell (p:=⟨rb,2,none⟩) hrb).trans c2
   have hrb3:rb < w3.heap.size:=Nat.lt_of_lt_of_le hrb hB3.size
   have hBk:Below wr.heap.size wr (w3.alloc (.cells #[.int .u8 k3,.string x3,.int .i64 n3,.int .i64 p3] 43)):=hB3.alloc hB3.size _
   have HT:Aside (RTk t k3 x3 n3 p3):=hT
   have hback:¬ opAt M=9 - (k:Int)→GvR rb g w L K lost xx (.returned (.pointer (some ⟨b,0,none⟩))) (w3.alloc (.cells #[.int .u8 k3,.string x3,.int .i64 n3,.int .i64 p3] 43)):=fun ho=>by
    have hn3:=hn.below hBk
    have hR3:=hR.kept hn (KpR.of_below hBk hrb) hn3.rd
    exact ⟨b,M,lostM,rfl,hn3.kept,hn3.rd,bM,sM,hR3.done hne ho⟩
   have HBK:Aside (¬ opAt M=9 - (k:Int)→GvR rb g w L K lost xx (.returned (.pointer (some ⟨b,0,none⟩))) (w3.alloc (.cells #[.int .u8 k3,.string x3,.int .i64 n3,.int .i64 p3] 43))):=hback
   clear hback
   have hk9:k≤8:=by omega
   rcases hcase with ⟨hbad,⟨l,hM⟩,i,c1,hi,f1,hnext⟩ | ⟨hbad,hk1⟩
   case inr =>
    have hop:¬ opAt M=9 - (k:Int):=by
     cases M with
     | nil=>exact absurd rfl hne
     | cons u m' =>
      have hu:u.kind=1:=hk1
      show ¬ opOf u=_
      unfold opOf
      rw [hu]
      simp
      omega
    clear hT kb
    go_wp2_with fail
    go_ret
    exact HBK.out hop
   have nb:¬ 0≤bad:=by omega
   by_cases hsg:t.kind=7∨t.kind=3
   case neg =>
    have hop:¬ opAt M=9 - (k:Int):=by
     rw [hM]
     show ¬ opOf t=_
     unfold opOf
     have h7:¬ t.kind=7:=fun e=>hsg (.inl e)
     have h3:¬ t.kind=3:=fun e=>hsg (.inr e)
     simp [h7,h3]
     omega
    have n1:¬ k3=112:=fun e=>hsg (.inl (kb.1.1 (hT.kind ▸ e)))
    have n2:¬ k3=119:=fun e=>hsg (.inr (kb.2.1.1 (hT.kind ▸ e)))
    clear hT kb
    go_wp2_with fail
    go_ret
    exact HBK.out hop
   have hxx3:=hT.text (by omega) (by omega) (by omega)
   obtain ⟨hb32,hne0⟩:=okt.sign (by omega)
   have hsz:=okt.size
   rw [← hxx3] at hb32 hne0 hsz
   have hwi:=fun w=>within_row r hr9 x3 hsz hb32 hne0 w
   have hopt:opAt M=rowOf x3.data.toList:=by
    rw [hM,hxx3]
    show opOf t=_
    unfold opOf
    rw [if_pos (by simpa using hsg)]
   have hrow:((rowOf x3.data.toList=(r:Int)+1))↔opAt M=9 - (k:Int):=by rw [hopt];have:=HR.out;have:=HQ.out;omega
   have HW:Aside (∀ w:World,Calls Tryz.prog 50 #[.string (rowS r),.string (⟨#[32]⟩ ++ x3 ++ ⟨#[32]⟩)] w fun e w'=>e = .returned (.bool (decide (rowOf x3.data.toList=(r:Int)+1)))∧w'=w):=hwi
   clear hwi
   have hkk:k3=112∨k3=119:=by
    rw [hT.kind]
    rcases hsg with e | e
    ·exact .inl (kb.1.2 e)
    ·exact .inr (kb.2.1.2 e)
   by_cases hop:opAt M=9 - (k:Int)
   case neg =>
    have hdf:decide (rowOf x3.data.toList=(r:Int)+1)=false:=decide_eq_false (fun e=>hop (hrow.1 e))
    clear hT kb hrow hopt hxx3
    rcases hkk with rfl | rfl
    all_goals
     go_wp2_with fail
     refine Calls.mono (HW.out _) ?_
     rintro e w4 ⟨rfl,h4⟩
     subst w4
     rw [hdf]
     go_wp2_with fail
     go_ret
     exact HBK.out hop
   have hdt:decide (rowOf x3.data.toList=(r:Int)+1)=true:=decide_eq_true (hrow.2 hop)
   have HXX:Hid _:=hxx3
   have hl2:∃ u l',l=u :: l':=by
    cases l with
    | nil =>
     rw [hM] at hwf
     have hwf:t.kind=0∨t.kind=1:=hwf
     omega
    | cons u l'=>exact ⟨u,l',rfl⟩
   obtain ⟨u,l',rfl⟩:=hl2
   obtain ⟨hrdI,hkpI⟩:=hnext u l' hM w3 hB3
   have c1':w3.cell? ⟨rb,1,none⟩=some (.int .i64 i):=(hB3.cell (p:=⟨rb,1,none⟩) hrb).trans c1
   have f1':w3.frozen? ⟨rb,1,none⟩=false:=(hB3.frozen (p:=⟨rb,1,none⟩) hrb).trans f1
   have hMl:M.length=l'.length+2:=by rw [hM];simp
   have hmm:∃ f m',l'.length+1≤m'∧m' < m∧xx=thn (climbs P (loops P m') (if right (9 - (k:Int)) then k+1 else k) (u :: l')) (fun b l1=>if right (9 - (k:Int)) || once (9 - (k:Int)) then .ok (binT t.text f b,l1) else loops P m' k (binT t.text f b) l1)∧Rn (fun b=>w.heap.size≤b∧nbOf wr rb≠some b) wr f (.pointer (some ⟨b,0,none⟩))∧lostM=lostF lost (chk f K):=by
    rcases hR with ⟨f,m',h1,h2,h3,h4,h5⟩ | ⟨r',_,_,h3⟩
    ·match m',h1,h2,h3 with
     | 0,h1,_,_=>omega
     | m'+1,h1,h2,h3 =>
      refine ⟨f,m',by omega,by omega,?_,h4,h5⟩
      rw [h3,loops,if_pos hop,hM]
      rfl
    ·rw [hM] at h3
     have h3:t.kind=1:=h3
     omega
   obtain ⟨f,m',hm1,hm2,hE,hF,hlo⟩:=hmm
   have hn1:=(((hn.add hF).below hB3).call hkpI hrdI).own (.cells #[.int .u8 k3,.string x3,.int .i64 n3,.int .i64 p3] 43)
   obtain ⟨WI,hWI⟩:∃ WI,(w3.setCell ⟨rb,1,none⟩ (.int .i64 ((i:Int)+1))).alloc (.cells #[.int .u8 k3,.string x3,.int .i64 n3,.int .i64 p3] 43)=WI:=⟨_,rfl⟩
   have hz8:w3.heap.size < WI.heap.size:=by rw [← hWI];simp
   have hnw:WI.heap[w3.heap.size]? = some (.cells #[.int .u8 k3,.string x3,.int .i64 n3,.int .i64 p3] 43):=by
    rw [← hWI]
    have:=heap_new (w3.setCell ⟨rb,1,none⟩ (.int .i64 ((i:Int)+1))) (.cells #[.int .u8 k3,.string x3,.int .i64 n3,.int .i64 p3] 43)
    simpa using this
   rw [hWI] at hn1
   simp only [World.size_setCell] at hn1
   have HC1:Aside (Cl WI w3.heap.size [.int .u8 k3,.string x3,.int .i64 n3,.int .i64 p3]):=cl_heap hnw
   have HN1:Aside (NqR w WI rb g [w3.heap.size] (u :: l') K lostM [(.ok (f,[]),.pointer (some ⟨b,0,none⟩))]):=hn1
   have HE:Hid _:=hE
   have hrow9:9 - (k:Int)=(r:Int)+1:=by have:=HR.out;have:=HQ.out;omega
   have hhow:=how_cases r hr9
   rw [← hrow9] at hhow
   have hsML:Sx L (u :: l'):=fun e=>by
    have:=sM e
    rw [hM] at this
    rw [← this] at e
    have e:t.kind=1:=e
    omega
   clear hT kb hrow hopt hxx3 hn1 hR hn hrdI hkpI hE hF hnext hM hop hwf hrow9
   rcases hhow with ⟨hhow,hri⟩ | ⟨hhow,hri,hon⟩ | ⟨hhow,hri,hon⟩
   ·have hE:=HE.out
    simp only [hri,if_true,Bool.true_or,Bool.false_or,Bool.or_true,Bool.or_false,Bool.false_eq_true,if_false] at hE
    have HE:Hid _:=hE
    clear hE hri hnw
    rcases hkk with rfl | rfl
    all_goals
     go_wp2_with fail
     refine Calls.mono (HW.out _) ?_
     rintro e w4 ⟨rfl,h4⟩
     subst w4
     rw [hdt]
     go_wp2_with fail
     clear hWI
     refine Calls.mono (HIH.out m' hm2 (k+1) (by omega) q (by have:=HQ.out;omega) HN1.out.rd HN1.out.tbw (by simp;omega) (by simp;omega) (by simp;omega)) ?_
     rintro e w5 ⟨b5,L5,lost5,rfl,k5,r5,l5,s5,f5⟩
     have hc5:=HC1.out.callR HN1.out (.head _) k5
     have hn5:=(HN1.out.item (v:=.pointer (some ⟨b5,0,none⟩)) k5 r5 f5.rn).drop2
     have f5:=f5.lo
     have e8:w5.cell? ⟨w3.heap.size,1,none⟩=some (.string x3):=(hc5.cell 1).trans rfl
     have hz5:w3.heap.size < w5.heap.size:=Nat.lt_of_lt_of_le hz8 k5.size
     simp only [List.length_cons] at l5
     have HN5:Aside (NqR w w5 rb g [] L5 K lost5 [(climbs P (loops P m') (k+1) (u :: l'),.pointer (some ⟨b5,0,none⟩)),(.ok (f,[]),.pointer (some ⟨b,0,none⟩))]):=hn5
     clear hn5 hc5
     go_wp2_with fail
     go_ret
     rw [HE.out]
     have hn6:=HN5.out.below (w':=(w5.alloc (.cells #[.pointer (some ⟨b,0,none⟩),.pointer (some ⟨b5,0,none⟩)] 25)).alloc (.cells #[.string x3,.string ⟨#[]⟩,.int .i64 0,.int .i64 0,.string ⟨#[]⟩,.slice none 0 0,.slice none 0 0,.slice (some ⟨w5.heap.size,0,none⟩) 2 2,.slice none 0 0] 51)) ((below_alloc _ _).alloc (by simp) _)
     refine ⟨w5.heap.size+1,L5,lost5,rfl,hn6.kept,hn6.rd,by omega,hsML.trans s5,Fn.thn f5 (fun a5 e5 h5=>Fn.ok ?_) (Sx.refl _)⟩
     rw [← HXX.out]
     refine ⟨(Rn.lit (kind:=12) (y:={ Pyl.none with name:=x3 }) (ts:=[f,a5]) (vs:=[.pointer (some ⟨b,0,none⟩),.pointer (some ⟨b5,0,none⟩)]) HN5.out rfl (fun j x hx=>?_) rfl (by simp) _ rfl).2,?_⟩
     ·match j,hx with
      | 0,hx=>cases hx;exact HN5.out.kid (.tail _ (.head _)) rfl
      | 1,hx=>cases hx;exact HN5.out.kid (.head _) e5
      | j+2,hx=>simp at hx
     ·show lost5=lostF lost (chk (nd 12 { Pyl.none with name:=x3 } [f,a5]) K)
      rw [lost_nd2 rfl]
      show lost5=lostF (lostF lost (chk f K)) (chk a5 K)
      rw [← hlo]
      exact h5
   ·have hE:=HE.out
    simp only [hri,hon,if_true,Bool.true_or,Bool.false_or,Bool.or_true,Bool.or_false,Bool.false_eq_true,if_false] at hE
    have HE:Hid _:=hE
    clear hE hri hon hnw
    rcases hkk with rfl | rfl
    all_goals
     go_wp2_with fail
     refine Calls.mono (HW.out _) ?_
     rintro e w4 ⟨rfl,h4⟩
     subst w4
     rw [hdt]
     go_wp2_with fail
     clear hWI
     refine Calls.mono (HIH.out m' hm2 k (by omega) (q+1) (by have:=HQ.out;omega) HN1.out.rd HN1.out.tbw (by simp;omega) (by simp;omega) (by simp;omega)) ?_
     rintro e w5 ⟨b5,L5,lost5,rfl,k5,r5,l5,s5,f5⟩
     have hc5:=HC1.out.callR HN1.out (.head _) k5
     have hn5:=(HN1.out.item (v:=.pointer (some ⟨b5,0,none⟩)) k5 r5 f5.rn).drop2
     have f5:=f5.lo
     have e8:w5.cell? ⟨w3.heap.size,1,none⟩=some (.string x3):=(hc5.cell 1).trans rfl
     have hz5:w3.heap.size < w5.heap.size:=Nat.lt_of_lt_of_le hz8 k5.size
     simp only [List.length_cons] at l5
     have HN5:Aside (NqR w w5 rb g [] L5 K lost5 [(climbs P (loops P m') k (u :: l'),.pointer (some ⟨b5,0,none⟩)),(.ok (f,[]),.pointer (some ⟨b,0,none⟩))]):=hn5
     clear hn5 hc5
     go_wp2_with fail
     go_ret
     rw [HE.out]
     have hn6:=HN5.out.below (w':=(w5.alloc (.cells #[.pointer (some ⟨b,0,none⟩),.pointer (some ⟨b5,0,none⟩)] 25)).alloc (.cells #[.string x3,.string ⟨#[]⟩,.int .i64 0,.int .i64 0,.string ⟨#[]⟩,.slice none 0 0,.slice none 0 0,.slice (some ⟨w5.heap.size,0,none⟩) 2 2,.slice none 0 0] 51)) ((below_alloc _ _).alloc (by simp) _)
     refine ⟨w5.heap.size+1,L5,lost5,rfl,hn6.kept,hn6.rd,by omega,hsML.trans s5,Fn.thn f5 (fun a5 e5 h5=>Fn.ok ?_) (Sx.refl _)⟩
     rw [← HXX.out]
     refine ⟨(Rn.lit (kind:=12) (y:={ Pyl.none with name:=x3 }) (ts:=[f,a5]) (vs:=[.pointer (some ⟨b,0,none⟩),.pointer (some ⟨b5,0,none⟩)]) HN5.out rfl (fun j x hx=>?_) rfl (by simp) _ rfl).2,?_⟩
     ·match j,hx with
      | 0,hx=>cases hx;exact HN5.out.kid (.tail _ (.head _)) rfl
      | 1,hx=>cases hx;exact HN5.out.kid (.head _) e5
      | j+2,hx=>simp at hx
     ·show lost5=lostF lost (chk (nd 12 { Pyl.none with name:=x3 } [f,a5]) K)
      rw [lost_nd2 rfl]
      show lost5=lostF (lostF lost (chk f K)) (chk a5 K)
      rw [← hlo]
      exact h5
   ·have hE:=HE.out
    simp only [hri,hon,if_true,Bool.true_or,Bool.false_or,Bool.or_true,Bool.or_false,Bool.false_eq_true,if_false] at hE
    have HE:Hid _:=hE
    clear hE hri hon hnw
    have hh1:(howB r == 114)=false:=by rw [hhow];rfl
    have hh2:(howB r == 108)=true:=by rw [hhow];rfl
    have hh3:¬ howB r=114:=by rw [hhow];decide
    have HHW:Hid _:=hhow
    clear hhow
    rcases hkk with rfl | rfl
    all_goals
     go_wp2_with fail
     refine Calls.mono (HW.out _) ?_
     rintro e w4 ⟨rfl,h4⟩
     subst w4
     rw [hdt]
     go_wp2_with fail
     clear hWI
     refine Calls.mono (HIH.out m' hm2 k (by omega) (q+1) (by have:=HQ.out;omega) HN1.out.rd HN1.out.tbw (by simp;omega) (by simp;omega) (by simp;omega)) ?_
     rintro e w5 ⟨b5,L5,lost5,rfl,k5,r5,l5,s5,f5⟩
     have hc5:=HC1.out.callR HN1.out (.head _) k5
     have hn5:=(HN1.out.item (v:=.pointer (some ⟨b5,0,none⟩)) k5 r5 f5.rn).drop2
     have f5:=f5.lo
     have e8:w5.cell? ⟨w3.heap.size,1,none⟩=some (.string x3):=(hc5.cell 1).trans rfl
     have hz5:w3.heap.size < w5.heap.size:=Nat.lt_of_lt_of_le hz8 k5.size
     simp only [List.length_cons] at l5
     have HN5:Aside (NqR w w5 rb g [] L5 K lost5 [(climbs P (loops P m') k (u :: l'),.pointer (some ⟨b5,0,none⟩)),(.ok (f,[]),.pointer (some ⟨b,0,none⟩))]):=hn5
     clear hn5 hc5
     go_wp2_with fail
     go_roundg j
     case measure=>omega
     case rel =>
     have hn6:=HN5.out.below (w':=(w5.alloc (.cells #[.pointer (some ⟨b,0,none⟩),.pointer (some ⟨b5,0,none⟩)] 25)).alloc (.cells #[.string x3,.string ⟨#[]⟩,.int .i64 0,.int .i64 0,.string ⟨#[]⟩,.slice none 0 0,.slice none 0 0,.slice (some ⟨w5.heap.size,0,none⟩) 2 2,.slice none 0 0] 51)) ((below_alloc _ _).alloc (by simp) _)
     refine ⟨w5.heap.size+1,L5,lost5,rfl,hn6.drop,by omega,by omega,hsML.trans s5,?_⟩
     rw [HE.out]
     match hx:climbs P (loops P m') k (u :: l'),f5 with
     | .error r',⟨e,kk⟩=>exact .inr ⟨r',rfl,e,kk⟩
     | .ok (a5,l),⟨e,h5⟩ =>
     subst e
     have e5:=hx
     refine .inl ⟨binT t.text f a5,m',by omega,by omega,rfl,?_⟩
     rw [← HXX.out]
     refine ⟨(Rn.lit (kind:=12) (y:={ Pyl.none with name:=x3 }) (ts:=[f,a5]) (vs:=[.pointer (some ⟨b,0,none⟩),.pointer (some ⟨b5,0,none⟩)]) HN5.out rfl (fun j x hx=>?_) rfl (by simp) _ rfl).2,?_⟩
     ·match j,hx with
      | 0,hx=>cases hx;exact HN5.out.kid (.tail _ (.head _)) rfl
      | 1,hx=>cases hx;exact HN5.out.kid (.head _) e5
      | j+2,hx=>simp at hx
     ·show lost5=lostF lost (chk (nd 12 { Pyl.none with name:=x3 } [f,a5]) K)
      rw [lost_nd2 rfl]
      show lost5=lostF (lostF lost (chk f K)) (chk a5 K)
      rw [← hlo]
      exact h5
end
end Go.Proofs.Tryz
