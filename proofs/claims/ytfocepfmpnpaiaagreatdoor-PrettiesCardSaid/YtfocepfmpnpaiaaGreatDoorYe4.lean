import Derived.Test.YtfocepfmpnpaiaaGreatDoorYd6
import Derived.WalkSmall
set_option linter.all false
namespace Go.Proofs.Tryz
set_option maxHeartbeats 16000000
open Go.RowKit
set_option maxRecDepth 10000
abbrev Mq:=(Nat×ByteArray×Tn×Tn)×Value×Value
def mqCells (q:Mq):List Value:=[.string (mD (memN q.1)).1,q.2.1,.bool (mD (memN q.1)).2,q.2.2]
def mqKids (q:Mq):List Tn:=[q.1.2.2.1,q.1.2.2.2]
def mqIts (q:Mq):List (Out Tn×Value):=[(.ok (q.1.2.2.1,[]),q.2.1),(.ok (q.1.2.2.2,[]),q.2.2)]
theorem memD_eq (i:Nat) (x:ByteArray):memD i x=[.error (.string (mD x).1),.ok (2 * i),.error (.bool (mD x).2),.ok (2 * i+1)]:=by
 unfold memD mD
 split
 ·rfl
 ·split <;> rfl
theorem memRow {p:Nat→Prop}{w:World}{K:Nat→Tn}:∀ (qs:List Mq) (i:Nat),(∀ k,(qs.flatMap mqKids).getD k Tn.no=K (2 * i+k))→(∀ q∈qs,Rf p w q.1.2.2.1 q.2.1∧Rf p w q.1.2.2.2 q.2.2)→∀ (j:Nat) (d:Cd),(memsD i (qs.map fun q=>memN q.1))[j]? = some d→∃ x,(qs.flatMap mqCells)[j]? = some x∧match d with
  | .error u=>x=u
  | .ok k=>Rf p w (K k) x
 | [],i,_,_,j,d,hd=>by simp [memsD] at hd
 | q :: qs,i,hK,hR,j,d,hd=>by
  have k0:=hK 0
  have k1:=hK 1
  simp only [List.flatMap_cons,mqKids,List.cons_append,List.nil_append,List.getD_cons_zero,List.getD_cons_succ,Nat.add_zero] at k0 k1
  have hq:=hR q (.head _)
  simp only [List.map_cons,memsD,memD_eq,List.cons_append,List.nil_append] at hd
  simp only [List.flatMap_cons,mqCells,List.cons_append,List.nil_append]
  match j,hd with
  | 0,hd=>cases hd;exact ⟨_,rfl,rfl⟩
  | 1,hd=>cases hd;exact ⟨_,rfl,by show Rf p w (K (2 * i)) q.2.1;rw [← k0];exact hq.1⟩
  | 2,hd=>cases hd;exact ⟨_,rfl,rfl⟩
  | 3,hd=>cases hd;exact ⟨_,rfl,by show Rf p w (K (2 * i+1)) q.2.2;rw [← k1];exact hq.2⟩
  | j+4,hd =>
   refine memRow (K:=K) qs (i+1) (fun k=>?_) (fun q hq=>hR q (.tail _ hq)) j d hd
   have:=hK (k+2)
   simp only [List.flatMap_cons,mqKids,List.cons_append,List.nil_append,List.getD_cons_succ] at this
   rw [this]
   congr 1
   omega
theorem memsD_len:∀ (l:List ByteArray) (i:Nat),(memsD i l).length=l.length * 4
 | [],_=>rfl
 | x :: l,i=>by
  rw [memsD,List.length_append,memsD_len l,memD_eq]
  simp
  omega
theorem mq_len:∀ (qs:List Mq),(qs.flatMap mqCells).length=qs.length * 4
 | []=>rfl
 | q :: qs=>by
  rw [List.flatMap_cons,List.length_append,mq_len qs]
  simp [mqCells]
  omega
theorem build_kids (qs:List Mq):((qs.map (·.1)).flatMap fun m=>[m.2.2.1,m.2.2.2])=qs.flatMap mqKids:=by
 rw [List.flatMap_map]
 rfl
theorem Rf.build {a w:World}{rb tb N:Nat}{X:List Nat}{M:List Tok}{rv:Value}{n:Nat}{qs:List Mq}{its:List (Out Tn×Value)} (hn:Nq a w rb tb X M its) (hi:its=qs.flatMap mqIts) (hN:N∈X) (hc:Cl w N [rv]) (hg:∀ g,rv.ownBlock=some g→g∈X∧g≠N) (ow:w.ownsRow 0 169 4 rv n (qs.flatMap mqCells)) (hts:qs.length=n) :
  Rf (a.heap.size≤·) w (buildT (qs.map (·.1))) (.iface (typF 10) (.pointer (some ⟨N,0,none⟩))):=by
 have hm:=hn.mine _ hN
 subst hi
 unfold buildT
 refine Rf.mkr hm.1 hm.2 trivial (c:=0) (T:=169) (s:=4) (n:=(qs.map (·.1)).length) (ds:=memsD 0 (qs.map fun q=>memN q.1)) ?_ ((hc.cell 0).trans rfl) (by rw [List.length_map,hts];exact ow) (fun g e=>(hn.mine g (hg g e).1).1) (by rw [mq_len,memsD_len,List.length_map]) (fun j d hd=>?_)
 ·simp only [rowF,List.map_map,List.length_map]
  rfl
 ·refine memRow (K:=fun k=>List.getD ((qs.map (·.1)).flatMap fun m=>[m.2.2.1,m.2.2.2]) k Tn.no) qs 0 (fun k=>?_) (fun q hq=>⟨?_,?_⟩) j d hd
  ·rw [build_kids]
   congr 1
   omega
  ·exact hn.kid (List.mem_flatMap.mpr ⟨q,hq,.head _⟩) rfl
  ·exact hn.kid (List.mem_flatMap.mpr ⟨q,hq,.tail _ (.head _)⟩) rfl
def BuR (P:Ps) (L0 M:List Tok) (n:Nat) (vs:List Value) (its:List (Out Tn×Value)):Prop :=
  (∃ (qs:List Mq) (m:Nat),qs.length=n∧M.length≤m∧buildS P L0=thn (membersS P m M) (fun az l2=>thn (exq sCuC l2) fun _ l3=>.ok (buildT (qs.map (·.1) ++ az),l3))∧its=qs.flatMap mqIts∧vs=qs.flatMap mqCells)∨
     (∃ r,buildS P L0 = .error r∧M=stuck r∧kindOf M=1)
def BuI (P:Ps) (w wr:World) (rb tb N:Nat) (L0:List Tok) (k:Nat):Prop :=
 ∃ (X:List Nat) (M:List Tok) (rv:Value) (n:Nat) (vs:List Value) (its:List (Out Tn×Value)),N∈X∧Cl wr N [rv]∧(∀ g,rv.ownBlock=some g→g∈X∧g≠N)∧wr.ownsRow 0 169 4 rv n vs∧n+M.length≤L0.length+1∧M.length≤k∧M.length≤L0.length∧Sx L0 M∧Nq w wr rb tb X M its∧BuR P L0 M n vs its
theorem BuR.yes {P:Ps}{L0 M M1:List Tok}{n:Nat}{vs:List Value}{its:List (Out Tn×Value)}{s:ByteArray} (h:BuR P L0 M n vs its) (e:acc s M=(true,M1)):∃ (qs:List Mq) (m:Nat),qs.length=n∧M1.length≤m∧buildS P L0=thn (membersS P (m+1) M) (fun az l2=>thn (exq sCuC l2) fun _ l3=>.ok (buildT (qs.map (·.1) ++ az),l3))∧its=qs.flatMap mqIts∧vs=qs.flatMap mqCells:=by
 rcases h with ⟨ts,m,h1,h2,h3⟩ | ⟨r,_,_,k⟩
 ·have:=acc_true e
  match m,h2,h3 with
  | 0,h2,_=>omega
  | m+1,h2,h3=>exact ⟨ts,m,h1,by omega,h3⟩
 ·rw [acc_one k] at e
  cases e
def outA (x:Out (Nat×ByteArray×Tn×Tn)):Out Tn:=match x with
 | .ok (q,l)=>.ok (q.2.2.1,l)
 | .error r=>.error r
def outB (x:Out (Nat×ByteArray×Tn×Tn)):Out Tn:=match x with
 | .ok (q,l)=>.ok (q.2.2.2,l)
 | .error r=>.error r
variable {a w w' : World} {rb tb : Nat} {X : List Nat} {L L' : List Tok} {its : List (Out Tn × Value)}
theorem Nq.member (h:Nq a w rb tb X L its) (k:KeptB rb tb w w') (r:RdP w' rb tb L') {x:Out (Nat×ByteArray×Tn×Tn)}{kv vv:Value}{nm:ByteArray}{br:Bool} (f:Fn x L' fun q=>mD (memN q)=(nm,br)∧Rf (w.heap.size≤·) w' q.2.2.1 kv∧Rf (w.heap.size≤·) w' q.2.2.2 vv):Nq a w' rb tb X L' ((outA x,kv) :: (outB x,vv) :: its):=by
 have fB:Fn (outB x) L' fun t=>Rf (w.heap.size≤·) w' t vv:=by
  match x,f with
  | .ok (q,l),f=>exact ⟨f.1,f.2.2.2⟩
  | .error r,f=>exact f
 have fA:Fn (outA x) L' fun t=>Rf (w.heap.size≤·) w' t kv:=by
  match x,f with
  | .ok (q,l),f=>exact ⟨f.1,f.2.2.1⟩
  | .error r,f=>exact f
 have hB:=h.item k r fB
 have hA:=h.item k r fA
 exact hB.add fun t l' e=>hA.its _ (.head _) t l' e
theorem bu_next {P:Ps}{wr:World}{L0 M:List Tok}{n:Nat}{nm:ByteArray}{br:Bool}{kv vv:Value}{x:Out (Nat×ByteArray×Tn×Tn)}{qs:List Mq}{g:Nat×ByteArray×Tn×Tn→Prop}{q:List Tok→Nat} (h:buildS P L0=thn x fun a l1=>thn (membersS P (q l1) l1) fun az l2=>thn (exq sCuC l2) fun _ l3=>.ok (buildT (qs.map (·.1) ++ a :: az),l3))
  (hq:M.length≤q M) (hx:Fn x M fun q=>mD (memN q)=(nm,br)∧g q) (hn:Nq w wr rb tb X M ((outA x,kv) :: (outB x,vv) :: qs.flatMap mqIts)) (hts:qs.length=n):∃ its,Nq w wr rb tb X M its∧BuR P L0 M (n+1) (qs.flatMap mqCells ++ [.string nm,kv,.bool br,vv]) its:=by
 match x,hx with
 | .ok (a,l),⟨e,hm,_⟩ =>
  subst e
  refine ⟨(qs ++ [(a,kv,vv)]).flatMap mqIts,?_,.inl ⟨qs ++ [(a,kv,vv)],q M,by simp [hts],hq,?_,rfl,?_⟩⟩
  ·rw [List.flatMap_append]
   refine ((hn.add (x:=.ok (a.2.2.2,[])) (v:=vv) (fun t l' e=>by cases e;exact hn.its _ (.tail _ (.head _)) _ M rfl)).add (x:=.ok (a.2.2.1,[])) (v:=kv) (fun t l' e=>by cases e;exact hn.its _ (.head _) _ M rfl)).perm fun q hq=>?_
   rcases List.mem_append.mp hq with h | h
   ·exact .tail _ (.tail _ (.tail _ (.tail _ h)))
   ·simp only [List.flatMap_cons,List.flatMap_nil,mqIts,List.append_nil] at h
    rcases List.mem_cons.mp h with h | h
    ·rw [h];exact .head _
    ·rw [List.mem_singleton.mp h];exact .tail _ (.head _)
  ·rw [h]
   simp [thn]
  ·rw [List.flatMap_append]
   simp [mqCells,hm]
 | .error r,⟨e,k⟩=>exact ⟨[],hn.perm (by simp),.inr ⟨r,h,e,k⟩⟩
theorem four_one {nm:ByteArray}{kv vv:Value}{br:Bool} (h1:kv.oneCell'=true) (h2:vv.oneCell'=true):∀ u∈[.string nm,kv,.bool br,vv],u.oneCell'=true:=by
 intro u hu
 simp only [List.mem_cons,List.not_mem_nil,or_false] at hu
 rcases hu with rfl | rfl | rfl | rfl
 ·rfl
 ·exact h1
 ·rfl
 ·exact h2
theorem info_memberP:(Tryz.prog.info? 169).map (fun i=>(i.zero,i.size,i.bytes))=some (some (.agg #[.string ⟨#[]⟩,.nilIface,.bool false,.nilIface]),4,56):=by kernel_rfl
end Go.Proofs.Tryz
namespace Go.Proofs.Tryz
set_option maxHeartbeats 16000000
open Go.RowKit
set_option maxRecDepth 10000
theorem build_ok {P:Ps}{B:Nat} (hP:SndP P B) {w:World}{rb tb:Nat}{L:List Tok} (h:RdP w rb tb L) (hB:8 * L.length+8≤B) :
  Calls Tryz.prog 142 #[.pointer (some ⟨rb,0,none⟩)] w (Gv rb tb w L (buildS P L)):=by
 have hfd:=field_text
 have hfp:=field_pos
 have hsm:=hP.small
 obtain ⟨i0,hi0,hz0,hz1,hz2⟩:=info_parts info_memberP
 go_enter Tryz.func142,Tryz.ntmps142
 go_wp2_with fail
 have hc:=Cl.start w [.slice none 0 0] 167
 have hn:=(Nq.start h).own (.cells #[.slice none 0 0] 167)
 cases d0:acc sCuC L with
 | mk b0 M0 =>
 cases b0 with
 | true =>
  refine Calls.mono (acceptT hn.rd d0) ?_
  rintro e w2 ⟨rfl,k2,r2⟩
  have b0:=acc_true d0
  have hc:=hc.call hn (.head _) k2
  have hn:=hn.call k2 r2
  go_wp2_with fail
  go_ret
  exact ⟨.iface (typF 10) (.pointer (some ⟨w.heap.size,0,none⟩)),M0,rfl,rfl,hn.kept,hn.rd,by omega,sx_acct d0,by
   rw [show buildS P L = .ok (buildT [],M0) by simp [buildS,d0]]
   exact Fn.ok (Rf.build (qs:=[]) (hn.perm (fun q hq=>by simp at hq)) rfl (.head _) hc (by simp [Value.ownBlock]) (World.ownsRow_nil _ _ _ _) rfl)⟩
 | false =>
  refine Calls.mono (acceptF hn.rd d0) ?_
  rintro e w2 ⟨rfl,k2,r2⟩
  have hc:=hc.call hn (.head _) k2
  have hn:=hn.call k2 r2
  have hS:w2.cell? ⟨w.heap.size,0,none⟩=some (.slice none 0 0):=(hc.cell 0).trans rfl
  have q2:=hc.free
  have q3:=(hn.mine _ (.head _)).2
  go_wp2_with fail
  go_region_law
   (first
    | (refine step_append_lies _ (by rfl) _ _ _ (by rfl) 0 169 i0 _ 4 56 Tryz.underlying165 hi0 hz0 hz1 hz2 rfl (by omega) (.slice none 0 0) 0 [] (by rfl) (World.ownsRow_nil _ _ _ _) ⟨w3.heap.size,0,none⟩ 1 1 [.string nm3,kv3,.bool br3,vv3] (by rfl) (by rfl) (World.news_of_block (cs:=#[.string nm3,kv3,.bool br3,vv3]) (t:=169) (fr:=(0,0)) (heap_new w3 _)) (four_one o3 oo3) (by omega) (by decide) (by omega) (by omega) (w3.heap.size+1) (by simp) ?_;intro g cap w4 hown hgrow hat hlt;have hc:=(hc.below (below_alloc _ _) q3).grown hgrow (by simp;omega) (by simp [Value.ownBlock]);have hn:=(hn.alloc _).grown hgrow (by simp [Value.ownBlock]) (hat.imp id (fun e=>by simpa using e)) hlt;have hS:w4.cell? ⟨w.heap.size,0,none⟩=some (.slice none 0 0):=(hc.cell 0).trans rfl;have q2:=hc.free;have q4:=(hn.mine _ (.tail _ (.head _))).2)
    | (go_simp;go_at_call 148;have hc:=hc.below (Below.refl _ _).drew q3;have hn:=hn.below (Below.refl _ _).drew;refine (member_ok hP hn.rd (by omega)).mono ?_;rintro e w3 ⟨nm3,kv3,br3,vv3,L3,rfl,o3,oo3,k3,r3,b3,s3,f3⟩;have hc:=hc.call hn (.head _) k3;have hn:=hn.member k3 r3 f3;have hS:w3.cell? ⟨w.heap.size,0,none⟩=some (.slice none 0 0):=(hc.cell 0).trans rfl;have q2:=hc.free;have q3:=(hn.mine _ (.head _)).2))
  all_goals
   have z2:=k2.size
   have z3:=k3.size
   simp only [World.size_alloc] at z2
   have hz:g≠w.heap.size:=by
    rcases hat with h | h
    ·cases h
    ·have:w2.heap.size≤w3.heap.size:=z3
     omega
   have hn:=hn.set (o:=0) (.slice (some ⟨g,0,none⟩) 1 cap) (.tail _ (.head _))
   have hc:=hc.set 0 (.slice (some ⟨g,0,none⟩) 1 cap) (by simp)
   have ow:=owns_sameT (w':=w4.setCell ⟨w.heap.size,0,none⟩ (.slice (some ⟨g,0,none⟩) 1 cap)) hown (fun k hk=>Below.heap_setCell _ _ _ _ (by simp [Value.ownBlock] at hk;simp;omega))
   have HO:Aside (w4.setCell ⟨w.heap.size,0,none⟩ (.slice (some ⟨g,0,none⟩) 1 cap) |>.ownsRow 0 169 4 (.slice (some ⟨g,0,none⟩) 1 cap) 1 [.string nm3,kv3,.bool br3,vv3]):=ow
   clear ow hown hgrow
   go_wp2_with fail
   go_loopg [] L.length (fun k wr=>BuI P w wr rb tb w.heap.size L k)
   case atStart =>
    obtain ⟨its,hn,hR⟩:=bu_next (P:=P) (L0:=L) (qs:=[]) (n:=0) (x:=memberS P L) (q:=List.length) (by simp [buildS,d0]) (Nat.le_refl _) f3 hn rfl
    refine ⟨_,L3,_,1,[.string nm3,kv3,.bool br3,vv3],its,.tail _ (.head _),hc,fun k e=>?_,HO.out,by omega,by omega,by omega,s3,hn,hR⟩
    simp only [Value.ownBlock,Option.some.injEq] at e
    exact ⟨e ▸ .head _,by omega⟩
   case round =>
    obtain ⟨X,M,rv,n,vs,its,hNX,hc,hg,ow,hnm,hMk,hML,sM,hn,hR⟩:=hrel
    have HO:Aside (wr.ownsRow 0 169 4 rv n vs):=ow
    clear ow
    cases d1:acc sComma M with
    | mk b1 M1 =>
    cases b1 with
    | false =>
     go_wp2_with fail
     refine Calls.mono (acceptF hn.rd d1) ?_
     rintro e w5 ⟨rfl,k5,r5⟩
     have hc:=hc.call hn hNX k5
     have ow:=ownsB_call HO.out hn (fun g e=>(hg g e).1) k5
     have hn:=hn.call k5 r5
     have HO:Aside (w5.ownsRow 0 169 4 rv n vs):=ow
     clear ow
     go_wp2_with fail
     refine Calls.mono (expectQ hn.rd) ?_
     rintro e w6 ⟨rfl,L6,k6,r6,b6,f6,s6⟩
     have hc:=hc.call hn hNX k6
     have ow:=ownsB_call HO.out hn (fun g e=>(hg g e).1) k6
     have hn:=hn.call k6 r6
     have HO:Aside (w6.ownsRow 0 169 4 rv n vs):=ow
     clear ow
     go_wp2_with fail
     go_ret
     refine ⟨.iface (typF 10) (.pointer (some ⟨w.heap.size,0,none⟩)),L6,rfl,rfl,hn.kept,hn.rd,by omega,sM.trans s6,?_⟩
     rcases hR with ⟨qs,m,hts,hm,hE,hi,hv⟩ | ⟨r,hE,e,k⟩
     ·have hz:M.length≠0:=fun e=>by
       have:=r5.wf.ne
       exact this (List.eq_nil_of_length_eq_zero e)
      match m,hm,hE with
      | 0,hm,_=>omega
      | m+1,_,hE =>
       rw [hE,show membersS P (m+1) M = .ok ([],M) by simp [membersS,d1]]
       show Fn (thn (exq sCuC M) fun _ l4=>Except.ok (buildT (qs.map (·.1) ++ []),l4)) L6 _
       exact Fn.thn f6 (fun _ _ _=>Fn.ok (by rw [List.append_nil];exact Rf.build hn hi hNX hc hg (hv ▸ HO.out) hts)) (Sx.refl _)
     ·rw [hE]
      have:=s6 k
      subst this
      exact Fn.bad e k
    | true =>
     have b1:=acc_true d1
     obtain ⟨qs,m,hts,hm,hE,hi,hv⟩:=hR.yes d1
     match gk,hMk with
     | 0,hMk=>omega
     | k+1,hMk =>
     go_wp2_with fail
     refine Calls.mono (acceptT hn.rd d1) ?_
     rintro e w5 ⟨rfl,k5,r5⟩
     have hc:=hc.call hn hNX k5
     have ow:=ownsB_call HO.out hn (fun g e=>(hg g e).1) k5
     have hn:=hn.call k5 r5
     have HO:Aside (w5.ownsRow 0 169 4 rv n vs):=ow
     clear ow
     have hS:w5.cell? ⟨w.heap.size,0,none⟩=some rv:=(hc.cell 0).trans rfl
     have q2:=hc.free
     have q3:=(hn.mine _ hNX).2
     go_wp2_with fail
     go_region_law
      (first
       | (refine step_append_lies _ (by rfl) _ _ _ (by rfl) 0 169 i0 _ 4 56 Tryz.underlying165 hi0 hz0 hz1 hz2 rfl (by omega) rv n vs (by rfl) (ownsB_below HO.out (below_alloc _ _)) ⟨w6.heap.size,0,none⟩ 1 1 [.string nm6,kv6,.bool br6,vv6] (by rfl) (by rfl) (World.news_of_block (cs:=#[.string nm6,kv6,.bool br6,vv6]) (t:=169) (fr:=(0,0)) (heap_new w6 _)) (four_one o6 oo6) (by omega) (by simp only [maxLen];omega) (by omega) (by omega) (w6.heap.size+1) (by simp) ?_;intro g2 cap2 w7 hown2 hgrow2 hat2 hlt2;have hc:=(hc.below (below_alloc _ _) q3).grown hgrow2 (by simp;omega) (fun e=>(hg _ e).2 rfl);have hn:=(hn.alloc _).grown hgrow2 (fun g e=>(hg g e).1) (hat2.imp id (fun e=>by simpa using e)) hlt2;have hS:w7.cell? ⟨w.heap.size,0,none⟩=some rv:=(hc.cell 0).trans rfl;have q2:=hc.free;have q4:=(hn.mine _ (.tail _ hNX)).2)
       | (go_simp;go_at_call 148;have hc:=hc.below (Below.refl _ _).drew q3;have HO:=ownsB_below HO.out (Below.refl _ _).drew;have hn:=hn.below (Below.refl _ _).drew;refine (member_ok hP hn.rd (by omega)).mono ?_;rintro e w6 ⟨nm6,kv6,br6,vv6,L6,rfl,o6,oo6,k6,r6,b6,s6,f6⟩;have hc:=hc.call hn hNX k6;have HO:Aside (w6.ownsRow 0 169 4 rv n vs):=ownsB_call HO hn (fun g e=>(hg g e).1) k6;have hn:=hn.member k6 r6 f6;have hS:w6.cell? ⟨w.heap.size,0,none⟩=some rv:=(hc.cell 0).trans rfl;have q2:=hc.free;have q3:=(hn.mine _ hNX).2))
     all_goals
      have hgz:g2≠w.heap.size:=by
       rcases hat2 with h | h
       ·exact (hg _ h).2
       ·omega
      have hn:=hn.set (o:=0) (.slice (some ⟨g2,0,none⟩) (n+1) cap2) (.tail _ hNX)
      have hc:=hc.set 0 (.slice (some ⟨g2,0,none⟩) (n+1) cap2) (by simp)
      have ow:=ownsB_set (N:=w.heap.size) (o:=0) (u:=.slice (some ⟨g2,0,none⟩) (n+1) cap2) hown2 (fun g e=>by simp only [Value.ownBlock,Option.some.injEq] at e;omega)
      subst hi hv
      obtain ⟨its',hn,hR⟩:=bu_next (P:=P) (L0:=L) (qs:=qs) (n:=n) (x:=memberS P M1) (q:=fun _=>m) (by
       rw [hE,show membersS P (m+1) M=thn (memberS P M1) fun a l2=>thn (membersS P m l2) fun az l3=>.ok (a :: az,l3) by simp [membersS,d1]]
       simp only [thn_thn]
       rfl) (by omega) f6 hn hts
      have HO:Aside ((w7.setCell ⟨w.heap.size,0,none⟩ (.slice (some ⟨g2,0,none⟩) (n+1) cap2)).ownsRow 0 169 4 (.slice (some ⟨g2,0,none⟩) (n+1) cap2) (n+1) (qs.flatMap mqCells ++ [.string nm6,kv6,.bool br6,vv6])):=ow
      clear ow hown2 hgrow2
      go_wp2_with fail
      go_roundg k
      case measure=>omega
      case rel =>
       refine ⟨_,L6,_,n+1,_,its',.tail _ hNX,hc,fun g e=>?_,HO.out,by omega,by omega,by omega,sM.trans ((sx_acct d1).trans s6),hn,hR⟩
       simp only [Value.ownBlock,Option.some.injEq] at e
       exact ⟨e ▸ .head _,by omega⟩
end Go.Proofs.Tryz
namespace Go.Proofs.Tryz
set_option maxHeartbeats 16000000
open Go.RowKit
set_option maxRecDepth 10000
theorem step_stk {P:Ps} (hS:∀ c L,kindOf L=1→P c L = .error L):∀ c L,kindOf L=1→stepS operS P c L = .error L:=fun c L h=>by
 have ha:=fun s=>acc_one h s
 have hf:filterS P L = .error L:=by simp [filterS,ha,hS _ _ h]
 have hm:minusS P L = .error L:=by
  have:bindS P L = .error L:=by
   unfold bindS
   rw [hS _ _ h]
   rfl
  simp [minusS,boundS,ha,this]
 have hp:postfixS P L = .error L:=by
  unfold postfixS
  rw [hS _ _ h]
  rfl
 have hr:primaryS P L = .error L:=by
  match L,h,ha with
  | [t],_,_=>rfl
  | t :: u :: l,h,ha =>
   have h1:t.kind=1:=h
   simp [primaryS,h1,signedS,ha]
 have ho:∀ r,operS P r L = .error L:=fun r=>by
  match L,h with
  | t :: l,h =>
   show thn (P 1 (t :: l)) _=_
   rw [hS _ _ h]
   rfl
 match c with
 | 0=>exact hf
 | 1=>exact hm
 | 3=>exact hp
 | 4=>exact hr
 | 2=>rfl
 | c+5 =>
  show (if 11≤c+5∧c+5≤19 then operS P (((c+5:Nat):Int) - 10) L else .error L)=_
  split
  ·exact ho _
  ·rfl
theorem read_stk:∀ n c L,kindOf L=1→readP n c L = .error L
 | 0,_,_,_=>rfl
 | n+1,c,L,h=>step_stk (read_stk n) c L h
def OperOk:Prop:=∀ {P:Ps}{B:Nat},SndP P B→∀ {w:World}{rb tb:Nat}{L:List Tok} (r:Nat),1≤r→r≤9→RdP w rb tb L→8 * L.length+3≤B→
 Calls Tryz.prog 39 #[.pointer (some ⟨rb,0,none⟩),.int .u8 r] w (Gv rb tb w L (operS P r L))
theorem snd_step (hI:ParsesInt) (hO:OperOk) {P:Ps}{B:Nat} (hP:SndP P B) (hB:B+1≤1000000):SndP (stepS operS P) (B+1) where
 filter h hb:=filter_ok hP (fun h hb=>def_ok hP h hb) h (by omega)
 oper {w rb tb L} r h1 h9 h hb:=by
  have e:stepS operS P (10+r) L=operS P r L:=by
   obtain ⟨c,rfl⟩:∃ c,r=c+1:=⟨r - 1,by omega⟩
   rw [show 10+(c+1)=c+6+5 by omega]
   show (if 11≤c+6+5∧c+6+5≤19 then operS P (((c+6+5:Nat):Int) - 10) L else .error L)=_
   rw [if_pos (by omega)]
   congr 1
   omega
  rw [e]
  exact hO hP r h1 h9 h (by omega)
 minus h hb:=minus_ok hP h (by omega)
 post h hb:=postfix_ok hP h (by omega)
 prim h hb:=primary_ok hI (fun h hk hb=>call_ok hP h hk hb) hP (fun h hb=>build_ok hP h hb) h (by omega)
 stk:=step_stk hP.stk
 less:=step_less (fun P r l t l' hP h=>oper_less hP _ _ _ _ _ h) hP.less
 small:=hB
theorem read_snd (hI:ParsesInt) (hO:OperOk):∀ n,n≤1000000→SndP (readP n) n
 | 0,_=>⟨fun _ h=>absurd h (by omega),fun _ _ _ _ h=>absurd h (by omega),fun _ h=>absurd h (by omega),fun _ h=>absurd h (by omega),fun _ h=>absurd h (by omega),fun _ _ _=>rfl,readP_less 0,by omega⟩
 | n+1,h=>snd_step hI hO (read_snd hI hO n (by omega)) h
end Go.Proofs.Tryz
namespace Go.Proofs.Tryz
set_option maxHeartbeats 16000000
open Go.RowKit
set_option maxRecDepth 10000
theorem fromRightP (r:Int) (w:World):Calls Tryz.prog 90 #[.int .u8 r] w fun e w'=>e = .returned (.bool (right r))∧w'=w:=by
 go_enter Tryz.func90,Tryz.ntmps90
 by_cases h:r=1
 ·go_wp2
  go_ret
  simp_all [right]
 ·have h':(r == 1)=false:=by simpa using h
  go_wp2
  go_ret
  simp_all [right]
theorem onceP (r:Int) (w:World):Calls Tryz.prog 72 #[.int .u8 r] w fun e w'=>e = .returned (.bool (once r))∧w'=w:=by
 go_enter Tryz.func72,Tryz.ntmps72
 by_cases h:r=4
 ·go_wp2
  go_ret
  simp_all [once]
 ·have h':(r == 4)=false:=by simpa using h
  go_wp2
  go_ret
  simp_all [once]
theorem waitsP (v:Value) (T b:Nat) (t:Tn) (op:ByteArray) (row next:Int) (w:World) (hv:v = .iface T (.pointer (some ⟨b,0,none⟩))) :
  Calls Tryz.prog 71 #[.agg #[v,.string op,.int .u8 row],.int .u8 next] w fun e w'=>e = .returned (.bool (waits (t,op,row) next))∧Below w.heap.size w w':=by
 subst hv
 go_enter Tryz.func71,Tryz.ntmps71
 by_cases h:row < next
 ·go_wp2_with (go_at_call 90;refine (fromRightP _ _).mono ?_;rintro e w1 ⟨rfl,rfl⟩)
  go_ret
  exact ⟨by simp [waits,h],below_alloc _ _⟩
 ·by_cases h2:row=next
  ·subst h2
   go_wp2_with (go_at_call 90;refine (fromRightP _ _).mono ?_;rintro e w1 ⟨rfl,rfl⟩)
   go_ret
   exact ⟨by simp [waits],below_alloc _ _⟩
  ·have h2':(row == next)=false:=by simpa using h2
   go_wp2_with (go_at_call 90;refine (fromRightP _ _).mono ?_;rintro e w1 ⟨rfl,rfl⟩)
   go_ret
   exact ⟨by simp [waits,h,h2],below_alloc _ _⟩
theorem Rf.form {p:Nat→Prop}{w:World}{t:Tn}{v:Value} (h:Rf p w t v):∃ T b,v = .iface T (.pointer (some ⟨b,0,none⟩)):=by
 match t,h with
 | .ask _ kind k,⟨b,e,_⟩=>exact ⟨_,b,e⟩
theorem operatorQ {w:World}{rb tb:Nat}{L:List Tok} (h:RdP w rb tb L) :
  Calls Tryz.prog 70 #[.pointer (some ⟨rb,0,none⟩)] w fun e w'=>e = .returned (.int .u8 (opAt L))∧KeptB rb tb w w'∧RdP w' rb tb L:=by
 match L,h with
 | [],h=>exact h.wf.elim
 | t :: l,h=>exact (operator_any h.rd).mono fun e w' ⟨a,b⟩=>⟨a,.of_kept b.kept,h.left b h.wf⟩
theorem opAt_one {L:List Tok} (h:kindOf L=1):opAt L=0:=by
 cases L with
 | nil=>rfl
 | cons t l =>
  have h1:t.kind=1:=h
  show opOf t=0
  simp [opOf,h1]
theorem opAt_pair {L:List Tok} (h:Wf L) (ho:opAt L≠0):∃ t u l,L=t :: u :: l:=by
 match L,h with
 | [t],h =>
  refine absurd ?_ ho
  show opOf t=0
  rcases h with e | e <;> simp [opOf,e]
 | t :: u :: l,_=>exact ⟨t,u,l,rfl⟩
abbrev Hv:=Value×Hf
def hcellsP (p:Hv):List Value:=[p.1,.string p.2.2.1,.int .u8 p.2.2.2]
def scellsP:List Hv→List Value
 | []=>[]
 | p :: hv=>scellsP hv ++ hcellsP p
theorem scellsP_len:∀ hv,(scellsP hv).length=hv.length * 3
 | []=>rfl
 | p :: hv=>by simp [scellsP,hcellsP,scellsP_len hv,Nat.add_mul]
def hvIts (hv:List Hv):List (Out Tn×Value):=hv.map fun p=>(.ok (p.2.1,[]),p.1)
theorem info_halfP:(Tryz.prog.info? 145).map (fun i=>(i.zero,i.size,i.bytes))=some (some (.agg #[.nilIface,.string ⟨#[]⟩,.int .u8 0]),3,40):=by kernel_rfl
theorem rowP_pop {w:World}{g cap:Nat}{p:Hv}{hv:List Hv} (h:w.ownsRow 0 145 3 (.slice (some ⟨g,0,none⟩) (hv.length+1) cap) (hv.length+1) (scellsP (p :: hv))):w.ownsRow 0 145 3 (.slice (some ⟨g,0,none⟩) hv.length cap) hv.length (scellsP hv):=by
 obtain ⟨hl,h | ⟨g',c',cur,e,a,b,c,d,f,ht⟩⟩:=h
 ·simp at h
 ·simp only [Value.slice.injEq,Option.some.injEq,Addr.mk.injEq,and_true] at e
  obtain ⟨rfl,_,rfl⟩:=e
  refine ⟨scellsP_len hv,.inr ⟨g,cap,cur,rfl,a,b,by omega,d,f,?_⟩⟩
  have e1:cur.toList.take (hv.length * 3)=(cur.toList.take ((hv.length+1) * 3)).take (hv.length * 3):=by rw [List.take_take];congr 1;omega
  rw [e1,ht]
  show (scellsP hv ++ hcellsP p).take (hv.length * 3)=_
  rw [← scellsP_len hv]
  exact List.take_left
theorem rowP_cells {w:World}{g cap:Nat}{p:Hv}{hv:List Hv} (h:w.ownsRow 0 145 3 (.slice (some ⟨g,0,none⟩) (hv.length+1) cap) (hv.length+1) (scellsP (p :: hv))) (i:Nat) (hi:i < 3):w.cell? ⟨g,hv.length * 3+i,none⟩=(hcellsP p)[i]?:=by
 obtain ⟨hl,h | ⟨g',c',cur,e,_,hb,_,_,_,ht⟩⟩:=h
 ·simp at h
 ·simp only [Value.slice.injEq,Option.some.injEq,Addr.mk.injEq,and_true] at e
  obtain ⟨rfl,_,rfl⟩:=e
  have e1:cur[hv.length * 3+i]? = (scellsP (p :: hv))[hv.length * 3+i]?:=by rw [← ht];simp [List.getElem?_take];omega
  simp only [World.cell?,hb,Option.isSome_none,Bool.false_eq_true,if_false,e1,scellsP]
  rw [List.getElem?_append_right (by rw [scellsP_len];omega),scellsP_len]
  congr 1;omega
theorem rowP_form {w:World}{v:Value}{p:Hv}{hv:List Hv} (h:w.ownsRow 0 145 3 v (p :: hv).length (scellsP (p :: hv))):∃ g cap,v = .slice (some ⟨g,0,none⟩) (hv.length+1) cap∧hv.length+1≤cap∧g < w.heap.size:=by
 obtain ⟨hl,⟨_,h⟩ | ⟨g,c,cur,rfl,_,hb,hc,_⟩⟩:=h
 ·simp at h
 ·refine ⟨g,c,rfl,hc,?_⟩
  by_cases hg:g < w.heap.size
  ·exact hg
  ·simp [Array.getElem?_eq_none (by omega:w.heap.size≤g)] at hb
end Go.Proofs.Tryz
namespace Go.Proofs.Tryz
set_option maxHeartbeats 16000000
open Go.RowKit
set_option maxRecDepth 10000
def contO (P:Ps) (r:Int) (m:Nat) (M:List Tok) (R:(List Hf×Tn)×Bool):Out Tn:=match R with
 | ((_,s),true)=>.ok (s,M)
 | ((hs,s),false)=>operL P r m ((s,txtAt M,opAt M) :: hs) M.tail
def OpI (P:Ps) (w wr:World) (rb tb:Nat) (L:List Tok) (r:Int) (k:Nat) (v:Value):Prop :=
 ∃ (X:List Nat) (M:List Tok) (hv:List Hv) (m:Nat),(∀ g,v.ownBlock=some g→g∈X)∧wr.ownsRow 0 145 3 v hv.length (scellsP hv)∧Nq w wr rb tb X M (hvIts hv)∧hv.length+M.length≤L.length∧M.length≤k∧M.length≤m∧Sx L M∧(∀ p∈hv,1≤p.2.2.2)∧operS P r L=operL P r m (hv.map (·.2)) M
def OiR (P:Ps) (L M:List Tok) (r:Int) (m:Nat) (hv:List Hv) (s:Value) (nx:Int) (its:List (Out Tn×Value)):Prop :=
 (∃ side,its=(.ok (side,[]),s) :: hvIts hv∧operS P r L=contO P r m M (foldH r (hv.map (·.2)) side nx))∨
 (∃ r',its=hvIts hv∧operS P r L = .error r'∧M=stuck r'∧kindOf M=1∧nx=0)
def OiI (P:Ps) (w wr:World) (rb tb:Nat) (L M:List Tok) (r:Int) (m j:Nat) (v s n:Value):Prop :=
 ∃ (X:List Nat) (hv:List Hv) (sv:Value) (nx:Int) (its:List (Out Tn×Value)),sv=s∧j=hv.length∧n = .int .u8 nx∧sv.oneCell'=true∧(∀ g,v.ownBlock=some g→g∈X)∧wr.ownsRow 0 145 3 v hv.length (scellsP hv)∧(nx=opAt M∨nx=0)∧hv.length+M.length < L.length+1∧(∀ p∈hv,1≤p.2.2.2)∧Nq w wr rb tb X M its∧OiR P L M r m hv sv nx its
theorem oi_start {P:Ps}{w wr:World}{rb tb:Nat}{X:List Nat}{L M M1:List Tok}{r:Int}{m:Nat}{hv:List Hv}{s:Value}{g:Tn→Prop} (hE:operS P r L=operL P r (m+1) (hv.map (·.2)) M) (hx:Fn (P 1 M) M1 g) (hn:Nq w wr rb tb X M1 ((P 1 M,s) :: hvIts hv)):∃ its,Nq w wr rb tb X M1 its∧OiR P L M1 r m hv s (opAt M1) its:=by
 rw [operL] at hE
 generalize hp:P 1 M=x at hE hx hn
 match x,hx with
 | .ok (side,l),⟨e,_⟩ =>
  subst e
  refine ⟨(.ok (side,[]),s) :: hvIts hv,(hn.add (x:=.ok (side,[])) (v:=s) (fun t l' e=>by cases e;exact hn.its _ (.head _) side M1 rfl)).perm fun q hq=>?_,.inl ⟨side,rfl,?_⟩⟩
  ·rcases List.mem_cons.mp hq with h | h
   ·rw [h];exact .head _
   ·exact .tail _ (.tail _ h)
  ·rw [hE]
   unfold contO thn
   simp only
   cases foldH r (hv.map (·.2)) side (opAt M1) with
   | mk x y =>
    obtain ⟨hs,s'⟩:=x
    cases y <;> rfl
 | .error r',⟨e,k⟩=>exact ⟨hvIts hv,hn.perm fun q hq=>.tail _ hq,.inr ⟨r',rfl,hE,e,k,opAt_one k⟩⟩
theorem oi_fold {P:Ps}{w wr w':World}{rb tb N:Nat}{X:List Nat}{L M:List Tok}{r nx:Int}{m:Nat}{p:Hv}{hv:List Hv}{s:Value}{its:List (Out Tn×Value)} (hR:OiR P L M r m (p :: hv) s nx its) (hw:waits p.2 nx=false) (hrow:1≤p.2.2.2) (hn:Nq w wr rb tb X M its) (hb:Below wr.heap.size wr w') (hN:wr.heap.size=N) (hlt:N < w'.heap.size)
  (h0:w'.cell? ⟨N,0,none⟩=some p.1) (h1:w'.cell? ⟨N,1,none⟩=some (.string p.2.2.1)) (h2:w'.cell? ⟨N,2,none⟩=some s):∃ its',Nq w w' rb tb X M its'∧OiR P L M r m hv (.iface (typF 12) (.pointer (some ⟨N,0,none⟩))) (if p.2.2.2 == nx && once nx then 0 else nx) its':=by
 have hn':=hn.below hb
 rcases hR with ⟨side,hi,hE⟩ | ⟨r',hi,hE,e,k,hx⟩
 ·subst hi
  refine ⟨(.ok (binT p.2.2.1 p.2.1 side,[]),.iface (typF 12) (.pointer (some ⟨N,0,none⟩))) :: hvIts hv,(hn'.add (x:=.ok (binT p.2.2.1 p.2.1 side,[])) (v:=.iface (typF 12) (.pointer (some ⟨N,0,none⟩))) (fun t l' e=>?_)).perm fun q hq=>?_,.inl ⟨_,rfl,?_⟩⟩
  ·cases e
   have hs:=hn.kept.size
   have hp0:=hn'.its (.ok (p.2.1,[]),p.1) (.tail _ (.head _)) p.2.1 [] rfl
   have hs0:=hn'.its (.ok (side,[]),s) (.head _) side [] rfl
   exact Rf.mk ⟨by omega,fun hm=>by have:=(hn.mine _ hm).2;omega⟩ hlt rfl ⟨⟨_,h0,hp0⟩,h1,⟨_,h2,hs0⟩,trivial⟩
  ·rcases List.mem_cons.mp hq with h | h
   ·rw [h];exact .head _
   ·exact .tail _ (.tail _ (.tail _ h))
  ·rw [hE,List.map_cons,foldH,hw]
   rfl
 ·subst hi
  refine ⟨hvIts hv,hn'.perm fun q hq=>.tail _ hq,.inr ⟨r',rfl,hE,e,k,?_⟩⟩
  rw [hx]
  simp [once]
end Go.Proofs.Tryz
namespace Go.Proofs.Tryz
set_option maxHeartbeats 16000000
open Go.RowKit
set_option maxRecDepth 10000
theorem oper_ok {P:Ps}{B:Nat} (hP:SndP P B) {w:World}{rb tb:Nat}{L:List Tok} (r:Nat) (hr1:1≤r) (hr9:r≤9) (h:RdP w rb tb L) (hB:8 * L.length+3≤B) :
  Calls Tryz.prog 39 #[.pointer (some ⟨rb,0,none⟩),.int .u8 r] w (Gv rb tb w L (operS P r L)):=by
 have hfd:=field_text
 have hsm:=hP.small
 have hrb:=h.rbs
 have htb:=h.tbs
 obtain ⟨i0,hi0,hz0,hz1,hz2⟩:=info_parts info_halfP
 go_enter Tryz.func39,Tryz.ntmps39
 go_wp2_with fail
 go_step3
 go_wp2_with fail
 go_step3
 go_wp2_with fail
 go_loopg [5] L.length (fun k v wr=>OpI P w wr rb tb L r k v)
 case atStart=>exact ⟨[],L,[],L.length,by simp [Value.ownBlock],World.ownsRow_nil _ _ _ _,Nq.start h,by simp,Nat.le_refl _,Nat.le_refl _,Sx.refl _,by simp,rfl⟩
 case round =>
  obtain ⟨X,M,hv,m,hvX,ow,hn,hlen,hMk,hMm,sM,hrows,hE⟩:=hrel
  have hM0:M.length≠0:=fun e=>hn.rd.wf.ne (List.eq_nil_of_length_eq_zero e)
  match gk,hMk,m,hMm,hE with
  | 0,hMk,_,_,_=>omega
  | _+1,_,0,hMm,_=>omega
  | k+1,hMk,m+1,hMm,hE =>
  have HO:Aside (wr.ownsRow 0 145 3 u5 hv.length (scellsP hv)):=ow
  clear ow
  go_wp2_with fail
  refine Calls.mono (hP.minus hn.rd (by omega)) ?_
  rintro e w2 ⟨v2,L2,rfl,o2,k2,r2,b2,s2,f2⟩
  have ow:=ownsB_call HO.out hn hvX k2
  have hn:=hn.item k2 r2 f2
  have HO:Aside (w2.ownsRow 0 145 3 u5 hv.length (scellsP hv)):=ow
  clear ow
  go_wp2_with fail
  refine Calls.mono (operatorQ hn.rd) ?_
  rintro e w3 ⟨rfl,k3,r3⟩
  have ow:=ownsB_call HO.out hn hvX k3
  have hn:=hn.call k3 r3
  have HO:Aside (w3.ownsRow 0 145 3 u5 hv.length (scellsP hv)):=ow
  clear ow
  go_wp2_with fail
  obtain ⟨its,hn,hR⟩:=oi_start hE f2 hn
  go_loopg [5,6,7] hv.length (fun j v s n wr=>OiI P w wr rb tb L L2 r m j v s n)
  case atStart=>exact ⟨X,hv,v2,opAt L2,its,rfl,rfl,rfl,o2,hvX,HO.out,.inl rfl,by omega,hrows,hn,hR⟩
  case round =>
   clear hR hn HO hrows hvX
   obtain ⟨X,hv',sv,nx,its,rfl,hj,rfl,os,hvX,ow,hnx,hlen',hrows,hn,hR⟩:=hrel
   have HO:Aside (wr.ownsRow 0 145 3 u5 hv'.length (scellsP hv')):=ow
   clear ow
   have xs:=cells_one os
   have zs:=xs
   unfold Value.cells at zs
   cases hv' with
   | nil =>
    by_cases hlt:nx < r
    ·rcases HO.out.2 with ⟨rfl,_⟩ | ⟨g,cap,cur,rfl,_⟩
     all_goals
      simp only [List.length_nil] at *
      go_wp2_with fail
      go_ret
      refine ⟨sv,L2,rfl,os,hn.kept,hn.rd,by omega,sM.trans s2,?_⟩
      rcases hR with ⟨side,hi,hE2⟩ | ⟨r',hi,hE2,e,k,_⟩
      ·subst hi
       rw [hE2,show foldH r (List.map (·.2) ([]:List Hv)) side nx=(([],side),true) by simp [foldH,hlt]]
       exact Fn.ok (hn.kid (.head _) rfl)
      ·rw [hE2]
       exact Fn.bad e k
    ·rcases hR with ⟨side,hi,hE2⟩ | ⟨r',hi,hE2,e,k,hx⟩
     ·subst hi
      have hnx:nx=opAt L2:=by rcases hnx with h | h <;> omega
      obtain ⟨t0,u,l0,rfl⟩:=opAt_pair hn.rd.wf (by omega)
      obtain ⟨T',b',rfl⟩:=(hn.its _ (.head _) side [] rfl).form
      have HX:Aside (nx=opAt (t0 :: u :: l0)):=hnx
      clear hnx
      rcases HO.out.2 with ⟨rfl,_⟩ | ⟨g,cap,cur,rfl,_⟩
      ·simp only [List.length_nil] at HO
       go_wp2_with (first
        | (go_at_call 66;refine (takeQ hn.rd).mono ?_;rintro e w5 ⟨rfl,k5,r5⟩;have HO:=ownsB_call HO.out hn hvX k5;have hn:=hn.call k5 r5)
        | (refine wpList_append_lies _ (by rfl) _ _ _ (by rfl) 0 145 i0 _ 3 40 Tryz.underlying142 hi0 hz0 hz1 hz2 rfl (by omega) (.slice none 0 0) 0 [] (by rfl) (ownsB_below HO (below_alloc _ _)) ⟨w5.heap.size,0,none⟩ 1 1 [.iface T' (.pointer (some ⟨b',0,none⟩)),.string t0.text,.int .u8 nx] (by rfl) (by rfl) (World.news_of_block (cs:=#[.iface T' (.pointer (some ⟨b',0,none⟩)),.string t0.text,.int .u8 nx]) (t:=145) (fr:=(0,0)) (heap_new w5 _)) (by simp [Value.oneCell']) (by omega) (by unfold maxLen;omega) (by omega) (by omega) (w5.heap.size+1) (by simp) ?_;intro g2 cap2 w6 hown hgrow hat hlt2))
       go_roundg k
       case measure=>omega
       case rel =>
        have hn:=(hn.alloc (.cells #[.iface T' (.pointer (some ⟨b',0,none⟩)),.string t0.text,.int .u8 nx] 145)).grown hgrow hvX (hat.imp id (fun e=>by simpa using e)) hlt2
        refine ⟨g2 :: X,u :: l0,(.iface T' (.pointer (some ⟨b',0,none⟩)),(side,t0.text,nx)) :: [],m,fun g e=>?_,hown,hn,by simp only [List.length_cons,List.length_nil] at *;omega,by simp only [List.length_cons] at *;omega,by simp only [List.length_cons] at *;omega,fun k=>?_,fun p hp=>?_,?_⟩
        ·simp only [Value.ownBlock,Option.some.injEq] at e
         exact e ▸ .head _
        ·have e1:=(sM.trans s2) k
         have e2:opAt (t0 :: u :: l0)=0:=opAt_one (by rw [e1];exact k)
         have e3:=HX.out
         omega
        ·rcases List.mem_cons.mp hp with e | hp
         ·subst e
          show 1≤nx
          omega
         ·exact hrows p hp
        ·rw [hE2,show foldH r (List.map (·.2) ([]:List Hv)) side nx=(([],side),false) by simp [foldH,hlt]]
         show operL P r m ((side,t0.text,opAt (t0 :: u :: l0)) :: []) (u :: l0)=_
         rw [← HX.out]
         rfl
      ·simp only [List.length_nil] at *
       go_wp2_with (first
        | (go_at_call 66;refine (takeQ hn.rd).mono ?_;rintro e w5 ⟨rfl,k5,r5⟩;have HO:=ownsB_call HO.out hn hvX k5;have hn:=hn.call k5 r5)
        | (refine wpList_append_lies _ (by rfl) _ _ _ (by rfl) 0 145 i0 _ 3 40 Tryz.underlying142 hi0 hz0 hz1 hz2 rfl (by omega) (.slice (some ⟨g,0,none⟩) 0 cap) 0 [] (by rfl) (ownsB_below HO (below_alloc _ _)) ⟨w5.heap.size,0,none⟩ 1 1 [.iface T' (.pointer (some ⟨b',0,none⟩)),.string t0.text,.int .u8 nx] (by rfl) (by rfl) (World.news_of_block (cs:=#[.iface T' (.pointer (some ⟨b',0,none⟩)),.string t0.text,.int .u8 nx]) (t:=145) (fr:=(0,0)) (heap_new w5 _)) (by simp [Value.oneCell']) (by omega) (by unfold maxLen;omega) (by omega) (by omega) (w5.heap.size+1) (by simp) ?_;intro g2 cap2 w6 hown hgrow hat hlt2))
       go_roundg k
       case measure=>omega
       case rel =>
        have hn:=(hn.alloc (.cells #[.iface T' (.pointer (some ⟨b',0,none⟩)),.string t0.text,.int .u8 nx] 145)).grown hgrow hvX (hat.imp id (fun e=>by simpa using e)) hlt2
        refine ⟨g2 :: X,u :: l0,(.iface T' (.pointer (some ⟨b',0,none⟩)),(side,t0.text,nx)) :: [],m,fun g e=>?_,hown,hn,by simp only [List.length_cons,List.length_nil] at *;omega,by simp only [List.length_cons] at *;omega,by simp only [List.length_cons] at *;omega,fun k=>?_,fun p hp=>?_,?_⟩
        ·simp only [Value.ownBlock,Option.some.injEq] at e
         exact e ▸ .head _
        ·have e1:=(sM.trans s2) k
         have e2:opAt (t0 :: u :: l0)=0:=opAt_one (by rw [e1];exact k)
         have e3:=HX.out
         omega
        ·rcases List.mem_cons.mp hp with e | hp
         ·subst e
          show 1≤nx
          omega
         ·exact hrows p hp
        ·rw [hE2,show foldH r (List.map (·.2) ([]:List Hv)) side nx=(([],side),false) by simp [foldH,hlt]]
         show operL P r m ((side,t0.text,opAt (t0 :: u :: l0)) :: []) (u :: l0)=_
         rw [← HX.out]
         rfl
     ·omega
   | cons p hv' =>
    obtain ⟨g,cap,rfl,hcap,hgs⟩:=rowP_form HO.out
    obtain ⟨x,side0,op,row⟩:=p
    have hrow:1≤row:=hrows _ (.head _)
    have hxm:((.ok (side0,[]):Out Tn),x)∈its:=by
     rcases hR with ⟨_,hi,_⟩ | ⟨_,hi,_⟩
     ·subst hi;exact .tail _ (.head _)
     ·subst hi;exact .head _
    obtain ⟨Tp,bp,hx⟩:=(hn.its _ hxm side0 [] rfl).form
    subst hx
    obtain ⟨n,hn0⟩:∃ n,hv'.length=n:=⟨_,rfl⟩
    have c0:wr.cell? ⟨g,n * 3,none⟩=some (.iface Tp (.pointer (some ⟨bp,0,none⟩))):=by rw [← hn0];exact rowP_cells HO.out 0 (by omega)
    have c1:wr.cell? ⟨g,n * 3+1,none⟩=some (.string op):=by rw [← hn0];exact rowP_cells HO.out 1 (by omega)
    have c2:wr.cell? ⟨g,n * 3+2,none⟩=some (.int .u8 row):=by rw [← hn0];exact rowP_cells HO.out 2 (by omega)
    simp only [List.length_cons] at hlen' hj
    rw [hn0] at hcap hlen' hvX ⊢
    have ow:=HO.out
    rw [List.length_cons,hn0] at ow
    have HO:Aside (wr.ownsRow 0 145 3 (.slice (some ⟨g,0,none⟩) (n+1) cap) (n+1) (scellsP ((.iface Tp (.pointer (some ⟨bp,0,none⟩)),(side0,op,row)) :: hv'))):=ow
    clear ow
    have n0:(0:Int)≤(n:Int):=Int.natCast_nonneg _
    have n1:(n:Int) < ((n+1:Nat):Int):=by omega
    have n2:n≤1000000:=by omega
    have n3:(n:Int) < (n:Int)+1:=by omega
    by_cases hwt:waits (side0,op,row) nx=true
    ·rcases hR with ⟨side,hi,hE2⟩ | ⟨r',hi,hE2,e,k,hx⟩
     ·subst hi
      have hw1:1≤nx:=by
       simp only [waits,Bool.or_eq_true,decide_eq_true_eq,Bool.and_eq_true,beq_iff_eq] at hwt
       omega
      have hnx:nx=opAt L2:=by rcases hnx with h | h <;> omega
      obtain ⟨t0,u,l0,rfl⟩:=opAt_pair hn.rd.wf (by omega)
      obtain ⟨T',b',hs'⟩:=(hn.its _ (.head _) side [] rfl).form
      subst hs'
      have HX:Aside (nx=opAt (t0 :: u :: l0)):=hnx
      clear hnx
      go_wp2_with (first
       | (go_at_call 71;refine (waitsP _ Tp bp side0 _ _ _ _ rfl).mono ?_;rintro e w4 ⟨rfl,h4⟩;rw [hwt];have HO:Aside (w4.ownsRow 0 145 3 (.slice (some ⟨g,0,none⟩) (n+1) cap) (n+1) (scellsP ((.iface Tp (.pointer (some ⟨bp,0,none⟩)),(side0,op,row)) :: hv'))):=ownsB_below HO.out h4;have hn:=hn.below h4;have d0:=(h4.cell (p:=⟨g,n * 3,none⟩) hgs).trans c0;have d1:=(h4.cell (p:=⟨g,n * 3+1,none⟩) hgs).trans c1;have d2:=(h4.cell (p:=⟨g,n * 3+2,none⟩) hgs).trans c2;have z4:=h4.size)
       | (go_at_call 66;refine (takeQ hn.rd).mono ?_;rintro e w5 ⟨rfl,k5,r5⟩;have HO:=ownsB_call HO.out hn hvX k5;have hn:=hn.call k5 r5)
       | (refine wpList_append_lies _ (by rfl) _ _ _ (by rfl) 0 145 i0 _ 3 40 Tryz.underlying142 hi0 hz0 hz1 hz2 rfl (by omega) (.slice (some ⟨g,0,none⟩) (n+1) cap) (n+1) (scellsP ((.iface Tp (.pointer (some ⟨bp,0,none⟩)),(side0,op,row)) :: hv')) (by rfl) (ownsB_below HO (below_alloc _ _)) ⟨w5.heap.size,0,none⟩ 1 1 [.iface T' (.pointer (some ⟨b',0,none⟩)),.string t0.text,.int .u8 nx] (by rfl) (by rfl) (World.news_of_block (cs:=#[.iface T' (.pointer (some ⟨b',0,none⟩)),.string t0.text,.int .u8 nx]) (t:=145) (fr:=(0,0)) (heap_new w5 _)) (by simp [Value.oneCell']) (by omega) (by unfold maxLen;omega) (by omega) (by omega) (w5.heap.size+1) (by simp) ?_;intro g2 cap2 w6 hown hgrow hat hlt2))
      go_roundg k
      case measure=>omega
      case rel =>
       have hn:=(hn.alloc (.cells #[.iface T' (.pointer (some ⟨b',0,none⟩)),.string t0.text,.int .u8 nx] 145)).grown hgrow hvX (hat.imp id (fun e=>by simpa using e)) hlt2
       refine ⟨g2 :: X,u :: l0,(.iface T' (.pointer (some ⟨b',0,none⟩)),(side,t0.text,nx)) :: (.iface Tp (.pointer (some ⟨bp,0,none⟩)),(side0,op,row)) :: hv',m,fun g e=>?_,(by rw [List.length_cons,List.length_cons,hn0];exact hown),hn,by simp only [List.length_cons,List.length_nil] at *;omega,by simp only [List.length_cons] at *;omega,by simp only [List.length_cons] at *;omega,fun k=>?_,fun p hp=>?_,?_⟩
       ·simp only [Value.ownBlock,Option.some.injEq] at e
        exact e ▸ .head _
       ·have e1:=(sM.trans s2) k
        have e2:opAt (t0 :: u :: l0)=0:=opAt_one (by rw [e1];exact k)
        have e3:=HX.out
        omega
       ·rcases List.mem_cons.mp hp with e | hp
        ·subst e
         show 1≤nx
         omega
        ·exact hrows p hp
       ·rw [hE2,show foldH r (List.map (·.2) (((.iface Tp (.pointer (some ⟨bp,0,none⟩)),(side0,op,row)):Hv) :: hv')) side nx=(((side0,op,row) :: List.map (·.2) hv',side),false) by simp [foldH,hwt]]
        show operL P r m ((side,t0.text,opAt (t0 :: u :: l0)) :: (side0,op,row) :: List.map (·.2) hv') (u :: l0)=_
        rw [← HX.out]
        rfl
     ·subst hx
      simp only [waits,right,Bool.or_eq_true,decide_eq_true_eq,Bool.and_eq_true,beq_iff_eq] at hwt
      omega
    ·have hwt:waits (side0,op,row) nx=false:=by simpa using hwt
     by_cases hrw:row=nx
     ·subst hrw
      by_cases ho:once row=true
      ·have HX:Aside (once row=true):=ho
       go_wp2_with (first
        | (go_at_call 71;refine (waitsP _ Tp bp side0 _ _ _ _ rfl).mono ?_;rintro e w4 ⟨rfl,h4⟩;rw [hwt];have HO:Aside (w4.ownsRow 0 145 3 (.slice (some ⟨g,0,none⟩) (n+1) cap) (n+1) (scellsP ((.iface Tp (.pointer (some ⟨bp,0,none⟩)),(side0,op,row)) :: hv'))):=ownsB_below HO.out h4;have hn:=hn.below h4;have d0:=(h4.cell (p:=⟨g,n * 3,none⟩) hgs).trans c0;have d1:=(h4.cell (p:=⟨g,n * 3+1,none⟩) hgs).trans c1;have d2:=(h4.cell (p:=⟨g,n * 3+2,none⟩) hgs).trans c2;have z4:=h4.size)
        | (go_at_call 72;refine (onceP _ _).mono ?_;rintro e w9 ⟨rfl,h9⟩;subst w9;rw [ho]))
       have z5:g < w4.heap.size:=Nat.lt_of_lt_of_le hgs h4.size
       go_region_held3 (fun w'=>w'.cell? ⟨g,n * 3,none⟩=some (.iface Tp (.pointer (some ⟨bp,0,none⟩)))∧w'.cell? ⟨g,n * 3+1,none⟩=some (.string op)) (go_keep) (fail)
       all_goals
        go_wp2_with fail
        go_roundg n
        case measure=>omega
        case rel =>
         have hb4:Below w4.heap.size w4 ((w4.alloc (.cells #[.iface Tp (.pointer (some ⟨bp,0,none⟩)),.string op,sv] 150)).drew):=(below_alloc _ _).drew
         obtain ⟨its',hn,hR⟩:=oi_fold (N:=w4.heap.size) hR hwt hrow hn hb4 rfl (by simp) (((Cl.start w4 [.iface Tp (.pointer (some ⟨bp,0,none⟩)),.string op,sv] 150).cell 0).trans rfl) (((Cl.start w4 [.iface Tp (.pointer (some ⟨bp,0,none⟩)),.string op,sv] 150).cell 1).trans rfl) (((Cl.start w4 [.iface Tp (.pointer (some ⟨bp,0,none⟩)),.string op,sv] 150).cell 2).trans rfl)
         rw [show (if (((.iface Tp (.pointer (some ⟨bp,0,none⟩)),(side0,op,row)):Hv).2.2.2 == row && once row) then (0:Int) else row)=0 by simp [ho]] at hR
         have ow:=ownsB_below (rowP_pop (hv:=hv') (by rw [hn0];exact HO.out)) hb4
         rw [hn0] at ow
         exact ⟨X,hv',_,0,its',rfl,hn0.symm,rfl,rfl,fun g e=>hvX g e,by rw [hn0];exact ow,.inr rfl,by omega,fun p hp=>hrows p (.tail _ hp),hn,hR⟩
      ·have ho:once row=false:=by simpa using ho
       go_wp2_with (first
        | (go_at_call 71;refine (waitsP _ Tp bp side0 _ _ _ _ rfl).mono ?_;rintro e w4 ⟨rfl,h4⟩;rw [hwt];have HO:Aside (w4.ownsRow 0 145 3 (.slice (some ⟨g,0,none⟩) (n+1) cap) (n+1) (scellsP ((.iface Tp (.pointer (some ⟨bp,0,none⟩)),(side0,op,row)) :: hv'))):=ownsB_below HO.out h4;have hn:=hn.below h4;have d0:=(h4.cell (p:=⟨g,n * 3,none⟩) hgs).trans c0;have d1:=(h4.cell (p:=⟨g,n * 3+1,none⟩) hgs).trans c1;have d2:=(h4.cell (p:=⟨g,n * 3+2,none⟩) hgs).trans c2;have z4:=h4.size)
        | (go_at_call 72;refine (onceP _ _).mono ?_;rintro e w9 ⟨rfl,h9⟩;subst w9;rw [ho]))
       have z5:g < w4.heap.size:=Nat.lt_of_lt_of_le hgs h4.size
       go_region_held3 (fun w'=>w'.cell? ⟨g,n * 3,none⟩=some (.iface Tp (.pointer (some ⟨bp,0,none⟩)))∧w'.cell? ⟨g,n * 3+1,none⟩=some (.string op)) (go_keep) (fail)
       all_goals
        go_wp2_with fail
        go_roundg n
        case measure=>omega
        case rel =>
         have hb4:Below w4.heap.size w4 ((w4.alloc (.cells #[.iface Tp (.pointer (some ⟨bp,0,none⟩)),.string op,sv] 150)).drew):=(below_alloc _ _).drew
         obtain ⟨its',hn,hR⟩:=oi_fold (N:=w4.heap.size) hR hwt hrow hn hb4 rfl (by simp) (((Cl.start w4 [.iface Tp (.pointer (some ⟨bp,0,none⟩)),.string op,sv] 150).cell 0).trans rfl) (((Cl.start w4 [.iface Tp (.pointer (some ⟨bp,0,none⟩)),.string op,sv] 150).cell 1).trans rfl) (((Cl.start w4 [.iface Tp (.pointer (some ⟨bp,0,none⟩)),.string op,sv] 150).cell 2).trans rfl)
         rw [show (if (((.iface Tp (.pointer (some ⟨bp,0,none⟩)),(side0,op,row)):Hv).2.2.2 == row && once row) then (0:Int) else row)=row by simp [ho]] at hR
         have ow:=ownsB_below (rowP_pop (hv:=hv') (by rw [hn0];exact HO.out)) hb4
         rw [hn0] at ow
         exact ⟨X,hv',_,row,its',rfl,hn0.symm,rfl,rfl,fun g e=>hvX g e,by rw [hn0];exact ow,hnx,by omega,fun p hp=>hrows p (.tail _ hp),hn,hR⟩
     ·have hne:(row == nx)=false:=by simpa using hrw
      go_wp2_with (first
       | (go_at_call 71;refine (waitsP _ Tp bp side0 _ _ _ _ rfl).mono ?_;rintro e w4 ⟨rfl,h4⟩;rw [hwt];have HO:Aside (w4.ownsRow 0 145 3 (.slice (some ⟨g,0,none⟩) (n+1) cap) (n+1) (scellsP ((.iface Tp (.pointer (some ⟨bp,0,none⟩)),(side0,op,row)) :: hv'))):=ownsB_below HO.out h4;have hn:=hn.below h4;have d0:=(h4.cell (p:=⟨g,n * 3,none⟩) hgs).trans c0;have d1:=(h4.cell (p:=⟨g,n * 3+1,none⟩) hgs).trans c1;have d2:=(h4.cell (p:=⟨g,n * 3+2,none⟩) hgs).trans c2;have z4:=h4.size))
      have z5:g < w4.heap.size:=Nat.lt_of_lt_of_le hgs h4.size
      go_region_held3 (fun w'=>w'.cell? ⟨g,n * 3,none⟩=some (.iface Tp (.pointer (some ⟨bp,0,none⟩)))∧w'.cell? ⟨g,n * 3+1,none⟩=some (.string op)) (go_keep) (fail)
      all_goals
       go_wp2_with fail
       go_roundg n
       case measure=>omega
       case rel =>
        have hb4:Below w4.heap.size w4 ((w4.alloc (.cells #[.iface Tp (.pointer (some ⟨bp,0,none⟩)),.string op,sv] 150)).drew):=(below_alloc _ _).drew
        obtain ⟨its',hn,hR⟩:=oi_fold (N:=w4.heap.size) hR hwt hrow hn hb4 rfl (by simp) (((Cl.start w4 [.iface Tp (.pointer (some ⟨bp,0,none⟩)),.string op,sv] 150).cell 0).trans rfl) (((Cl.start w4 [.iface Tp (.pointer (some ⟨bp,0,none⟩)),.string op,sv] 150).cell 1).trans rfl) (((Cl.start w4 [.iface Tp (.pointer (some ⟨bp,0,none⟩)),.string op,sv] 150).cell 2).trans rfl)
        rw [show (if (((.iface Tp (.pointer (some ⟨bp,0,none⟩)),(side0,op,row)):Hv).2.2.2 == nx && once nx) then (0:Int) else nx)=nx by simp [hrw]] at hR
        have ow:=ownsB_below (rowP_pop (hv:=hv') (by rw [hn0];exact HO.out)) hb4
        rw [hn0] at ow
        exact ⟨X,hv',_,nx,its',rfl,hn0.symm,rfl,rfl,fun g e=>hvX g e,by rw [hn0];exact ow,hnx,by omega,fun p hp=>hrows p (.tail _ hp),hn,hR⟩
end Go.Proofs.Tryz
namespace Go.Proofs.Tryz
set_option maxHeartbeats 16000000
open Go.RowKit
set_option maxRecDepth 10000
theorem operOk:OperOk:=by
 intro P B hP w rb tb L r h1 h9 h hB
 exact oper_ok hP r h1 h9 h hB
theorem filter_reads (hI:ParsesInt) {w:World}{rb tb:Nat}{L:List Tok} (h:RdP w rb tb L) (hL:L.length≤100000) :
  Calls Tryz.prog 21 #[.pointer (some ⟨rb,0,none⟩)] w (Gv rb tb w L (readP (8 * L.length+5) 0 L)) :=
 (read_snd hI operOk (8 * L.length+5) (by omega)).filter h (Nat.le_refl _)
end Go.Proofs.Tryz
