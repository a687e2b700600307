import Derived.Test.YtfocepfmpnpaiaaGreatDoorYl5
import Derived.Deep.CutRange
set_option linter.all false
namespace Go.Proofs.Tryz
set_option maxHeartbeats 16000000
open Go.RowKit
set_option maxRecDepth 10000
section
variable {a w w' : World} {rb g : Nat} {X : List Nat} {L L' M : List Tok} {K K' : List Kn} {lost lost' : Int} {its : List (Out Tn × Value)} {s : ByteArray}
def PaR (L3 M:List Tok) (ns:List ByteArray):Prop :=
 (∃ m,M.length≤m∧paramsS L3=thn (namesS m M) fun ts l3=>thn (exq sShut l3) fun _ l4=>.ok (ns ++ ts,l4))∨∃ r,paramsS L3 = .error r∧M=stuck r∧kindOf M=1
theorem PaR.yes {L3 M M1:List Tok}{ns:List ByteArray} (h:PaR L3 M ns) (e:acc s M=(true,M1)):∃ m,M1.length≤m∧paramsS L3=thn (namesS (m+1) M) fun ts l3=>thn (exq sShut l3) fun _ l4=>.ok (ns ++ ts,l4):=by
 rcases h with ⟨m,h1,h2⟩ | ⟨r,_,_,k⟩
 ·have:=acc_true e
  match m,h1,h2 with
  | 0,h1,_=>omega
  | m+1,h1,h2=>exact ⟨m,by omega,h2⟩
 ·rw [acc_one k] at e
  cases e
theorem pa_next {L3 M:List Tok}{v:ByteArray}{x:Out Tok}{ns:List ByteArray}{q:List Tok→Nat} (h:paramsS L3=thn x fun a l2=>thn (namesS (q l2) l2) fun ts l3=>thn (exq sShut l3) fun _ l4=>.ok (ns ++ a.text :: ts,l4)) (hq:M.length≤q M) (hx:Fn x M fun t=>v=t.text):PaR L3 M (ns ++ [v]):=by
 match x,hx with
 | .ok (a,l),⟨e,hv⟩ =>
  subst e
  subst hv
  refine .inl ⟨q M,hq,?_⟩
  rw [h]
  simp [thn]
 | .error r,⟨e,k⟩=>exact .inr ⟨r,h,e,k⟩
theorem PaR.done {L3 M L6:List Tok}{ns:List ByteArray} (h:PaR L3 M ns) (hne:M≠[]) (d:acc sSemi M=(false,M)) (f:Rs (exq sShut M) L6) (sx:Sx M L6):Fn (paramsS L3) L6 fun ps=>ps=ns:=by
 rcases h with ⟨m,h1,h2⟩ | ⟨r,h1,e,k⟩
 ·have hz:M.length≠0:=fun e=>hne (List.eq_nil_of_length_eq_zero e)
  match m,h1,h2 with
  | 0,h1,_=>omega
  | m+1,_,h2 =>
   rw [h2,show namesS (m+1) M = .ok ([],M) by simp only [namesS,d]]
   show Fn (thn (exq sShut M) fun _ l4=>.ok (ns ++ [],l4)) L6 _
   exact Fn.thn f (fun _ _ _=>Fn.ok (by simp)) (Sx.refl _)
 ·rw [h1]
  have:=sx k
  subst this
  exact Fn.bad e k
def DfJ (w:World) (rb g N:Nat) (x:ByteArray) (L3:List Tok) (K:List Kn) (lost:Int) (k:Nat) (wr:World):Prop :=
 ∃ (X:List Nat) (M:List Tok) (rp:Value) (ns:List ByteArray),N∈X∧Cl wr N [.string ⟨#[100,101,102]⟩,.string x,.int .i64 0,.int .i64 0,.string ⟨#[]⟩,.slice none 0 0,.slice none 0 0,.slice none 0 0,rp]∧(∀ g,rp.ownBlock=some g→g∈X∧g≠N)∧wr.ownsRow 0 9 1 rp ns.length (ns.map Value.string)∧ns.length+M.length≤L3.length∧M.length≤k∧Sx L3 M∧NqR w wr rb g X M K lost []∧PaR L3 M ns
def kDef (K:List Kn) (x:ByteArray) (n:Nat) (ns:List ByteArray):List Kn:=K ++ [(102,x,n)] ++ ns.map fun y=>(102,y,0)
def DgJ (w:World) (rb g N:Nat) (X:List Nat) (x:ByteArray) (M:List Tok) (K:List Kn) (lost:Int) (rp:Value) (ns:List ByteArray) (k:Nat) (j:Nat) (wr:World):Prop :=
 j+k=ns.length∧Cl wr N [.string ⟨#[100,101,102]⟩,.string x,.int .i64 0,.int .i64 0,.string ⟨#[]⟩,.slice none 0 0,.slice none 0 0,.slice none 0 0,rp]∧wr.ownsRow 0 9 1 rp ns.length (ns.map Value.string)∧NqR w wr rb g X M (kDef K x ns.length (ns.take j)) lost []
theorem kDef_len (K:List Kn) (x:ByteArray) (n:Nat) (ns:List ByteArray):(kDef K x n ns).length=K.length+1+ns.length:=by simp [kDef];omega
theorem kDef_add {K:List Kn}{x y:ByteArray}{n j:Nat}{ns:List ByteArray} (h:ns[j]? = some y):kDef K x n (ns.take j) ++ [(102,y,0)]=kDef K x n (ns.take (j+1)):=by
 have:ns.take (j+1)=ns.take j ++ [y]:=by
  rw [List.take_add_one,h]
  rfl
 rw [this]
 simp [kDef]
theorem kDef_take (K:List Kn) (x:ByteArray) (n:Nat) (ns:List ByteArray):(kDef K x n ns).take (K.length+1)=kDef K x n []:=by
 unfold kDef
 rw [List.take_append_of_le_length (by simp),List.take_of_length_le (by simp)]
 simp
theorem kDef_zero (K:List Kn) (x:ByteArray) (n:Nat):(kDef K x n []).take K.length=K:=by
 simp [kDef]
theorem owns_some {w:World}{T n:Nat}{pa:Option Addr}{pc:Nat}{xs:List Value} (h:w.ownsRow 0 T 1 (.slice pa n pc) n xs) (hn:0 < n):∃ gp,pa=some ⟨gp,0,none⟩:=by
 obtain ⟨_,⟨e,e2⟩ | ⟨g',c',cur,e,_⟩⟩:=h
 ·omega
 ·cases e
  exact ⟨_,rfl⟩
theorem owns_one {w:World}{T nb nc n:Nat}{xs:List Value} (h:w.ownsRow 0 T 1 (.slice (some ⟨nb,0,none⟩) n nc) n xs) {o:Nat}{v:Value} (hv:xs[o]? = some v):w.cell? ⟨nb,o,none⟩=some v:=by
 obtain ⟨hl,⟨e,_⟩ | ⟨g,cap,cur,e,_,hbk,_,_,hsz,htk⟩⟩:=h
 ·cases e
 ·cases e
  have ho:=(List.getElem?_eq_some_iff.1 hv).1
  rw [← htk,List.getElem?_take_of_lt (by omega)] at hv
  simpa [World.cell?,hbk] using hv
theorem def_end {P:Ps}{x:ByteArray}{ns:List ByteArray}{L3 L6 LA L8 LC LD M0:List Tok}{lost8 lostD:Int}{b8 bD N:Nat}{rp:Value} (hE:filterS P L=defS P M0) (d0:acc sDef L=(true,M0)) (f3:Fn (exk 2 M0) L3 fun t=>x=t.text) (fP:Fn (paramsS L3) L6 fun ps=>ps=ns) (fA:Rs (exq sColon L6) LA) (f8:Fn (P 0 LA) L8 fun t=>lost8=lostF lost (chk t (kDef K x ns.length ns))) (fC:Rs (exq sSemi L8) LC) (fD:Fn (P 0 LC) LD fun t=>lostD=lostF lost8 (chk t (kDef K x ns.length []))) (hl:LD.length≤L.length) (s3:Sx M0 L3) (s6:Sx L3 L6) (sA:Sx L6 LA) (s8:Sx LA L8) (sC:Sx L8 LC) (sD:Sx LC LD)
  (hn:NqR a w rb g X LD K lostD [(P 0 LC,.pointer (some ⟨bD,0,none⟩)),(P 0 LA,.pointer (some ⟨b8,0,none⟩))]) (hN:N∈X) (hc:Cl w N [.string ⟨#[100,101,102]⟩,.string x,.int .i64 0,.int .i64 0,.string ⟨#[]⟩,.slice none 0 0,.slice none 0 0,.slice none 0 0,rp]) (ho':w.ownsRow 0 9 1 rp ns.length (ns.map Value.string)) (hg':∀ b,rp.ownBlock=some b→b∈X∧b≠N) :
  GvR rb g a L K lost (filterS P L) (.returned (.pointer (some ⟨N,0,none⟩))) ((w.setCell ⟨N,7,none⟩ (.slice (some ⟨w.heap.size,0,none⟩) 2 2)).alloc (.cells #[.pointer (some ⟨b8,0,none⟩),.pointer (some ⟨bD,0,none⟩)] 25)):=by
 have hm:=hn.mine N hN
 obtain ⟨o1,ho1⟩:∃ o1,Obj.cells #[.pointer (some ⟨b8,0,none⟩),.pointer (some ⟨bD,0,none⟩)] 25=o1:=⟨_,rfl⟩
 obtain ⟨W1,hW1⟩:∃ W1,w.setCell ⟨N,7,none⟩ (.slice (some ⟨w.heap.size,0,none⟩) 2 2)=W1:=⟨_,rfl⟩
 have hsz:W1.heap.size=w.heap.size:=by rw [← hW1];simp
 have hs0:=hn.kept.size
 have hc:=hc.set 7 (.slice (some ⟨w.heap.size,0,none⟩) 2 2) (by simp)
 have hop:=ownsB_set (N:=N) (o:=7) (u:=.slice (some ⟨w.heap.size,0,none⟩) 2 2) ho' (fun b e=>(hg' b e).2)
 have hn:=hn.set (o:=7) (.slice (some ⟨w.heap.size,0,none⟩) 2 2) hN
 rw [ho1]
 rw [hW1] at hc hop hn ⊢
 have hnw:(W1.alloc o1).heap[w.heap.size]? = some (Obj.cells #[.pointer (some ⟨b8,0,none⟩),.pointer (some ⟨bD,0,none⟩)] 25):=by rw [← hsz];exact (heap_new W1 o1).trans (congrArg some ho1.symm)
 have hc:=hc.below (below_alloc W1 o1) (by omega)
 have hop:=ownsB_below hop (below_alloc W1 o1)
 have hnb:nbOf (W1.alloc o1) rb=nbOf W1 rb:=by
  unfold nbOf
  rw [World.cell?_of_block (w:=W1) ((below_alloc W1 o1).block rb hn.rd.rbs)]
 have hnl:nbOf W1 rb≠some w.heap.size:=fun e=>by have:=nbOf_lt hn.rd e;omega
 have hn:=hn.alloc o1
 clear hW1
 rw [hE]
 unfold defS
 refine ⟨N,LD,lostD,rfl,hn.kept,hn.rd,hl,acc_sx d0,Fn.thn f3 (fun t3 e3 h3=>Fn.thn fP (fun ps ep hp=>Fn.thn fA (fun _ _ _=>Fn.thn f8 (fun a8 e8 h8=>Fn.thn fC (fun _ _ _=>Fn.thn fD (fun aD eD hD=>Fn.ok ⟨?_,?_⟩) (Sx.refl _)) sD) (sC.trans sD)) (s8.trans (sC.trans sD))) (sA.trans (s8.trans (sC.trans sD)))) (s6.trans (sA.trans (s8.trans (sC.trans sD))))⟩
 ·subst hp
  subst h3
  have hm2:=hn.mine N hN
  refine Rn.mk (r:=.slice (some ⟨w.heap.size,0,none⟩) 2 2) (r':=rp) (vs:=[.pointer (some ⟨b8,0,none⟩),.pointer (some ⟨bD,0,none⟩)]) ⟨hm2.1,hm2.2.2⟩ hm2.2.1 hc ?_ (fun b e=>?_) (fun j v hv=>?_) hop (fun b e=>⟨(hn.mine b (hg' b e).1).1,(hn.mine b (hg' b e).1).2.2⟩)
  ·refine ⟨by simp,.inr ⟨w.heap.size,2,#[.pointer (some ⟨b8,0,none⟩),.pointer (some ⟨bD,0,none⟩)],rfl,Nat.zero_le _,?_,by simp,by unfold maxLen;simp,by simp,by simp⟩⟩
   exact hnw
  ·cases e
   exact ⟨hs0,by rw [hnb];exact hnl⟩
  ·match j,hv with
   | 0,hv=>cases hv;exact hn.kid (.tail _ (.head _)) e8
   | 1,hv=>cases hv;exact hn.kid (.head _) eD
   | j+2,hv=>simp at hv
 ·subst hp
  subst h3
  rw [lost_nd2 rfl]
  have e1:kDef K t3.text ps.length []=K ++ [(102,t3.text,ps.length)]:=by simp [kDef]
  rw [e1] at hD
  have h8':lost8=lostF lost (chk a8 (K ++ [(102,t3.text,ps.length)] ++ ps.map fun y=>(102,y,0))):=h8
  show lostD=lostF (lostF lost (chk a8 (K ++ [(102,t3.text,ps.length)] ++ ps.map fun y=>(102,y,0)))) (chk aD (K ++ [(102,t3.text,ps.length)]))
  rw [← h8']
  exact hD
end
end Go.Proofs.Tryz
namespace Go.Proofs.Tryz
set_option maxHeartbeats 16000000
open Go.RowKit
set_option maxRecDepth 10000
section
variable {a w w' : World} {rb g : Nat} {X : List Nat} {L L' M : List Tok} {K K' : List Kn} {lost lost' : Int} {its : List (Out Tn × Value)} {s : ByteArray}
theorem filterR_ok {P:Ps}{B:Nat} (hP:SndR P B) (h:RdR w rb g L K lost) (ht:TbR w rb) (hK:K.length+L.length≤100000) (hB:8 * L.length+4≤B) :
  Calls Tryz.prog 10 #[.pointer (some ⟨rb,0,none⟩)] w (GvR rb g w L K lost (filterS P L)):=by
 have hn:=NqR.start h ht
 obtain ⟨j0,hj0,hy0,hy1,hy2⟩:=info_parts info_stringP
 obtain ⟨i0,hi0,hz0,hz1,hz2⟩:=info_parts info_known
 clear h
 go_enter Tryz.func10,Tryz.ntmps10
 go_wp2_with fail
 cases d0:acc sDef L with
 | mk b0 M0 =>
 cases b0 with
 | false =>
  refine Calls.mono (takesF hn.rd d0) ?_
  rintro e w1 ⟨rfl,k1,r1⟩
  have hn:=hn.call k1 r1
  go_wp2_with fail
  refine Calls.mono (hP.climb 1 0 rfl (by decide) (by decide) hn.rd hn.tbw (by omega) (by omega)) ?_
  rintro e w2 ⟨b2,L2,lost2,rfl,k2,r2,l2,s2,f2⟩
  have hn:=hn.item (v:=.pointer (some ⟨b2,0,none⟩)) k2 r2 f2.rn
  have f2:=f2.lo
  go_wp2_with fail
  go_ret
  rw [show filterS P L=P 11 L by simp [filterS,d0]]
  exact ⟨b2,L2,lost2,rfl,hn.kept,hn.rd,by omega,s2,f2.mono fun t e4 h4=>⟨hn.kid (.head _) e4,h4⟩⟩
 | true =>
 have z0:=acc_len d0
 have hE:Aside (filterS P L=defS P M0):=by show filterS P L=defS P M0;simp [filterS,d0]
 refine Calls.mono (takesT hn.rd d0) ?_
 rintro e w1 ⟨rfl,k1,r1⟩
 have hn:=hn.call k1 r1
 go_wp2_with fail
 have hc:=Cl.start w1 [.string ⟨#[100,101,102]⟩,.string ⟨#[]⟩,.int .i64 0,.int .i64 0,.string ⟨#[]⟩,.slice none 0 0,.slice none 0 0,.slice none 0 0,.slice none 0 0] 51
 have hn:=hn.own (.cells #[.string ⟨#[100,101,102]⟩,.string ⟨#[]⟩,.int .i64 0,.int .i64 0,.string ⟨#[]⟩,.slice none 0 0,.slice none 0 0,.slice none 0 0,.slice none 0 0] 51)
 refine Calls.mono (namedQ 2 110 rfl (.inl rfl) hn.rd) ?_
 rintro e w3 ⟨x,L3,rfl,k3,r3,l3,f3,s3,x3⟩
 have hc:=hc.callR hn (.head _) k3
 have hn:=hn.call k3 r3
 have e1:w3.cell? ⟨w1.heap.size,1,none⟩=some (.string ⟨#[]⟩):=(hc.cell 1).trans rfl
 have q1:=hc.free 1
 go_wp2_with fail
 have hc:=hc.set 1 (.string x) (by simp)
 have hn:=hn.set (o:=1) (.string x) (.head _)
 obtain ⟨W,hW⟩:∃ W,W=w3.setCell ⟨w1.heap.size,1,none⟩ (.string x):=⟨_,rfl⟩
 rw [← hW] at hc hn ⊢
 clear hW
 cases d3:acc sOpen L3 with
 | mk b3 M3 =>
 cases b3 with
 | false =>
  refine Calls.mono (takesF hn.rd d3) ?_
  rintro e w4 ⟨rfl,k4,r4⟩
  have hc:=hc.callR hn (.head _) k4
  have hn:=hn.call k4 r4
  have ho':w4.ownsRow 0 9 1 (.slice none 0 0) (([]:List ByteArray)).length (([]:List ByteArray).map Value.string):=World.ownsRow_nil _ _ _ _
  have fP:Fn (paramsS L3) L3 fun ps=>ps=[]:=by
   rw [show paramsS L3 = .ok ([],L3) by simp [paramsS,d3]]
   exact Fn.ok rfl
  have hns:([]:List ByteArray).length+L3.length≤L3.length:=by simp
  have ho':Aside (w4.ownsRow 0 9 1 (.slice none 0 0) ([]:List ByteArray).length (([]:List ByteArray).map Value.string)):=ho'
  go_wp2_with fail
  refine Calls.mono (needsQ hn.rd) ?_
  rintro e wA ⟨rfl,LA,kA,rA,lA,fA,sA⟩
  have hc:=hc.callR hn (.head _) kA
  have ho':Aside (wA.ownsRow 0 9 1 (.slice none 0 0) ([]:List ByteArray).length (([]:List ByteArray).map Value.string)):=ownsR_call ho'.out hn (by simp [Value.ownBlock]) kA
  have hn:=hn.call kA rA
  obtain ⟨nl,ncap,np,c4,hcK,f4,hnm4,hob⟩:=hn.rd.named
  have hrb:=hn.rd.rbs
  have hNm:=hn.mine w1.heap.size (.head _)
  have hrbs:=hn.rbs
  have x1:wA.cell? ⟨w1.heap.size,1,none⟩=some (.string x):=(hc.cell 1).trans rfl
  have x8c:wA.cell? ⟨w1.heap.size,8,none⟩=some (.slice none 0 0):=(hc.cell 8).trans rfl
  have hne1:w1.heap.size≠rb:=by omega
  have HN:Aside (NqR w wA rb g [w1.heap.size] LA K lost []):=hn
  have HC:Aside (Cl wA w1.heap.size [.string ⟨#[100,101,102]⟩,.string x,.int .i64 0,.int .i64 0,.string ⟨#[]⟩,.slice none 0 0,.slice none 0 0,.slice none 0 0,.slice none 0 0]):=hc
  have HB:Hid _:=hob
  have HK:Hid _:=hcK
  have hcK2:ncap≤100000:=by omega
  have hnl:([]:List ByteArray).length≤100000:=by omega
  have hnew:∀ W:World,W.heap[rb]? = wA.heap[rb]?→W.cell? ⟨rb,4,none⟩=some (.slice nl ncap np)∧W.frozen? ⟨rb,4,none⟩=false:=fun W e=>⟨(World.cell?_of_block (w:=wA) e).trans c4,(World.frozen?_of_block (w:=wA) e).trans f4⟩
  clear hn hc hob hcK
  go_upto_region 15 with fail
  go_cut [] from 60 to 78 (fun wx=>NqR w wx rb g [w1.heap.size] LA (kDef K x ([]:List ByteArray).length []) lost []∧Cl wx w1.heap.size [.string ⟨#[100,101,102]⟩,.string x,.int .i64 0,.int .i64 0,.string ⟨#[]⟩,.slice none 0 0,.slice none 0 0,.slice none 0 0,.slice none 0 0]∧wx.ownsRow 0 9 1 (.slice none 0 0) ([]:List ByteArray).length (([]:List ByteArray).map Value.string))
  case first =>
   go_region_law
     ((refine step_append_lies _ (by rfl) _ _ _ (by rfl) 0 76 i0 _ 3 32 Tryz.underlying38 hi0 hz0 hz1 hz2 rfl (by omega) (.slice nl ncap np) ncap (kcells K) (by rfl) (by first | exact hnm4.alloc _ | exact (World.ownsRow.drew hnm4).alloc _) ⟨wA.heap.size,0,none⟩ 1 1 [.int .u8 102,.string x,.int .i64 (0:Nat)] (by rfl) (by rfl) (World.news_of_block (cs:=#[.int .u8 102,.string x,.int .i64 (0:Nat)]) (t:=76) (fr:=(0,0)) (by first | exact heap_new _ _ | exact heap_alloc_new _ _)) (by simp [Value.oneCell']) (by omega) (by unfold maxLen;omega) (by omega) (by simp) (wA.heap.size+1) (by simp) ?_;intro g2 cap2 wB owB hgr hat hlt2;have hw2g:wB.heap[rb]? = wA.heap[rb]?:=(hgr.block rb (by simp;omega) (fun e=>(HB.out rb e.symm).1 rfl)).trans (by first | exact (below_alloc wA _).block rb hrb | exact (below_alloc wA.drew _).block rb hrb);obtain ⟨d0',d1'⟩:=hnew _ hw2g))
   all_goals
    obtain ⟨hrd,hkp⟩:=HN.out.rd.grown2 (K':=kDef K x ([]:List ByteArray).length []) (nv':=.slice (some ⟨g2,0,none⟩) (ncap+1) cap2) (by first | exact below_alloc _ _ | exact ((Below.refl _ _).drew).alloc (by simp) _ | exact (Below.dN (Below.refl _ _) _).alloc (by simp) _) c4 hgr (by show World.ownsRow _ _ _ _ _ (K ++ [(102,x,([]:List ByteArray).length)] ++ []).length (kcells (K ++ [(102,x,([]:List ByteArray).length)] ++ []));rw [List.append_nil,kcells_append,List.length_append,List.length_singleton,← HK.out];exact owB) (hat.imp (fun e=>e.symm) (fun e b hb=>by cases hb;simp at e ⊢;omega))
    obtain ⟨W,hW⟩:∃ W,wB.setCell ⟨rb,4,none⟩ (.slice (some ⟨g2,0,none⟩) (ncap+1) cap2)=W:=⟨_,rfl⟩
    rw [hW] at hrd hkp ⊢
    clear hW hgr owB hat hlt2 hw2g d0' d1'
    have hn:=HN.out.call hkp hrd
    have hc:=HC.out.callR HN.out (.head _) hkp
    have ho':Aside (W.ownsRow 0 9 1 (.slice none 0 0) ([]:List ByteArray).length (([]:List ByteArray).map Value.string)):=ownsR_call ho'.out HN.out (by simp [Value.ownBlock]) hkp
    go_wp2_with fail
    go_meet
    exact ⟨hn,hc,ho'.out⟩
  case rest =>
  obtain ⟨hn,hc,ho'⟩:=hcut
  have ho':Aside (wc.ownsRow 0 9 1 (.slice none 0 0) ([]:List ByteArray).length (([]:List ByteArray).map Value.string)):=ho'
  clear HC HN hnew c4 f4 hnm4 x1 x8c
  go_wp2_with fail
  go_loopg [7] ([]:List ByteArray).length (fun k v wr=>∃ j:Nat,v = .int .i64 j∧DgJ w rb g w1.heap.size [w1.heap.size] x LA K lost (.slice none 0 0) ([]:List ByteArray) k j wr)
  case atStart=>exact ⟨0,rfl,by simp,hc,ho'.out,by simpa using hn⟩
  case round =>
   clear hn hc
   obtain ⟨j,rfl,hjk,hc,ho',hn⟩:=hrel
   have ho':Aside (wr.ownsRow 0 9 1 (.slice none 0 0) ([]:List ByteArray).length (([]:List ByteArray).map Value.string)):=ho'
   have hn:NqR w wr rb g [w1.heap.size] LA (kDef K x ([]:List ByteArray).length ([]:List ByteArray)) lost []:=by
    have:([]:List ByteArray).take j=([]:List ByteArray):=List.take_of_length_le (by omega)
    rw [this] at hn
    exact hn
   have x8c:wr.cell? ⟨w1.heap.size,8,none⟩=some (.slice none 0 0):=(hc.cell 8).trans rfl
   have hj2:(decide ((j:Int) < (([]:List ByteArray).length:Nat)))=false:=by simp <;> omega
   go_wp2_with fail
   refine Calls.mono (hP.filter hn.rd hn.tbw (by rw [kDef_len];omega) (by omega)) ?_
   rintro e w8 ⟨b8,L8,lost8,rfl,k8,r8,l8,s8,f8⟩
   have hc:=hc.callR hn (.head _) k8
   have ho':Aside (w8.ownsRow 0 9 1 (.slice none 0 0) ([]:List ByteArray).length (([]:List ByteArray).map Value.string)):=ownsR_call ho'.out hn (by simp [Value.ownBlock]) k8
   have hn:=hn.item (v:=.pointer (some ⟨b8,0,none⟩)) k8 r8 f8.rn
   have f8:=f8.lo
   go_wp2_with fail
   refine Calls.mono (backQ ((ncap:Int)+1) (ncap+1) (by omega) hn.rd (by rw [kDef_len];have:=HK.out;omega) (by rw [kDef_len];omega)) ?_
   rintro e w9 ⟨rfl,k9,r9⟩
   have r9:RdR w9 rb g L8 (kDef K x ([]:List ByteArray).length []) lost8:=by
    rw [HK.out,kDef_take] at r9
    exact r9
   have hc:=hc.callR hn (.head _) k9
   have ho':Aside (w9.ownsRow 0 9 1 (.slice none 0 0) ([]:List ByteArray).length (([]:List ByteArray).map Value.string)):=ownsR_call ho'.out hn (by simp [Value.ownBlock]) k9
   have hn:=hn.call k9 r9
   go_wp2_with fail
   refine Calls.mono (needsQ hn.rd) ?_
   rintro e wC ⟨rfl,LC,kC,rC,lC,fC,sC⟩
   have hc:=hc.callR hn (.head _) kC
   have ho':Aside (wC.ownsRow 0 9 1 (.slice none 0 0) ([]:List ByteArray).length (([]:List ByteArray).map Value.string)):=ownsR_call ho'.out hn (by simp [Value.ownBlock]) kC
   have hn:=hn.call kC rC
   go_wp2_with fail
   refine Calls.mono (hP.filter hn.rd hn.tbw (by rw [kDef_len];simp;omega) (by omega)) ?_
   rintro e wD ⟨bD,LD,lostD,rfl,kD,rD,lD,sD,fD⟩
   have hc:=hc.callR hn (.head _) kD
   have ho':Aside (wD.ownsRow 0 9 1 (.slice none 0 0) ([]:List ByteArray).length (([]:List ByteArray).map Value.string)):=ownsR_call ho'.out hn (by simp [Value.ownBlock]) kD
   have hn:=hn.item (v:=.pointer (some ⟨bD,0,none⟩)) kD rD fD.rn
   have fD:=fD.lo
   go_wp2_with fail
   refine Calls.mono (backQ (ncap:Int) ncap rfl hn.rd (by rw [kDef_len];have:=HK.out;omega) (by rw [kDef_len];simp;omega)) ?_
   rintro e wE ⟨rfl,kE,rE⟩
   have rE:RdR wE rb g LD K lostD:=by
    rw [HK.out,kDef_zero] at rE
    exact rE
   have hc:=hc.callR hn (.head _) kE
   have ho':Aside (wE.ownsRow 0 9 1 (.slice none 0 0) ([]:List ByteArray).length (([]:List ByteArray).map Value.string)):=ownsR_call ho'.out hn (by simp [Value.ownBlock]) kE
   have hn:=hn.call kE rE
   have q7:=hc.free
   have c7:wE.cell? ⟨w1.heap.size,7,none⟩=some (.slice none 0 0):=(hc.cell 7).trans rfl
   have yE:=(hn.mine _ (.head _)).2.1
   go_wp2_with fail
   go_ret
   exact def_end hE.out d0 f3 fP fA f8 fC fD (by omega) s3 (Sx.refl _) sA s8 sC sD hn (.head _) hc ho'.out (by simp [Value.ownBlock])
 | true =>
  have z3:=acc_len d3
  refine Calls.mono (takesT hn.rd d3) ?_
  rintro e w4 ⟨rfl,k4,r4⟩
  have hc:=hc.callR hn (.head _) k4
  have hn:=hn.call k4 r4
  go_wp2_with fail
  refine Calls.mono (namedQ 2 110 rfl (.inl rfl) hn.rd) ?_
  rintro e w5 ⟨x5,L5,rfl,k5,r5,l5,f5,s5,x5s⟩
  have hc:=hc.callR hn (.head _) k5
  have hn:=hn.call k5 r5
  have hS:w5.cell? ⟨w1.heap.size,8,none⟩=some (.slice none 0 0):=(hc.cell 8).trans rfl
  have q5:=hc.free
  have y5:=(hn.mine _ (.head _)).2.1
  go_wp2_with (refine wpList_append_lies _ (by rfl) _ _ _ (by rfl) 0 9 j0 _ 1 16 Tryz.underlying46 hj0 hy0 hy1 hy2 rfl (by omega) (.slice none 0 0) 0 [] (by rfl) (World.ownsRow_nil _ _ _ _) ⟨w5.heap.size,0,none⟩ 1 1 [.string x5] (by rfl) (by rfl) (World.news_of_block (cs:=#[.string x5]) (t:=9) (fr:=(0,0)) (heap_new w5 _)) (by simp [Value.oneCell']) (by omega) (by unfold maxLen;omega) (by omega) (by simp) (w5.heap.size+1) (by simp) ?_;intro g6 cap6 w6 ow6 hgr6 hat6 hlt6;have hc:=(hc.below (below_alloc _ _) y5).grown hgr6 (by simp;omega) (by simp [Value.ownBlock]);have hn:=(hn.alloc _).grown hgr6 (by simp [Value.ownBlock]) (hat6.imp id (fun e=>by simpa using e)) hlt6;have hS6:w6.cell? ⟨w1.heap.size,8,none⟩=some (.slice none 0 0):=(hc.cell 8).trans rfl;have q6:=hc.free)
  have hg6:g6≠w1.heap.size:=by
   rcases hat6 with e | e
   ·cases e
   ·first | omega | (simp at e;omega)
  have hc:=hc.set 8 (.slice (some ⟨g6,0,none⟩) (0+1) cap6) (by simp)
  have hn:=hn.set (o:=8) (.slice (some ⟨g6,0,none⟩) (0+1) cap6) (.tail _ (.head _))
  have ho':=ownsB_set (N:=w1.heap.size) (o:=8) (u:=.slice (some ⟨g6,0,none⟩) (0+1) cap6) ow6 (fun b e=>by cases e;exact hg6)
  go_loopg [] L3.length (fun k wr=>DfJ w rb g w1.heap.size x L3 K lost k wr)
  case atStart =>
   exact ⟨_,L5,_,[x5],.tail _ (.head _),hc,fun b e=>by cases e;exact ⟨.head _,hg6⟩,ho',by simp;omega,by omega,acc_sx d3,hn,pa_next (ns:=[]) (x:=exk 2 M3) (q:=List.length) (by simp [paramsS,d3]) (Nat.le_refl _) f5⟩
  case round =>
   clear hn hc ho' f5
   obtain ⟨X,M,rp,ns,hNX,hc,hg',ho',hnm,hMk,sM,hn,hR⟩:=hrel
   obtain ⟨pa,pc,hpe⟩:=owns_sl ho'
   subst hpe
   have ho':Aside (wr.ownsRow 0 9 1 (.slice pa ns.length pc) ns.length (ns.map Value.string)):=ho'
   have hne:=hn.rd.wf.ne
   cases d6:acc sSemi M with
   | mk b6 M6 =>
   cases b6 with
   | false =>
    have d6':=acc_false d6
    go_wp2_with fail
    refine Calls.mono (takesF hn.rd d6) ?_
    rintro e w7 ⟨rfl,k7,r7⟩
    have hc:=hc.callR hn hNX k7
    have ho':Aside (w7.ownsRow 0 9 1 (.slice pa ns.length pc) ns.length (ns.map Value.string)):=ownsR_call ho'.out hn (fun b e=>(hg' b e).1) k7
    have hn:=hn.call k7 r7
    go_wp2_with fail
    refine Calls.mono (needsQ hn.rd) ?_
    rintro e w4 ⟨rfl,L6,k8,r8,l8,f8,s8⟩
    have hc:=hc.callR hn hNX k8
    have ho':=ownsR_call ho'.out hn (fun b e=>(hg' b e).1) k8
    have hn:=hn.call k8 r8
    have fP:Fn (paramsS L3) L6 fun ps=>ps=ns:=hR.done hne (d6' ▸ d6) f8 s8
    have hs6:Sx L3 L6:=sM.trans s8
    have hns:ns.length+L6.length≤L3.length:=by omega
    have ho':Aside (w4.ownsRow 0 9 1 (.slice pa ns.length pc) ns.length (ns.map Value.string)):=ho'
    go_wp2_with fail
    refine Calls.mono (needsQ hn.rd) ?_
    rintro e wA ⟨rfl,LA,kA,rA,lA,fA,sA⟩
    have hc:=hc.callR hn hNX kA
    have ho':Aside (wA.ownsRow 0 9 1 (.slice pa ns.length pc) ns.length (ns.map Value.string)):=ownsR_call ho'.out hn (fun b e=>(hg' b e).1) kA
    have hn:=hn.call kA rA
    obtain ⟨nl,ncap,np,c4,hcK,f4,hnm4,hob⟩:=hn.rd.named
    have hrb:=hn.rd.rbs
    have hNm:=hn.mine w1.heap.size hNX
    have hrbs:=hn.rbs
    have x1:wA.cell? ⟨w1.heap.size,1,none⟩=some (.string x):=(hc.cell 1).trans rfl
    have x8c:wA.cell? ⟨w1.heap.size,8,none⟩=some (.slice pa ns.length pc):=(hc.cell 8).trans rfl
    have hne1:w1.heap.size≠rb:=by omega
    have HN:Aside (NqR w wA rb g X LA K lost []):=hn
    have HC:Aside (Cl wA w1.heap.size [.string ⟨#[100,101,102]⟩,.string x,.int .i64 0,.int .i64 0,.string ⟨#[]⟩,.slice none 0 0,.slice none 0 0,.slice none 0 0,.slice pa ns.length pc]):=hc
    have HB:Hid _:=hob
    have HK:Hid _:=hcK
    have hcK2:ncap≤100000:=by omega
    have hnl:ns.length≤100000:=by omega
    have hnew:∀ W:World,W.heap[rb]? = wA.heap[rb]?→W.cell? ⟨rb,4,none⟩=some (.slice nl ncap np)∧W.frozen? ⟨rb,4,none⟩=false:=fun W e=>⟨(World.cell?_of_block (w:=wA) e).trans c4,(World.frozen?_of_block (w:=wA) e).trans f4⟩
    clear hn hc hob hcK
    go_upto_region 15 with fail
    go_cut [] from 60 to 78 (fun wx=>NqR w wx rb g X LA (kDef K x ns.length []) lost []∧Cl wx w1.heap.size [.string ⟨#[100,101,102]⟩,.string x,.int .i64 0,.int .i64 0,.string ⟨#[]⟩,.slice none 0 0,.slice none 0 0,.slice none 0 0,.slice pa ns.length pc]∧wx.ownsRow 0 9 1 (.slice pa ns.length pc) ns.length (ns.map Value.string))
    case first =>
     go_region_law
       ((refine step_append_lies _ (by rfl) _ _ _ (by rfl) 0 76 i0 _ 3 32 Tryz.underlying38 hi0 hz0 hz1 hz2 rfl (by omega) (.slice nl ncap np) ncap (kcells K) (by rfl) (by first | exact hnm4.alloc _ | exact (World.ownsRow.drew hnm4).alloc _) ⟨wA.heap.size,0,none⟩ 1 1 [.int .u8 102,.string x,.int .i64 (ns.length:Nat)] (by rfl) (by rfl) (World.news_of_block (cs:=#[.int .u8 102,.string x,.int .i64 (ns.length:Nat)]) (t:=76) (fr:=(0,0)) (by first | exact heap_new _ _ | exact heap_alloc_new _ _)) (by simp [Value.oneCell']) (by omega) (by unfold maxLen;omega) (by omega) (by simp) (wA.heap.size+1) (by simp) ?_;intro g2 cap2 wB owB hgr hat hlt2;have hw2g:wB.heap[rb]? = wA.heap[rb]?:=(hgr.block rb (by simp;omega) (fun e=>(HB.out rb e.symm).1 rfl)).trans (by first | exact (below_alloc wA _).block rb hrb | exact (below_alloc wA.drew _).block rb hrb);obtain ⟨d0',d1'⟩:=hnew _ hw2g))
     all_goals
      obtain ⟨hrd,hkp⟩:=HN.out.rd.grown2 (K':=kDef K x ns.length []) (nv':=.slice (some ⟨g2,0,none⟩) (ncap+1) cap2) (by first | exact below_alloc _ _ | exact ((Below.refl _ _).drew).alloc (by simp) _ | exact (Below.dN (Below.refl _ _) _).alloc (by simp) _) c4 hgr (by show World.ownsRow _ _ _ _ _ (K ++ [(102,x,ns.length)] ++ []).length (kcells (K ++ [(102,x,ns.length)] ++ []));rw [List.append_nil,kcells_append,List.length_append,List.length_singleton,← HK.out];exact owB) (hat.imp (fun e=>e.symm) (fun e b hb=>by cases hb;simp at e ⊢;omega))
      obtain ⟨W,hW⟩:∃ W,wB.setCell ⟨rb,4,none⟩ (.slice (some ⟨g2,0,none⟩) (ncap+1) cap2)=W:=⟨_,rfl⟩
      rw [hW] at hrd hkp ⊢
      clear hW hgr owB hat hlt2 hw2g d0' d1'
      have hn:=HN.out.call hkp hrd
      have hc:=HC.out.callR HN.out hNX hkp
      have ho':Aside (W.ownsRow 0 9 1 (.slice pa ns.length pc) ns.length (ns.map Value.string)):=ownsR_call ho'.out HN.out (fun b e=>(hg' b e).1) hkp
      go_wp2_with fail
      go_meet
      exact ⟨hn,hc,ho'.out⟩
    case rest =>
    obtain ⟨hn,hc,ho'⟩:=hcut
    have ho':Aside (wc.ownsRow 0 9 1 (.slice pa ns.length pc) ns.length (ns.map Value.string)):=ho'
    clear HC HN hnew c4 f4 hnm4 x1 x8c
    go_wp2_with fail
    go_loopg [7] ns.length (fun k v wr=>∃ j:Nat,v = .int .i64 j∧DgJ w rb g w1.heap.size X x LA K lost (.slice pa ns.length pc) ns k j wr)
    case atStart=>exact ⟨0,rfl,by simp,hc,ho'.out,by simpa using hn⟩
    case round =>
     clear hn hc
     obtain ⟨j,rfl,hjk,hc,ho',hn⟩:=hrel
     have ho':Aside (wr.ownsRow 0 9 1 (.slice pa ns.length pc) ns.length (ns.map Value.string)):=ho'
     by_cases hj:j < ns.length
     ·obtain ⟨k',rfl⟩:∃ k',gk=k'+1:=⟨gk - 1,by omega⟩
      obtain ⟨gp,hgp⟩:∃ gp,pa=some ⟨gp,0,none⟩:=owns_some ho'.out (by omega)
      subst hgp
      have cj:wr.cell? ⟨gp,j,none⟩=some (.string ns[j]):=owns_one ho'.out (by rw [List.getElem?_map,List.getElem?_eq_getElem hj];rfl)
      obtain ⟨nl3,ncap3,np3,c4,hcK3,f4,hnm4,hob⟩:=hn.rd.named
      have hrb:=hn.rd.rbs
      have hNm:=hn.mine w1.heap.size hNX
      have x8c:wr.cell? ⟨w1.heap.size,8,none⟩=some (.slice (some ⟨gp,0,none⟩) ns.length pc):=(hc.cell 8).trans rfl
      have hj1:(decide ((j:Int) < ns.length))=true:=by simp;omega
      have hj3:(decide (j < ns.length))=true:=by simpa using hj
      have hne1:w1.heap.size≠rb:=by omega
      have hgN:=(hg' gp rfl).2
      have hgp3:=(hn.mine gp (hg' gp rfl).1)
      have hgr3:gp≠rb:=by omega
      have HN:Aside (NqR w wr rb g X LA (kDef K x ns.length (ns.take j)) lost []):=hn
      have HC:Aside (Cl wr w1.heap.size [.string ⟨#[100,101,102]⟩,.string x,.int .i64 0,.int .i64 0,.string ⟨#[]⟩,.slice none 0 0,.slice none 0 0,.slice none 0 0,.slice (some ⟨gp,0,none⟩) ns.length pc]):=hc
      have HB:Hid _:=hob
      have HK3:Hid _:=hcK3
      have hcK4:ncap3≤100000:=by rw [hcK3,kDef_len,List.length_take];omega
      have hnew:∀ W:World,W.heap[rb]? = wr.heap[rb]?→W.cell? ⟨rb,4,none⟩=some (.slice nl3 ncap3 np3)∧W.frozen? ⟨rb,4,none⟩=false:=fun W e=>⟨(World.cell?_of_block (w:=wr) e).trans c4,(World.frozen?_of_block (w:=wr) e).trans f4⟩
      obtain ⟨y,hy⟩:∃ y,ns[j]=y:=⟨_,rfl⟩
      rw [hy] at cj
      have hy:Aside (ns[j]? = some y):=by rw [← hy];exact List.getElem?_eq_getElem hj
      clear hn hc hob hcK3
      go_wp2_with fail
      go_region_law
       ((refine step_append_lies _ (by rfl) _ _ _ (by rfl) 0 76 i0 _ 3 32 Tryz.underlying38 hi0 hz0 hz1 hz2 rfl (by omega) (.slice nl3 ncap3 np3) ncap3 (kcells (kDef K x ns.length (ns.take j))) (by rfl) (by first | exact hnm4.alloc _ | exact (World.ownsRow.drew hnm4).alloc _) ⟨wr.heap.size,0,none⟩ 1 1 [.int .u8 102,.string y,.int .i64 0] (by rfl) (by rfl) (World.news_of_block (cs:=#[.int .u8 102,.string y,.int .i64 0]) (t:=76) (fr:=(0,0)) (by first | exact heap_new _ _ | exact heap_alloc_new _ _)) (by simp [Value.oneCell']) (by omega) (by unfold maxLen;omega) (by omega) (by simp) (wr.heap.size+1) (by simp) ?_;intro g2 cap2 wB owB hgr hat hlt2;have hw2g:wB.heap[rb]? = wr.heap[rb]?:=(hgr.block rb (by simp;omega) (fun e=>(HB.out rb e.symm).1 rfl)).trans (by first | exact (below_alloc wr _).block rb hrb | exact (below_alloc wr.drew _).block rb hrb);obtain ⟨d0',d1'⟩:=hnew _ hw2g))
      all_goals
       obtain ⟨hrd,hkp⟩:=HN.out.rd.grown2 (K':=kDef K x ns.length (ns.take (j+1))) (nv':=.slice (some ⟨g2,0,none⟩) (ncap3+1) cap2) (by first | exact below_alloc _ _ | exact ((Below.refl _ _).drew).alloc (by simp) _ | exact (Below.dN (Below.refl _ _) _).alloc (by simp) _) c4 hgr (by rw [← kDef_add hy.out,kcells_append,List.length_append,List.length_singleton,← HK3.out];exact owB) (hat.imp (fun e=>e.symm) (fun e b hb=>by cases hb;simp at e ⊢;omega))
       obtain ⟨W,hW⟩:∃ W,wB.setCell ⟨rb,4,none⟩ (.slice (some ⟨g2,0,none⟩) (ncap3+1) cap2)=W:=⟨_,rfl⟩
       rw [hW] at hrd hkp ⊢
       clear hW hgr owB hat hlt2 hw2g d0' d1'
       have hn:=HN.out.call hkp hrd
       have hc:=HC.out.callR HN.out hNX hkp
       have ho':=ownsR_call ho'.out HN.out (fun b e=>(hg' b e).1) hkp
       go_wp2_with fail
       go_roundg k'
       case measure=>omega
       case rel=>exact ⟨j+1,by simp,by omega,hc,ho',hn⟩
     ·have hn:NqR w wr rb g X LA (kDef K x ns.length ns) lost []:=by
       have:ns.take j=ns:=List.take_of_length_le (by omega)
       rw [this] at hn
       exact hn
      have x8c:wr.cell? ⟨w1.heap.size,8,none⟩=some (.slice pa ns.length pc):=(hc.cell 8).trans rfl
      have hj2:(decide ((j:Int) < (ns.length:Nat)))=false:=by simp <;> omega
      go_wp2_with fail
      refine Calls.mono (hP.filter hn.rd hn.tbw (by rw [kDef_len];omega) (by omega)) ?_
      rintro e w8 ⟨b8,L8,lost8,rfl,k8,r8,l8,s8,f8⟩
      have hc:=hc.callR hn hNX k8
      have ho':Aside (w8.ownsRow 0 9 1 (.slice pa ns.length pc) ns.length (ns.map Value.string)):=ownsR_call ho'.out hn (fun b e=>(hg' b e).1) k8
      have hn:=hn.item (v:=.pointer (some ⟨b8,0,none⟩)) k8 r8 f8.rn
      have f8:=f8.lo
      go_wp2_with fail
      refine Calls.mono (backQ ((ncap:Int)+1) (ncap+1) (by omega) hn.rd (by rw [kDef_len];have:=HK.out;omega) (by rw [kDef_len];omega)) ?_
      rintro e w9 ⟨rfl,k9,r9⟩
      have r9:RdR w9 rb g L8 (kDef K x ns.length []) lost8:=by
       rw [HK.out,kDef_take] at r9
       exact r9
      have hc:=hc.callR hn hNX k9
      have ho':Aside (w9.ownsRow 0 9 1 (.slice pa ns.length pc) ns.length (ns.map Value.string)):=ownsR_call ho'.out hn (fun b e=>(hg' b e).1) k9
      have hn:=hn.call k9 r9
      go_wp2_with fail
      refine Calls.mono (needsQ hn.rd) ?_
      rintro e wC ⟨rfl,LC,kC,rC,lC,fC,sC⟩
      have hc:=hc.callR hn hNX kC
      have ho':Aside (wC.ownsRow 0 9 1 (.slice pa ns.length pc) ns.length (ns.map Value.string)):=ownsR_call ho'.out hn (fun b e=>(hg' b e).1) kC
      have hn:=hn.call kC rC
      go_wp2_with fail
      refine Calls.mono (hP.filter hn.rd hn.tbw (by rw [kDef_len];simp;omega) (by omega)) ?_
      rintro e wD ⟨bD,LD,lostD,rfl,kD,rD,lD,sD,fD⟩
      have hc:=hc.callR hn hNX kD
      have ho':Aside (wD.ownsRow 0 9 1 (.slice pa ns.length pc) ns.length (ns.map Value.string)):=ownsR_call ho'.out hn (fun b e=>(hg' b e).1) kD
      have hn:=hn.item (v:=.pointer (some ⟨bD,0,none⟩)) kD rD fD.rn
      have fD:=fD.lo
      go_wp2_with fail
      refine Calls.mono (backQ (ncap:Int) ncap rfl hn.rd (by rw [kDef_len];have:=HK.out;omega) (by rw [kDef_len];simp;omega)) ?_
      rintro e wE ⟨rfl,kE,rE⟩
      have rE:RdR wE rb g LD K lostD:=by
       rw [HK.out,kDef_zero] at rE
       exact rE
      have hc:=hc.callR hn hNX kE
      have ho':Aside (wE.ownsRow 0 9 1 (.slice pa ns.length pc) ns.length (ns.map Value.string)):=ownsR_call ho'.out hn (fun b e=>(hg' b e).1) kE
      have hn:=hn.call kE rE
      have q7:=hc.free
      have c7:wE.cell? ⟨w1.heap.size,7,none⟩=some (.slice none 0 0):=(hc.cell 7).trans rfl
      have yE:=(hn.mine _ hNX).2.1
      go_wp2_with fail
      go_ret
      exact def_end hE.out d0 f3 fP fA f8 fC fD (by omega) s3 hs6 sA s8 sC sD hn hNX hc ho'.out hg'
   | true =>
    have z6:=acc_len d6
    obtain ⟨m,hm,hE2⟩:=hR.yes d6
    match gk,hMk with
    | 0,hMk=>omega
    | k+1,hMk =>
    go_wp2_with fail
    refine Calls.mono (takesT hn.rd d6) ?_
    rintro e w7 ⟨rfl,k7,r7⟩
    have hc:=hc.callR hn hNX k7
    have ho':Aside (w7.ownsRow 0 9 1 (.slice pa ns.length pc) ns.length (ns.map Value.string)):=ownsR_call ho'.out hn (fun b e=>(hg' b e).1) k7
    have hn:=hn.call k7 r7
    go_wp2_with fail
    refine Calls.mono (namedQ 2 110 rfl (.inl rfl) hn.rd) ?_
    rintro e w8 ⟨x8,L8,rfl,k8,r8,l8,f8,s8,x8s⟩
    have hc:=hc.callR hn hNX k8
    have ho':Aside (w8.ownsRow 0 9 1 (.slice pa ns.length pc) ns.length (ns.map Value.string)):=ownsR_call ho'.out hn (fun b e=>(hg' b e).1) k8
    have hn:=hn.call k8 r8
    have hS:w8.cell? ⟨w1.heap.size,8,none⟩=some (.slice pa ns.length pc):=(hc.cell 8).trans rfl
    have q8:=hc.free
    have y8:=(hn.mine _ hNX).2.1
    go_wp2_with (refine wpList_append_lies _ (by rfl) _ _ _ (by rfl) 0 9 j0 _ 1 16 Tryz.underlying46 hj0 hy0 hy1 hy2 rfl (by omega) (.slice pa ns.length pc) ns.length (ns.map Value.string) (by rfl) (ownsB_below ho'.out (below_alloc _ _)) ⟨w8.heap.size,0,none⟩ 1 1 [.string x8] (by rfl) (by rfl) (World.news_of_block (cs:=#[.string x8]) (t:=9) (fr:=(0,0)) (heap_new w8 _)) (by simp [Value.oneCell']) (by omega) (by unfold maxLen;omega) (by omega) (by simp) (w8.heap.size+1) (by simp) ?_;intro g9 cap9 w9 ow9 hgr9 hat9 hlt9;have hc:=(hc.below (below_alloc _ _) y8).grown hgr9 (by simp;omega) (fun e=>(hg' _ e).2 rfl);have hn:=(hn.alloc _).grown hgr9 (fun i e=>(hg' i e).1) (hat9.imp id (fun e=>by simpa using e)) hlt9;have hS9:w9.cell? ⟨w1.heap.size,8,none⟩=some (.slice pa ns.length pc):=(hc.cell 8).trans rfl;have q9:=hc.free)
    have hg9:g9≠w1.heap.size:=by
     rcases hat9 with e | e
     ·exact (hg' _ e).2
     ·first | omega | (simp at e;omega)
    have hc:=hc.set 8 (.slice (some ⟨g9,0,none⟩) (ns.length+1) cap9) (by simp)
    have hn:=hn.set (o:=8) (.slice (some ⟨g9,0,none⟩) (ns.length+1) cap9) (.tail _ hNX)
    have ho':=ownsB_set (N:=w1.heap.size) (o:=8) (u:=.slice (some ⟨g9,0,none⟩) (ns.length+1) cap9) ow9 (fun b e=>by cases e;exact hg9)
    go_roundg k
    case measure=>omega
    case rel =>
     refine ⟨_,L8,_,ns ++ [x8],.tail _ hNX,hc,fun b e=>by cases e;exact ⟨.head _,hg9⟩,by simpa using ho',by simp;omega,by omega,(fun e=>?_),hn,pa_next (ns:=ns) (x:=exk 2 M6) (q:=fun _=>m) ?_ (by show L8.length≤m;omega) f8⟩
     ·exfalso
      have e2:=sM e
      rw [e2,acc_one e] at d6
      cases d6
     ·rw [hE2]
      simp only [namesS,d6,thn_thn]
      rfl
end
end Go.Proofs.Tryz
