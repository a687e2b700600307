import Derived.Test.YtndoeeampclfaaaGreatDoorWl2
import Derived.Lib.AppendZerosOnto
import Derived.Lib.SliceRun
set_option linter.all false
namespace Go.Proofs.Tryz
set_option maxHeartbeats 16000000
open Go.RowKit
set_option maxRecDepth 10000
def AloneG (C:Nat→Prop) (w0:World) (name:ByteArray) (x:IV) (R:SP):Prop:=∀ w,SameOn C w0 w→w0.heap.size≤w.heap.size→
 Calls Tryz.prog 165 #[.string name,iv x] w fun e w'=>Below w.heap.size w w'∧∃ z G,e = .returned (iv z)∧HoldsP R G w' (z,none)∧∀ k,G k→C k∨w.heap.size≤k
theorem enters_given4:Enters Tryz.prog 164:=enters_of Tryz.func164 (by kernel_rfl) rfl
theorem out_alone {C:Nat→Prop}{fb sb b:Nat}{w0 w:World}{x:IV}{name:ByteArray}{R:SP} (h:AloneG C w0 name x R) (hf:Box w fb (.pointer (some ⟨b,0,none⟩)) 169) (hx:SpotB w sb (x,none)) (hC:∀ k,C k→k < w0.heap.size) (hb:C b) (c0:w0.cell? ⟨b,0,none⟩=some (.string name)) (hs:SameOn C w0 w) (hl:w0.heap.size≤w.heap.size) :
  OutG (fun k=>C k∨k=fb∨k=sb) w (.func (.func 164) #[] #[.pointer (some ⟨fb,0,none⟩),.pointer (some ⟨sb,0,none⟩)]) R:=by
 have hxl:=hx.lt
 have hfl:=hf.lt
 refine ⟨_,_,rfl,enters_given4,by grind,?_⟩
 intro w' hs' hl'
 have hs0:SameOn C w0 w':=hs.trans (hs'.mono (fun _ h=>.inl h))
 have hx':=hx.same (hs' sb (by simp))
 have hf':=hf.same (hs' fb (by simp))
 have f0:=hf'.cell
 have f2:=hf'.lt
 have n1:=hs0.cell hb c0
 have n2:b < w'.heap.size:=by have:=hC b hb;omega
 have H:∀ w1,Below w'.heap.size w' w1→Calls Tryz.prog 165 #[.string name,iv x] w1 fun e w2=>Below w1.heap.size w1 w2∧∃ z G,e = .returned (iv z)∧HoldsP R G w2 (z,none)∧∀ k,G k→C k∨w1.heap.size≤k:=fun w1 k=>h w1 (hs0.trans (fun j hj=>k.block j (by have:=hC j hj;omega))) (by have:=k.size;omega)
 clear h
 obtain ⟨T,u⟩:=x
 obtain ⟨x0,x1,_,_,x4⟩:=hx'.facts
 simp only [iv] at H ⊢
 have s0:=tri ((Below.refl _ w').drew) x0 f0 n1
 go_enter Tryz.func164,Tryz.ntmps164
 go_wp2_with fail
 go_region_held3 (fun w1=>w1.cell? ⟨sb,0,none⟩=some (.iface T u)∧w1.cell? ⟨fb,0,none⟩=some (.pointer (some ⟨b,0,none⟩))∧w1.cell? ⟨b,0,none⟩=some (.string name)) (first | exact s0 | exact e4 | go_keep)
  (first | (go_at_call 165;refine (H _ (Below.refl _ _).drew).mono ?_;rintro e w1 ⟨k1,⟨T2,u2⟩,G,rfl,hR,hG⟩;have kX:Below w'.heap.size w' w1:=(Below.refl _ _).drew.trans (k1.mono (by simp));have e4:=tri kX x0 f0 n1;have hG':∀ k,G k→C k∨w'.heap.size≤k:=hG))
 all_goals
  go_wp2_with fail
  go_ret
  exact ⟨kX,(T2,u2),G,rfl,hR,by grind⟩
def NotGiven (name:ByteArray):Prop:=(name.toList == [112,97,116,104])=false∧(name.toList == [114,97,110,103,101])=false∧(name.toList == [115,101,116,112,97,116,104])=false
theorem given_alone {C:Nat→Prop}{w0 w:World}{kn:Option Addr}{d:Int}{b:Nat}{name:ByteArray}{x:IV}{R:SP} (hC:∀ k,C k→k < w0.heap.size) (hb:C b) (c0:w0.cell? ⟨b,0,none⟩=some (.string name)) (c1:w0.cell? ⟨b,1,none⟩=some (.slice none 0 0)) (hN:NotGiven name) (hs:SameOn C w0 w) (hl:w0.heap.size≤w.heap.size) (h:AloneG C w0 name x R) :
  Calls Tryz.prog 117 #[.agg #[.pointer kn,.int .i64 d],.pointer (some ⟨b,0,none⟩),.agg #[iv x,.pointer none]] w (MadeC [R] C w):=by
 obtain ⟨o1,o2,o3⟩:=hN
 have n0:=hs.cell hb c0
 have n1:=hs.cell hb c1
 have n3:b < w.heap.size:=by have:=hC b hb;omega
 obtain ⟨T,u⟩:=x
 have kW0:=below_alloc3 w (.cells #[.pointer kn,.int .i64 d] 71) (.cells #[.pointer (some ⟨b,0,none⟩)] 169) (.cells #[.iface T u,.pointer none] 75)
 have wn0:=(kW0.cell (p:=⟨b,0,none⟩) n3).trans n0
 have wn1:=(kW0.cell (p:=⟨b,1,none⟩) n3).trans n1
 clear kW0
 have hw:Calls Tryz.prog 122 #[.func (.func 164) #[] #[.pointer (some ⟨w.heap.size+1,0,none⟩),.pointer (some ⟨w.heap.size+2,0,none⟩)]] (((w.alloc (.cells #[.pointer kn,.int .i64 d] 71)).alloc (.cells #[.pointer (some ⟨b,0,none⟩)] 169)).alloc (.cells #[.iface T u,.pointer none] 75)) (MadeC [R] (fun k=>C k∨w.heap.size≤k) (((w.alloc (.cells #[.pointer kn,.int .i64 d] 71)).alloc (.cells #[.pointer (some ⟨b,0,none⟩)] 169)).alloc (.cells #[.iface T u,.pointer none] 75))):=by
  obtain ⟨wA,hA,kW,wp,wf,wx,wl⟩:=three_boxes w kn d (.pointer (some ⟨b,0,none⟩)) 169 ((T,u),none)
  simp only [iv] at hA
  rw [← hA]
  exact worked_okg (out_alone h wf wx hC hb c0 (hs.trans (fun j hj=>kW.block j (by have:=hC j hj;omega))) (by have:=kW.size;omega)) (by grind)
 simp only [iv]
 clear h
 go_enter Tryz.func117,Tryz.ntmps117
 go_wp2_with (go_at_call 122;refine hw.mono ?_;rintro e w1 ⟨k1,K,cap,rfl,hM⟩)
 go_ret
 exact (MadeC.under (L:=[R]) (C:=fun k=>C k∨w.heap.size≤k) ⟨k1,K,cap,rfl,hM⟩ (below_alloc3 w _ _ _)).more (by grind)
theorem enters_mustParts:Enters Tryz.prog 52:=enters_of Tryz.func52 (by kernel_rfl) rfl
end Go.Proofs.Tryz
namespace Go.Proofs.Tryz
set_option maxHeartbeats 16000000
open Go.RowKit
set_option maxRecDepth 10000
def Plainish (P:SP):Prop:=∀ w v q,P w (v,q)→P w (v,none)
theorem HoldsP.own {Ps:List SP}{G:Nat→Prop}{w:World}{s:Sp}{v:Value} (h:HoldsP (ArrOf Ps) G w s) (e:s.1=(86,v)):∀ g,v.ownBlock=some g→G g:=by
 intro g hg
 refine Classical.byContradiction (fun hn=>?_)
 obtain ⟨_,v0,ss0,e0,ow0,_⟩:=h.here
 rw [e] at e0
 cases e0
 have hgl:=(ow0.lt g hg).2
 obtain ⟨_,v1,ss1,e1,ow1,_⟩:=h.2 (w.putObj g (.deferred none)) (fun k hk=>World.putObj_heap_other (fun e=>hn (e ▸ hk))) (by simp [World.putObj])
 rw [e] at e1
 cases e1
 obtain ⟨c,fz,hk⟩:=own_kind ow1 g hg
 rw [World.putObj_heap_same hgl] at hk
 cases hk
theorem HoldsP.arr {Ps:List SP}{G:Nat→Prop}{w:World}{s:Sp} (h:HoldsP (ArrOf Ps) G w s) (hp:∀ P∈Ps,Plainish P):∃ (v:Value) (xs:List IV),s=((86,v),none)∧w.ownsRow 0 32 1 v xs.length (xs.map iv)∧xs.length=Ps.length∧(∀ g,v.ownBlock=some g→G g)∧∀ (j:Nat) (P:SP),Ps[j]? = some P→∃ x,xs[j]? = some x∧HoldsP P G w (x,none):=by
 obtain ⟨e2,v,ss,e1,ow,hA⟩:=h.here
 have hown:=h.own e1
 obtain ⟨s1,s2⟩:=s
 simp only at e1 e2
 subst e1
 subst e2
 refine ⟨v,ss.map (·.1),rfl,by rw [List.length_map,List.map_map];exact ow,by rw [List.length_map];exact hA.len.symm,hown,fun j P hj=>?_⟩
 obtain ⟨t,ht,hP⟩:=hA.at hj
 refine ⟨t.1,by simp [ht],h.1,fun w' hs hl=>?_⟩
 obtain ⟨_,v',ss',e',ow',hA'⟩:=h.2 w' hs hl
 cases e'
 obtain ⟨t',ht',hP'⟩:=hA'.at hj
 have hlen:ss'.length=ss.length:=hA'.len.symm.trans hA.len
 rw [hlen] at ow'
 have ow2:w'.ownsRow 0 32 1 v ss.length (ss.map fun t=>iv t.1):=owns_same ow (fun g hg=>hs g (hown g hg))
 have hrow:(ss'.map fun t=>iv t.1)=(ss.map fun t=>iv t.1):=by
  rcases ow'.2 with ⟨e,h0⟩ | ⟨g,cap,cur,e,_⟩
  ·have h1:ss=[]:=List.eq_nil_of_length_eq_zero h0
   have h2:ss'=[]:=List.eq_nil_of_length_eq_zero (by omega)
   rw [h1,h2]
  ·subst e
   exact row_one ow' ow2
 have:iv t'.1=iv t.1:=by
  have h1:(ss'.map fun t=>iv t.1)[j]? = some (iv t'.1):=by simp [ht']
  have h2:(ss.map fun t=>iv t.1)[j]? = some (iv t.1):=by simp [ht]
  rw [hrow,h2] at h1
  exact (Option.some.inj h1).symm
 rw [← iv_inj this]
 exact hp P (List.mem_of_getElem? hj) _ _ t'.2 hP'
theorem mustParts_g {C:Nat→Prop}{w:World}{r:Value}{q:Option Addr}{Qs:List SP} (h:∀ w1,Below w.heap.size w w1→Calls Tryz.prog 92 #[spv ((86,r),q)] w1 (MadeC Qs C w1)):Calls Tryz.prog 52 #[spv ((86,r),q)] w (MadeC Qs C w):=by
 have m3:=hitVArray;have m4:=missVObject
 simp only [spv,iv] at h ⊢
 go_enter Tryz.func52,Tryz.ntmps52
 go_wp2_with (go_at_call 92;refine (h _ (below_alloc w _)).mono ?_;rintro e w1 ⟨k1,K,cap,rfl,hM⟩)
 go_ret
 exact MadeC.under ⟨k1,K,cap,rfl,hM⟩ (below_alloc w _)
theorem then_parts {w:World}{Ps:List SP} (hp:∀ P∈Ps,Plainish P) (hl:Ps.length≤10000):ThenG (fun _=>False) w (.func (.func 52) #[] #[]) (ArrOf Ps) Ps:=by
 refine ⟨_,_,rfl,enters_mustParts,fun _ h=>h.elim,?_⟩
 intro w' s G _ _ hP
 obtain ⟨v,xs,rfl,ow,hlen,hown,hx⟩:=hP.arr hp
 have hPl:=hP.1
 refine mustParts_g (fun w1 k=>?_)
 have hs1:SameOn G w' w1:=fun j hj=>k.block j (hPl j hj)
 refine (parts_arrg (V:=G) (G:=fun _=>False) (C:=fun k=>False∨G k) (o:=none) (xs:=xs) (owns_same ow (fun g hg=>hs1 g (hown g hg))) (by omega) (Nat.zero_le _) hown (fun j hj=>Nat.lt_of_lt_of_le (hPl j hj) k.size) ⟨fun _ h=>h.elim,fun _ _ _=>rfl⟩ ⟨by rw [enumA_len,hlen],fun j Q hj=>?_⟩ (fun _ h=>.inr h) (fun _ h=>h.elim))
 obtain ⟨x,hxj,hQ⟩:=hx j Q hj
 have hjl:j < (enumA 0 xs).length:=by rw [enumA_len];exact (List.getElem?_eq_some_iff.1 hxj).1
 obtain ⟨e1,e2⟩:=enumA_at 0 xs j (s:=(enumA 0 xs)[j].1) (y:=(enumA 0 xs)[j].2) (List.getElem?_eq_getElem hjl)
 refine ⟨(enumA 0 xs)[j],List.getElem?_eq_getElem hjl,fun w2 q2 hs2 hl2 hq2=>?_⟩
 rw [hxj] at e2
 have e3:(enumA 0 xs)[j].2=x:=(Option.some.inj e2).symm
 have hq3:q2=none:=hq2
 rw [e3,hq3]
 exact hQ.2 w2 (hs1.trans hs2) (Nat.le_trans k.size hl2)
theorem opensG_each {C:Nat→Prop}{w0:World}{b T1 b1:Nat}{kn:Option Addr}{d:Int}{s:Sp}{Ps:List SP} (hb:C b) (c0:w0.cell? ⟨b,0,none⟩=some (.iface T1 (.pointer (some ⟨b1,0,none⟩))))
  (hO:OpensG C w0 (.iface T1 (.pointer (some ⟨b1,0,none⟩))) kn d s [ArrOf Ps]) (hp:∀ P∈Ps,Plainish P) (hl1:Ps.length≤10000) :
  OpensG C w0 (.iface 139 (.pointer (some ⟨b,0,none⟩))) kn d s Ps:=by
 obtain ⟨hC,hO⟩:=hO
 refine ⟨hC,fun w hs hl=>?_⟩
 have n0:=hs.cell hb c0
 have n3:b < w.heap.size:=by have:=hC b hb;omega
 have m0:=missIdentity;have m1:=missDescent;have m2:=missField;have m3:=missIndex;have m4:=hitEach
 obtain ⟨⟨T,u⟩,q⟩:=s
 have HO:∀ w1,Below w.heap.size w w1→Calls Tryz.prog 22 #[.agg #[.pointer kn,.int .i64 d],.iface T1 (.pointer (some ⟨b1,0,none⟩)),.agg #[.iface T u,.pointer q]] w1 (MadeC [ArrOf Ps] C w1):=fun w1 k=>hO _ (hs.trans (fun j hj=>k.block j (Nat.lt_of_lt_of_le (hC j hj) hl))) (Nat.le_trans hl k.size)
 simp only [spv,iv]
 clear hO
 go_enter Tryz.func22,Tryz.ntmps22
 go_wp2_with fail
 obtain ⟨wA,hA,kW,wp,wx,wl⟩:=two_boxes w kn d ((T,u),q)
 simp only [iv] at hA
 obtain ⟨x0,x1,_,_,x4⟩:=wx.facts
 have a0:=wp.c0
 have a1:=wp.c1
 have a2:=(kW.cell (p:=⟨b,0,none⟩) n3).trans n0
 have s0:=six ((Below.refl _ wA).drew) a0 a1 a2 x0 x1 x0
 have HT:∀ w1,∀ y∈[(ArrOf Ps,Ps)],ThenG (fun _=>False) w1 (.func (.func 52) #[] #[]) y.1 y.2:=fun w1 y hy=>by
  rw [List.mem_singleton] at hy
  subst hy
  exact then_parts hp hl1
 rw [← hA]
 clear hA
 go_region_held3 (fun w'=>w'.cell? ⟨w.heap.size,0,none⟩=some (.pointer kn)∧w'.cell? ⟨w.heap.size,1,none⟩=some (.int .i64 d)∧w'.cell? ⟨b,0,none⟩=some (.iface T1 (.pointer (some ⟨b1,0,none⟩)))∧w'.cell? ⟨w.heap.size+1,0,none⟩=some (.iface T u)∧w'.cell? ⟨w.heap.size+1,1,none⟩=some (.pointer q)∧w'.cell? ⟨w.heap.size+1,0,none⟩=some (.iface T u)) (first | exact s0 | exact e4 | exact f4 | go_keep)
   (first
    | (go_at_call 22;refine (HO _ kW.drew).mono ?_;rintro e w1 ⟨k1,K,cap,rfl,F,D,hS,hF,hD⟩;have kX:Below wA.heap.size wA w1:=(Below.refl _ _).drew.trans (k1.mono (by simp));have e4:=six kX a0 a1 a2 x0 x1 x0;have hX:=kX.size;have hF':∀ k,F k→C k∨wA.heap.size≤k:=hF;have hD':∀ k,D k→wA.heap.size≤k:=hD)
    | (go_at_call 48;refine (each_okg (C:=fun _=>False) (Lo:=[(ArrOf Ps,Ps)]) hS ⟨_,_,rfl⟩ (fun _ h=>h.elim) (HT w1) (fun _ h=>h.elim)).mono ?_;rintro e w2 ⟨k2,K2,cap2,F2,D2,rfl,hS2,hF2,hD2⟩;have f4:=six (kX.trans (k2.mono kX.size)) a0 a1 a2 x0 x1 x0))
 all_goals
  go_wp2_with fail
  go_ret
  have e1:[(ArrOf Ps,Ps)].flatMap (·.2)=Ps:=by simp
  rw [e1] at hS2
  exact .mk' (kW.trans ((kX.trans (k2.mono kX.size)).mono kW.size)) hS2 (by grind) (by grind)
end Go.Proofs.Tryz
namespace Go.Proofs.Tryz
set_option maxHeartbeats 16000000
open Go.RowKit
set_option maxRecDepth 10000
def IdxG (C:Nat→Prop) (w0:World) (P Q R:SP):Prop:=∀ w t s G G',SameOn C w0 w→w0.heap.size≤w.heap.size→HoldsP P G w t→HoldsP Q G' w s→
 Calls Tryz.prog 47 #[spv t,iv s.1] w fun e w'=>Below w.heap.size w w'∧∃ y G'',e = .returned (spv y)∧HoldsP R G'' w' y∧∀ k,G'' k→C k∨G k∨G' k∨w.heap.size≤k
theorem to_at {C G:Nat→Prop}{xb:Nat}{w0 w:World}{t:Sp}{P Q R:SP} (h:IdxG C w0 P Q R) (hP:HoldsP P G w t) (hx:SpotB w xb t) (hC:∀ k,C k→k < w0.heap.size) (hs:SameOn C w0 w) (hl:w0.heap.size≤w.heap.size) :
  ToG (fun k=>C k∨G k∨k=xb) w (.func (.func 51) #[] #[.pointer (some ⟨xb,0,none⟩)]) Q R:=by
 have hxl:=hx.lt
 have hPl:=hP.1
 refine ⟨_,_,rfl,enters_open21,by grind,?_⟩
 intro w' s G' hs' hl' hQ
 have hs0:SameOn C w0 w':=hs.trans (hs'.mono (fun _ h=>.inl h))
 have hx':=hx.same (hs' xb (by simp))
 have hP':=hP.move (hs'.mono (fun _ h=>.inr (.inl h))) hl'
 have hQl:=hQ.1
 have H:∀ w1,Below w'.heap.size w' w1→Calls Tryz.prog 47 #[spv t,iv s.1] w1 fun e w2=>Below w1.heap.size w1 w2∧∃ y G'',e = .returned (spv y)∧HoldsP R G'' w2 y∧∀ k,G'' k→C k∨G k∨G' k∨w1.heap.size≤k:=fun w1 k=>h w1 t s G G' (hs0.trans (fun j hj=>k.block j (by have:=hC j hj;omega))) (by have:=k.size;omega) (hP'.move (fun j hj=>k.block j (hP'.1 j hj)) k.size) (hQ.move (fun j hj=>k.block j (hQ.1 j hj)) k.size)
 have hPl':=hP'.1
 clear hP hP' hQ h
 obtain ⟨⟨T,u⟩,q⟩:=t
 obtain ⟨⟨T1,u1⟩,q1⟩:=s
 obtain ⟨x0,x1,_,_,x4⟩:=hx'.facts
 simp only [iv,spv] at H ⊢
 go_enter Tryz.func51,Tryz.ntmps51
 go_wp2_with (go_at_call 47;refine (H _ (below_alloc2 w' _ _)).mono ?_;rintro e w1 ⟨k1,⟨⟨Ty,uy⟩,qy⟩,G'',rfl,hR,hG''⟩;have qb:SpotBox w1 (w'.heap.size+1) .nilIface:=SpotBox.same (heap_new2' w' _ _) (k1.block _ (by simp));obtain ⟨q0,q1',q2,q3,q4⟩:=qb.facts)
 simp only [World.size_alloc] at hG''
 have hl1:w'.heap.size+1+1≤w1.heap.size:=by have:=k1.size;simpa using this
 refine bodyPost_ret (v:=.agg #[.iface Ty uy,.pointer qy]) (by simp [results,Tryz.results51,go_sem,q4,q0,q1']) rfl ⟨?_,((Ty,uy),qy),G'',rfl,hR.after (X:=(· = w'.heap.size+1)) (((Fr.refl (· = w'.heap.size+1) w1).setCell _ (.inl rfl)).setCell _ (.inl rfl)) ?_,by grind⟩
 ·exact ((((below_alloc2 w' _ _).trans (k1.mono (by simp;omega))).setCell (by simp) _).setCell (by simp) _)
 ·have hCl:∀ k,C k→k < w'.heap.size:=fun k hk=>by have:=hC k hk;omega
  grind
theorem then_indexg {C:Nat→Prop}{pb fb sb b T1 b1:Nat}{w0 w:World}{kn:Option Addr}{d:Int}{x:IV}{P Q R:SP} (hp:PlaceBox w pb kn d) (hf:Box w fb (.pointer (some ⟨b,0,none⟩)) 134) (hx:SpotB w sb (x,none)) (hb:C b) (c1:w0.cell? ⟨b,1,none⟩=some (.iface T1 (.pointer (some ⟨b1,0,none⟩)))) (hO:OpensG C w0 (.iface T1 (.pointer (some ⟨b1,0,none⟩))) kn d (x,none) [Q]) (h:IdxG C w0 P Q R) (hs:SameOn C w0 w) (hl:w0.heap.size≤w.heap.size) :
  ThenG (fun k=>C k∨k=pb∨k=fb∨k=sb) w (.func (.func 49) #[] #[.pointer (some ⟨pb,0,none⟩),.pointer (some ⟨fb,0,none⟩),.pointer (some ⟨sb,0,none⟩)]) P [R]:=by
 obtain ⟨hC,hO⟩:=hO
 have hpl:=hp.lt
 have hfl:=hf.lt
 have hxl:=hx.lt
 refine ⟨_,_,rfl,enters_open2,by grind,?_⟩
 intro w' t G hs' hl' hP
 have hs0:SameOn C w0 w':=hs.trans (hs'.mono (fun _ h=>.inl h))
 have hp':=hp.same (hs' pb (by simp))
 have hf':=hf.same (hs' fb (by simp))
 have hx':=hx.same (hs' sb (by simp))
 have p0:=hp'.c0
 have p1:=hp'.c1
 have p2:=hp'.lt
 have f0:=hf'.cell
 have f2:=hf'.lt
 have n2:=hs0.cell hb c1
 have n3:b < w'.heap.size:=by have:=hC b hb;omega
 have hGl:=hP.1
 obtain ⟨⟨Tx,ux⟩,qx⟩:=t
 obtain ⟨wA,hA⟩:∃ wA,wA=w'.alloc (.cells #[.iface Tx ux,.pointer qx] 75):=⟨_,rfl⟩
 have kW:Below w'.heap.size w' wA:=hA ▸ below_alloc w' _
 have wx:SpotB wA w'.heap.size ((Tx,ux),qx):=hA ▸ SpotB.new w' ((Tx,ux),qx)
 have wl:wA.heap.size=w'.heap.size+1:=by rw [hA];simp
 have HO:∀ w1,Below w'.heap.size w' w1→Calls Tryz.prog 22 #[.agg #[.pointer kn,.int .i64 d],.iface T1 (.pointer (some ⟨b1,0,none⟩)),spv (x,none)] w1 (MadeC [Q] C w1):=fun w1 k=>hO _ (hs0.trans (fun j hj=>k.block j (by have:=hC j hj;omega))) (by have:=k.size;omega)
 have HV:∀ w1,Below wA.heap.size wA w1→ToG (fun k=>C k∨G k∨k=w'.heap.size) w1 (.func (.func 51) #[] #[.pointer (some ⟨w'.heap.size,0,none⟩)]) Q R:=fun w1 k=>by
  have k2:=kW.trans (k.mono kW.size)
  exact to_at h (hP.move (fun j hj=>k2.block j (hGl j hj)) k2.size) (wx.same (k.block _ wx.lt)) hC (hs0.trans (fun j hj=>k2.block j (by have:=hC j hj;omega))) (by have:=k2.size;omega)
 obtain ⟨T,u⟩:=x
 obtain ⟨x0,x1,_,_,x4⟩:=(hx'.same (kW.block _ hx'.lt)).facts
 simp only [spv,iv] at HO ⊢
 have a0:=(kW.cell (p:=⟨pb,0,none⟩) p2).trans p0
 have a1:=(kW.cell (p:=⟨pb,1,none⟩) p2).trans p1
 have a2:=(kW.cell (p:=⟨fb,0,none⟩) f2).trans f0
 have a3:=(kW.cell (p:=⟨b,1,none⟩) n3).trans n2
 have s0:=six ((Below.refl _ wA).drew) a0 a1 a2 a3 x0 x1
 clear hO hP h
 go_enter Tryz.func49,Tryz.ntmps49
 go_wp2_with fail
 rw [← hA]
 clear hA
 go_region_held3 (fun w1=>w1.cell? ⟨pb,0,none⟩=some (.pointer kn)∧w1.cell? ⟨pb,1,none⟩=some (.int .i64 d)∧w1.cell? ⟨fb,0,none⟩=some (.pointer (some ⟨b,0,none⟩))∧w1.cell? ⟨b,1,none⟩=some (.iface T1 (.pointer (some ⟨b1,0,none⟩)))∧w1.cell? ⟨sb,0,none⟩=some (.iface T u)∧w1.cell? ⟨sb,1,none⟩=some (.pointer none)) (first | exact s0 | exact d4 | exact e4 | exact f4 | go_keep)
   (first
    | (go_at_call 50;refine plain_ok.mono ?_;rintro e w3 ⟨rfl,k3⟩;have kP:Below wA.heap.size wA w3:=(Below.refl _ _).drew.trans (k3.mono (by simp));have d4:=six kP a0 a1 a2 a3 x0 x1;have kQ:=kW.trans (kP.mono kW.size);have hPs:=kP.size)
    | (go_at_call 22;refine (HO _ kQ).mono ?_;rintro e w1 ⟨k1,K,cap,rfl,F,D,hS,hF,hD⟩;have kX:Below wA.heap.size wA w1:=kP.trans (k1.mono kP.size);have e4:=six kX a0 a1 a2 a3 x0 x1;have hX:=kX.size)
    | (go_at_call 45;refine (mapped_okg (C:=fun k=>C k∨G k∨k=w'.heap.size) (L:=[(Q,R)]) hS ⟨_,_,rfl⟩ (by grind) (fun y hy=>by rw [List.mem_singleton] at hy;subst hy;exact HV w1 kX) (by grind)).mono ?_;rintro e w2 ⟨k2,K2,cap2,F2,rfl,hS2,hF2⟩;have f4:=six (kX.trans (k2.mono kX.size)) a0 a1 a2 a3 x0 x1))
 all_goals
  go_wp2_with fail
  go_ret
  exact .mk' (kW.trans ((kX.trans (k2.mono kX.size)).mono kW.size)) hS2 (by grind) (by grind)
theorem opensG_index {C:Nat→Prop}{w0:World}{b T1 b1 T2 b2:Nat}{kn:Option Addr}{d:Int}{x:IV}{P Q R:SP} (hb:C b) (c0:w0.cell? ⟨b,0,none⟩=some (.iface T1 (.pointer (some ⟨b1,0,none⟩)))) (c1:w0.cell? ⟨b,1,none⟩=some (.iface T2 (.pointer (some ⟨b2,0,none⟩))))
  (hO1:OpensG C w0 (.iface T1 (.pointer (some ⟨b1,0,none⟩))) kn d (x,none) [P]) (hO2:OpensG C w0 (.iface T2 (.pointer (some ⟨b2,0,none⟩))) kn d (x,none) [Q]) (h:IdxG C w0 P Q R) :
  OpensG C w0 (.iface 134 (.pointer (some ⟨b,0,none⟩))) kn d (x,none) [R]:=by
 have hC:=hO1.1
 refine ⟨hC,fun w hs hl=>?_⟩
 have n0:=hs.cell hb c0
 have n3:b < w.heap.size:=by have:=hC b hb;omega
 have m0:=missIdentity;have m1:=missDescent;have m2:=missField;have m3:=hitIndex
 obtain ⟨T,u⟩:=x
 simp only [spv,iv]
 go_enter Tryz.func22,Tryz.ntmps22
 go_wp2_with fail
 obtain ⟨wA,hA,kW,wp,wf,wx,wl⟩:=three_boxes2 w kn d (.pointer (some ⟨b,0,none⟩)) 134 ((T,u),none)
 have HO:∀ w1,Below w.heap.size w w1→Calls Tryz.prog 22 #[.agg #[.pointer kn,.int .i64 d],.iface T1 (.pointer (some ⟨b1,0,none⟩)),.agg #[.iface T u,.pointer none]] w1 (MadeC [P] C w1):=fun w1 k=>hO1.2 _ (hs.trans (fun j hj=>k.block j (Nat.lt_of_lt_of_le (hC j hj) hl))) (Nat.le_trans hl k.size)
 have HT:∀ w1,Below wA.heap.size wA w1→∀ y∈[(P,[R])],ThenG (fun k=>C k∨k=w.heap.size∨k=w.heap.size+2∨k=w.heap.size+1) w1 (.func (.func 49) #[] #[.pointer (some ⟨w.heap.size,0,none⟩),.pointer (some ⟨w.heap.size+2,0,none⟩),.pointer (some ⟨w.heap.size+1,0,none⟩)]) y.1 y.2:=fun w1 k y hy=>by
  rw [List.mem_singleton] at hy
  subst hy
  exact then_indexg (wp.same (k.block _ wp.lt)) (wf.same (k.block _ wf.lt)) (wx.same (k.block _ wx.lt)) hb c1 hO2 h (hs.trans (fun j hj=>(k.block j (by have:=hC j hj;omega)).trans (kW.block j (by have:=hC j hj;omega)))) (by have:=k.size;omega)
 clear hO1 hO2 h
 simp only [iv] at hA
 obtain ⟨x0,x1,_,_,x4⟩:=wx.facts
 have a0:=wp.c0
 have a1:=wp.c1
 have a2:=wf.cell
 have a3:=(kW.cell (p:=⟨b,0,none⟩) n3).trans n0
 have s0:=six ((Below.refl _ wA).drew) a0 a1 a2 a3 x0 x1
 rw [← hA]
 clear hA
 go_region_held3 (fun w'=>w'.cell? ⟨w.heap.size,0,none⟩=some (.pointer kn)∧w'.cell? ⟨w.heap.size,1,none⟩=some (.int .i64 d)∧w'.cell? ⟨w.heap.size+2,0,none⟩=some (.pointer (some ⟨b,0,none⟩))∧w'.cell? ⟨b,0,none⟩=some (.iface T1 (.pointer (some ⟨b1,0,none⟩)))∧w'.cell? ⟨w.heap.size+1,0,none⟩=some (.iface T u)∧w'.cell? ⟨w.heap.size+1,1,none⟩=some (.pointer none)) (first | exact s0 | exact d4 | exact e4 | exact f4 | go_keep)
   (first
    | (go_at_call 22;refine (HO _ kW.drew).mono ?_;rintro e w1 ⟨k1,K,cap,rfl,F,D,hS,hF,hD⟩;have kX:Below wA.heap.size wA w1:=(Below.refl _ _).drew.trans (k1.mono (by simp));have e4:=six kX a0 a1 a2 a3 x0 x1;have hX:=kX.size;have hF':∀ k,F k→C k∨wA.heap.size≤k:=hF;have hD':∀ k,D k→wA.heap.size≤k:=hD)
    | (go_at_call 48;refine (each_okg (Lo:=[(P,[R])]) hS ⟨_,_,rfl⟩ (by grind) (HT w1 kX) (by grind)).mono ?_;rintro e w2 ⟨k2,K2,cap2,F2,D2,rfl,hS2,hF2,hD2⟩;have f4:=six (kX.trans (k2.mono kX.size)) a0 a1 a2 a3 x0 x1))
 all_goals
  go_wp2_with fail
  go_ret
  exact .mk' (kW.trans ((kX.trans (k2.mono kX.size)).mono kW.size)) hS2 (by grind) (by grind)
end Go.Proofs.Tryz
namespace Go.Proofs.Tryz
set_option maxHeartbeats 16000000
open Go.RowKit
set_option maxRecDepth 10000
def boolV (b:Bool):IV:=(96,.bool b)
def BoolP (b:Bool):SP:=Just (boolV b,none)
theorem just_holds (w:World) (s:Sp):HoldsP (Just s) (fun _=>False) w s:=⟨fun _ h=>h.elim,fun _ _ _=>rfl⟩
theorem oper_same {C:Nat→Prop}{w0:World}{P Q:SP} (hS:ComparesStr) (hE:∀ w t s G G',SameOn C w0 w→w0.heap.size≤w.heap.size→HoldsP P G w t→HoldsP Q G' w s→∃ d n,Eqv w d n t.1 s.1∧n≤1000000):OperG C w0 ⟨#[61,61]⟩ P Q (BoolP true):=by
 intro w t s G G' hs hl hP hQ
 obtain ⟨d,n,he,hn⟩:=hE w t s G G' hs hl hP hQ
 have hc:=Compare_same hS he hn
 clear hP hQ he
 obtain ⟨⟨T,u⟩,q⟩:=t
 obtain ⟨⟨T1,u1⟩,q1⟩:=s
 simp only [iv] at hc ⊢
 go_enter Tryz.func183,Tryz.ntmps183
 go_wp2_with (first
  | (go_at_call 223;refine hc.mono ?_;rintro e w1 ⟨rfl,k1⟩)
  | (go_at_call 231;refine (compares_eq _ _).mono ?_;rintro e w2 ⟨rfl,k2⟩))
 go_ret
 exact ⟨k1.trans (k2.mono k1.size),boolV true,fun _=>False,rfl,just_holds _ _,fun _ h=>h.elim⟩
theorem compares_ge (c:Int) (w:World):Calls Tryz.prog 231 #[.int .i64 c,.string ⟨#[62,61]⟩] w fun e w'=>e = .returned (.bool (decide (0≤c)))∧Below w.heap.size w w':=by
 go_enter Tryz.func231,Tryz.ntmps231
 go_wp2
 go_ret
 exact ⟨by simp;try rfl,Below.refl _ _⟩
theorem sgn_ge {a:Nat}:0≤sgn (a:Int) 0:=by
 unfold sgn
 split
 ·omega
 ·split <;> omega
theorem oper_ge {C:Nat→Prop}{w0:World}{a:Nat}:OperG C w0 ⟨#[62,61]⟩ (Just (numS a,none)) (Just (numS 0,none)) (BoolP true):=by
 intro w t s G G' hs hl hP hQ
 have ht:t=(numS a,none):=hP.here
 have hs':s=(numS 0,none):=hQ.here
 subst ht
 subst hs'
 clear hP hQ
 have hg:decide (0≤sgn (a:Int) 0)=true:=by simpa using sgn_ge
 have hc:∀ w,Calls Tryz.prog 223 #[.iface 98 (.int .i64 a),.iface 98 (.int .i64 (0:Nat))] w fun e w'=>e = .returned (.int .i64 (sgn a 0))∧Below w.heap.size w w':=fun w=>Compare_ok (a:Int) 0 w
 simp only [iv,numS] at hc ⊢
 go_enter Tryz.func183,Tryz.ntmps183
 go_wp2_with (first
  | (go_at_call 223;refine (hc _).mono ?_;rintro e w1 ⟨rfl,k1⟩)
  | (go_at_call 231;refine (compares_ge _ _).mono ?_;rintro e w2 ⟨rfl,k2⟩))
 go_ret
 exact ⟨k1.trans (k2.mono k1.size),boolV true,fun _=>False,rfl,just_holds _ _,fun _ h=>h.elim⟩
theorem isTrue_bool (b:Bool) (w:World):Calls Tryz.prog 103 #[.iface 96 (.bool b)] w fun e w'=>e = .returned (.bool b)∧Below w.heap.size w w':=by
 have m0:=missVNull;have m1:=hitVBool
 go_enter Tryz.func103,Tryz.ntmps103
 go_wp2_with fail
 go_ret
 exact ⟨rfl,Below.refl _ _⟩
theorem alone_not {C:Nat→Prop}{w0:World} (b:Bool):AloneG C w0 ⟨#[110,111,116]⟩ (boolV b) (BoolP (!b)):=by
 intro w hs hl
 simp only [iv,boolV]
 go_enter Tryz.func165,Tryz.ntmps165
 go_wp2_with (go_at_call 103;refine (isTrue_bool b _).mono ?_;rintro e w1 ⟨rfl,k1⟩)
 go_ret
 exact ⟨k1,boolV (!b),fun _=>False,by cases b <;> rfl,just_holds _ _,fun _ h=>h.elim⟩
theorem length_arr (p:Option Addr) (n c:Nat) (w:World):Calls Tryz.prog 212 #[.iface 86 (.slice p n c)] w fun e w'=>e = .returned (.iface 98 (.int .i64 n))∧Below w.heap.size w w':=by
 have m0:=missVNull;have m1:=missVNumber;have m2:=missVString;have m3:=hitVArray
 go_enter Tryz.func212,Tryz.ntmps212
 go_wp2_with fail
 go_ret
 exact ⟨rfl,Below.refl _ _⟩
theorem alone_length {C:Nat→Prop}{w0:World}{p:Option Addr}{n c:Nat}:AloneG C w0 ⟨#[108,101,110,103,116,104]⟩ (86,.slice p n c) (Just (numS n,none)):=by
 intro w hs hl
 simp only [iv]
 go_enter Tryz.func165,Tryz.ntmps165
 go_wp2_with (go_at_call 212;refine (length_arr p n c _).mono ?_;rintro e w1 ⟨rfl,k1⟩)
 go_ret
 exact ⟨k1,numS n,fun _=>False,rfl,just_holds _ _,fun _ h=>h.elim⟩
end Go.Proofs.Tryz
namespace Go.Proofs.Tryz
set_option maxHeartbeats 16000000
open Go.RowKit
set_option maxRecDepth 10000
theorem aclone_ok {w:World}{a n c:Nat}{xs:List IV} (hrow:w.ownsRow 0 32 1 (.slice (some ⟨a,0,none⟩) n c) n (xs.map iv)) (hn0:0 < n) (hn:n≤10000) :
  Calls Tryz.prog 259 #[.slice (some ⟨a,0,none⟩) n c] w fun e w'=>∃ g cap,e = .returned (.slice (some ⟨g,0,none⟩) n cap)∧w'.ownsRow w.heap.size 32 1 (.slice (some ⟨g,0,none⟩) n cap) n (xs.map iv)∧Below w.heap.size w w':=by
 obtain ⟨i0,hi0,hz0,hz1,hz2⟩:=info_parts (show (Tryz.prog.info? 32).map (fun i=>(i.zero,i.size,i.bytes))=some (some .nilIface,1,16) by kernel_rfl)
 have hal:=(hrow.lt a rfl).2
 have hl:(xs.map iv).length=n:=by have:=hrow.1;simpa using this
 have hnil:∀ w,Sem.run Tryz.prog (binOp BinOp.eql 86 (.slice (some ⟨a,0,none⟩) n c) (.slice none 0 0)) w = .ok (.bool false) w:=fun w=>by kernel_rfl
 have hcell:∀ j v,(xs.map iv)[j]? = some v→w.cell? ⟨a,j,none⟩=some v:=fun j v hj=>by
  have hjl:=(List.getElem?_eq_some_iff.1 hj).1
  rw [hrow.cellAt j (by omega)]
  exact hj
 have hone:∀ v∈xs.map iv,v.oneCell'=true:=fun v hv=>by
  obtain ⟨x,_,rfl⟩:=List.mem_map.1 hv
  rfl
 have hcc:0≤c:=Nat.zero_le _
 have hcm:n≤c∧c≤9223372036854775807:=by
  rcases hrow.2 with ⟨e,_⟩ | ⟨g,cap,cur,e,_,_,h1,h2,_⟩
  ·cases e
  ·cases e;exact ⟨h1,by simpa [maxLen] using h2⟩
 obtain ⟨hcm1,hcm2⟩:=hcm
 go_enter Tryz.func259,Tryz.ntmps259
 have hown0:(w.alloc (.cells #[] 32)).ownsRow w.heap.size 32 1 (.slice (some ⟨w.heap.size,0,none⟩) 0 0) 0 []:=⟨rfl,.inr ⟨w.heap.size,0,#[],rfl,Nat.le_refl _,heap_new w _,by omega,by simp [maxLen],by simp,by simp⟩⟩
 go_wp2_with (refine wpList_append_lies _ (by rfl) _ _ _ (by rfl) w.heap.size 32 i0 _ 1 16 Tryz.underlying86 hi0 hz0 hz1 hz2 rfl (by omega) _ 0 [] (by rfl) hown0 ⟨a,0,none⟩ n c (xs.map iv) (by rfl) (by omega) (fun j v hj=>by rw [add_at];exact ((below_alloc w _).cell (p:=⟨a,j,none⟩) hal).trans (hcell j v hj)) hone hn0 (by unfold maxLen;omega) (by omega) (by simp) (w.heap.size+1) (by simp) ?_;intro g1 cap1 w1 ow1 gr1 hat1 hlt1)
 go_ret
 have k1:Below w.heap.size w w1:=((Below.refl _ w).alloc (Nat.le_refl _) _).grown gr1 (by simp) (fun q hq=>(hown0.lt q hq).1)
 refine ⟨g1,cap1,?_,?_,k1⟩
 ·simp
 ·simpa using ow1
def SortsTrue:Prop:=∀ (blk n cap:Nat) (w:World),n≤1000000→(∀ j,j < n→w.cell? ⟨blk,j,none⟩=some (iv (boolV true))∧w.frozen? ⟨blk,j,none⟩=false)→blk < w.heap.size→
 Calls Tryz.prog 260 #[.slice (some ⟨blk,0,none⟩) n cap,.func (.func 223) #[] #[]] w fun e w'=>e = .returned (.tuple #[])∧Below w.heap.size w w'
theorem Sorted_true (hT:SortsTrue) {w:World}{a n c:Nat} (hrow:w.ownsRow 0 32 1 (.slice (some ⟨a,0,none⟩) n c) n ((List.replicate n (boolV true)).map iv)) (hn0:0 < n) (hn:n≤10000) :
  Calls Tryz.prog 217 #[.slice (some ⟨a,0,none⟩) n c] w fun e w'=>∃ g cap,e = .returned (.slice (some ⟨g,0,none⟩) n cap)∧w'.ownsRow w.heap.size 32 1 (.slice (some ⟨g,0,none⟩) n cap) n ((List.replicate n (boolV true)).map iv)∧Below w.heap.size w w':=by
 have hc:=aclone_ok hrow hn0 hn
 clear hrow
 go_enter Tryz.func217,Tryz.ntmps217
 go_wp2_with (first
  | (go_at_call 259;refine hc.mono ?_;rintro e w1 ⟨g,cap,rfl,ow,k1⟩)
  | (go_at_call 260;refine (hT g n cap w1 (by omega) (fun j hj=>⟨by rw [ow.cellAt j (by omega)];simp [hj],by
    rcases ow.2 with ⟨e,_⟩ | ⟨g',cap',cur,e,_,hb,_⟩
    ·cases e
    ·cases e;exact cells_free hb⟩) (ow.lt g rfl).2).mono ?_;rintro e w2 ⟨rfl,k2⟩))
 go_ret
 exact ⟨g,cap,rfl,owns_same ow (fun j hj=>k2.block j (ow.lt j hj).2),k1.trans (k2.mono k1.size)⟩
def TruesP (n:Nat):SP:=fun w s=>s.2=none∧∃ a c,s.1=(86,.slice (some ⟨a,0,none⟩) n c)∧w.ownsRow 0 32 1 (.slice (some ⟨a,0,none⟩) n c) n ((List.replicate n (boolV true)).map iv)
theorem alone_sort {C:Nat→Prop}{w0:World}{n:Nat}{x:IV} (hT:SortsTrue) (hx:HoldsP (TruesP n) C w0 (x,none)) (hn0:0 < n) (hn:n≤10000):AloneG C w0 ⟨#[115,111,114,116]⟩ x (TruesP n):=by
 intro w hs hl
 obtain ⟨_,a,c,e1,ow⟩:=(hx.move hs hl).here
 simp only at e1
 subst e1
 have hc:=Sorted_true hT ow hn0 hn
 clear ow hx
 simp only [iv]
 have HM:∀ w1,Calls Tryz.prog 154 #[.iface 86 (.slice (some ⟨a,0,none⟩) n c)] w1 fun e w'=>e = .returned (.slice (some ⟨a,0,none⟩) n c)∧w'=w1:=fun w1=>must_arr _ w1
 go_enter Tryz.func165,Tryz.ntmps165
 go_wp2_with (first
  | (go_at_call 154;refine (HM _).mono ?_;rintro e w1 ⟨rfl,hw1⟩;subst hw1)
  | (go_at_call 217;refine hc.mono ?_;rintro e w2 ⟨g,cap,rfl,ow,k2⟩))
 go_ret
 refine ⟨k2,(86,.slice (some ⟨g,0,none⟩) n cap),(· = g),rfl,⟨fun k hk=>by subst hk;exact (ow.lt k rfl).2,fun w' hs' _=>⟨rfl,g,cap,rfl,owns_low0 (owns_same ow (fun j hj=>hs' j (by simpa [Value.ownBlock] using hj.symm)))⟩⟩,fun k hk=>.inr (by subst hk;exact (ow.lt k rfl).1)⟩
end Go.Proofs.Tryz
namespace Go.Proofs.Tryz
set_option maxHeartbeats 16000000
open Go.RowKit Go.Lib
set_option maxRecDepth 10000
theorem Grow_ok {w:World}{n:Nat} (h0:0 < n) (hn:n≤100000):Calls Tryz.prog 299 #[.slice none 0 0,.int .i64 n] w fun e w'=>∃ g cap,e = .returned (.slice (some ⟨g,0,none⟩) 0 cap)∧w'.ownsRow w.heap.size 32 1 (.slice (some ⟨g,0,none⟩) 0 cap) 0 []∧Below w.heap.size w w':=by
 obtain ⟨i0,hi0,hz0,hz1,hz2⟩:=info_parts (show (Tryz.prog.info? 32).map (fun i=>(i.zero,i.size,i.bytes))=some (some .nilIface,1,16) by kernel_rfl)
 have z1:(0:Int) < (n:Int):=by omega
 have z2:¬ (n:Int) < 0:=by omega
 have hrz:∀ ty,(Builtin.append_ #[86,3] ty #[.slice none 0 0,.int .i64 n]).run Tryz.prog w = .ok (.slice (some ⟨w.heap.size,0,none⟩) n (grownCap w n 0 32)) (w.drew.alloc (.cells (Builtin.zeroCells (Value.cells .nilIface) n ++ Builtin.zeroCells (Value.cells .nilIface) (grownCap w n 0 32 - n)) 32)):=fun ty=>by
  have h:=Lib.run_append_grow_zeros w 86 3 ty 32 i0 .nilIface .i64 .i64 Tryz.underlying86 Tryz.underlying3 hi0 hz0 none 0 0 [] (run_firstCells_none w.drew i0.size 0 0 0) n h0 (by rw [hz1];omega) (by omega) (by omega) (by rw [hz2];omega) (growslice_fits (by omega) (by rw [hz2];omega))
  simpa using h
 have hGn:n≤grownCap w n 0 32:=grownCap_ge w _ _ _
 have hGm:=grownCap_le_maxLen w n 0 32 (by unfold maxLen;omega)
 obtain ⟨G,hG⟩:∃ G,G=grownCap w n 0 32:=⟨_,rfl⟩
 rw [← hG] at hrz hGn hGm
 have hG63:G≤9223372036854775807:=by unfold maxLen at hGm;omega
 clear hG
 go_enter Tryz.func299,Tryz.ntmps299
 go_wp2_with (at_builtin;refine Lib.wpList_append_run _ rfl _ _ _ _ rfl _ _ rfl rfl _ _ (hrz _) ?_)
 go_ret
 refine ⟨w.heap.size,G,rfl,⟨rfl,.inr ⟨w.heap.size,G,_,rfl,Nat.le_refl _,heap_new w _,Nat.zero_le _,hGm,?_,?_⟩⟩,(below_alloc w _).drew⟩
 ·simp [Builtin.zeroCells];omega
 ·simp
theorem Concat_ok {w:World}{a b n m c1 c2 sb:Nat}{xs ys:List IV} (hx:w.ownsRow 0 32 1 (.slice (some ⟨a,0,none⟩) n c1) n (xs.map iv)) (hy:w.ownsRow 0 32 1 (.slice (some ⟨b,0,none⟩) m c2) m (ys.map iv)) (hn:n≤10000) (hm:m≤10000) (hn0:0 < n) (hm0:0 < m) (hs:w.heap[sb]? = some (.cells #[.slice (some ⟨a,0,none⟩) n c1,.slice (some ⟨b,0,none⟩) m c2] 86 (0,0))) :
  Calls Tryz.prog 267 #[.slice (some ⟨sb,0,none⟩) 2 2] w fun e w'=>∃ g cap,e = .returned (.slice (some ⟨g,0,none⟩) (n+m) cap)∧w'.ownsRow w.heap.size 32 1 (.slice (some ⟨g,0,none⟩) (n+m) cap) (n+m) ((xs ++ ys).map iv)∧Below w.heap.size w w':=by
 obtain ⟨i0,hi0,hz0,hz1,hz2⟩:=info_parts (show (Tryz.prog.info? 32).map (fun i=>(i.zero,i.size,i.bytes))=some (some .nilIface,1,16) by kernel_rfl)
 have s0:w.cell? ⟨sb,0,none⟩=some (.slice (some ⟨a,0,none⟩) n c1):=by simp [World.cell?,hs]
 have s1:w.cell? ⟨sb,1,none⟩=some (.slice (some ⟨b,0,none⟩) m c2):=by simp [World.cell?,hs]
 have sl:=lt_of_block hs
 have z1:¬ (n:Int) < 0:=by omega
 have z2:¬ (n:Int)+(m:Int) < 0:=by omega
 have hg:Calls Tryz.prog 299 #[.slice none 0 0,.int .i64 ((n:Int)+(m:Int))] w fun e w'=>∃ g cap,e = .returned (.slice (some ⟨g,0,none⟩) 0 cap)∧w'.ownsRow w.heap.size 32 1 (.slice (some ⟨g,0,none⟩) 0 cap) 0 []∧Below w.heap.size w w':=Grow_ok (w:=w) (n:=n+m) (by omega) (by omega)
 have hcx:∀ j v,(xs.map iv)[j]? = some v→w.cell? ⟨a,j,none⟩=some v:=fun j v hj=>by
  have hjl:=(List.getElem?_eq_some_iff.1 hj).1
  have:=hx.1
  rw [hx.cellAt j (by omega)]
  exact hj
 have hcy:∀ j v,(ys.map iv)[j]? = some v→w.cell? ⟨b,j,none⟩=some v:=fun j v hj=>by
  have hjl:=(List.getElem?_eq_some_iff.1 hj).1
  have:=hy.1
  rw [hy.cellAt j (by omega)]
  exact hj
 have hone:∀ (l:List IV) (v:Value),v∈l.map iv→v.oneCell'=true:=fun l v hv=>by
  obtain ⟨x,_,rfl⟩:=List.mem_map.1 hv
  rfl
 have hxl:(xs.map iv).length=n * 1:=hx.1
 have hyl:(ys.map iv).length=m * 1:=hy.1
 have hal:=(hx.lt a rfl).2
 have hbl:=(hy.lt b rfl).2
 clear hs hx hy
 go_enter Tryz.func267,Tryz.ntmps267
 go_wp2_with fail
 refine wp_loop_rounds 3 ?_
 rw [rounds_succ]
 go_wp2_with fail
 rw [rounds_succ]
 go_wp2_with fail
 rw [rounds_succ]
 go_wp2_with (go_at_call 299;refine hg.mono ?_;rintro e w1 ⟨g1,cap1,rfl,ow1,k1⟩;have t0:=(k1.cell (p:=⟨sb,0,none⟩) sl).trans s0;have t1:=(k1.cell (p:=⟨sb,1,none⟩) sl).trans s1;have tl:=Nat.lt_of_lt_of_le sl k1.size)
 refine wp_loop_rounds 3 ?_
 rw [rounds_succ]
 go_wp2_with (refine wpList_append_lies _ (by rfl) _ _ _ (by rfl) w.heap.size 32 i0 _ 1 16 Tryz.underlying86 hi0 hz0 hz1 hz2 rfl (by omega) _ 0 [] (by rfl) ow1 ⟨a,0,none⟩ n c1 (xs.map iv) (by rfl) hxl (fun j v hj=>by rw [add_at];exact (k1.cell (p:=⟨a,j,none⟩) hal).trans (hcx j v hj)) (hone xs) hn0 (by unfold maxLen;omega) (by omega) k1.size w1.heap.size rfl ?_;intro g2 cap2 w2 ow2 gr2 hat2 hlt2)
 have k2:Below w.heap.size w w2:=k1.grown gr2 k1.size (fun q hq=>(ow1.lt q hq).1)
 have ow2':w2.ownsRow w.heap.size 32 1 (.slice (some ⟨g2,0,none⟩) n cap2) n (xs.map iv):=by simpa using ow2
 have u1:=(k2.cell (p:=⟨sb,1,none⟩) sl).trans s1
 have ul:=Nat.lt_of_lt_of_le sl k2.size
 rw [rounds_succ]
 go_wp2_with (refine wpList_append_lies _ (by rfl) _ _ _ (by rfl) w.heap.size 32 i0 _ 1 16 Tryz.underlying86 hi0 hz0 hz1 hz2 rfl (by omega) _ n (xs.map iv) (by rfl) ow2' ⟨b,0,none⟩ m c2 (ys.map iv) (by rfl) hyl (fun j v hj=>by rw [add_at];exact (k2.cell (p:=⟨b,j,none⟩) hbl).trans (hcy j v hj)) (hone ys) hm0 (by unfold maxLen;omega) (by omega) k2.size w2.heap.size rfl ?_;intro g3 cap3 w3 ow3 gr3 hat3 hlt3)
 have k3:Below w.heap.size w w3:=k2.grown gr3 k2.size (fun q hq=>(ow2.lt q hq).1)
 rw [rounds_succ]
 go_wp2_with fail
 go_ret
 refine ⟨g3,cap3,?_,?_,k3⟩
 ·simp
 ·rw [List.map_append]
  simpa using ow3
end Go.Proofs.Tryz
namespace Go.Proofs.Tryz
set_option maxHeartbeats 16000000
open Go.RowKit
set_option maxRecDepth 10000
theorem Add_arr {w:World}{a b n m c1 c2:Nat}{xs ys:List IV} (hx:w.ownsRow 0 32 1 (.slice (some ⟨a,0,none⟩) n c1) n (xs.map iv)) (hy:w.ownsRow 0 32 1 (.slice (some ⟨b,0,none⟩) m c2) m (ys.map iv)) (hn:n≤10000) (hm:m≤10000) (hn0:0 < n) (hm0:0 < m) :
  Calls Tryz.prog 227 #[.iface 86 (.slice (some ⟨a,0,none⟩) n c1),.iface 86 (.slice (some ⟨b,0,none⟩) m c2)] w fun e w'=>∃ g cap,e = .returned (.tuple #[.iface 86 (.slice (some ⟨g,0,none⟩) (n+m) cap),.nilIface])∧w'.ownsRow w.heap.size 32 1 (.slice (some ⟨g,0,none⟩) (n+m) cap) (n+m) ((xs ++ ys).map iv)∧Below w.heap.size w w':=by
 have m0:=missVNull;have m1:=missVNumber;have m2:=missVString;have m3:=hitVArray;have m4:=missVObject;have m5:=missVBool
 have k0:=below_alloc2 w (.cells #[] 95) (.cells #[.slice (some ⟨a,0,none⟩) n c1,.slice (some ⟨b,0,none⟩) m c2] 86)
 have hc:=Concat_ok (w:=(w.alloc (.cells #[] 95)).alloc (.cells #[.slice (some ⟨a,0,none⟩) n c1,.slice (some ⟨b,0,none⟩) m c2] 86)) (owns_same hx (fun j hj=>k0.block j (hx.lt j hj).2)) (owns_same hy (fun j hj=>k0.block j (hy.lt j hj).2)) hn hm hn0 hm0 (heap_new2' w _ _)
 clear hx hy
 go_enter Tryz.func227,Tryz.ntmps227
 go_wp2_with (go_at_call 267;refine hc.mono ?_;rintro e w1 ⟨g,cap,rfl,ow,k1⟩)
 refine bodyPost_ret (v:=.tuple #[.iface 86 (.slice (some ⟨g,0,none⟩) (n+m) cap),.nilIface]) (by simp [results,Tryz.results227,go_sem]) rfl ⟨g,cap,rfl,?_,k0.trans (k1.mono k0.size)⟩
 refine ⟨ow.1,?_⟩
 rcases ow.2 with ⟨e,_⟩ | ⟨g',cap',cur,e,hg,h3⟩
 ·cases e
 ·exact .inr ⟨g',cap',cur,e,Nat.le_trans k0.size hg,h3⟩
theorem oper_plus {C:Nat→Prop}{w0:World}{n m:Nat} (hn:n≤10000) (hm:m≤10000) (hn0:0 < n) (hm0:0 < m):OperG C w0 ⟨#[43]⟩ (TruesP n) (TruesP m) (TruesP (n+m)):=by
 intro w t s G G' hs hl hP hQ
 obtain ⟨e2,a,c1,e1,ow1⟩:=hP.here
 obtain ⟨f2,b,c2,f1,ow2⟩:=hQ.here
 obtain ⟨t1,t2⟩:=t
 obtain ⟨s1,s2⟩:=s
 simp only at e1 e2 f1 f2
 subst e1
 subst f1
 have hc:=Add_arr ow1 ow2 hn hm hn0 hm0
 rw [List.replicate_append_replicate] at hc
 clear hP hQ ow1 ow2
 simp only [iv]
 go_enter Tryz.func183,Tryz.ntmps183
 go_wp2_with (first
  | (go_at_call 227;refine hc.mono ?_;rintro e w1 ⟨g,cap,rfl,ow,k1⟩)
  | (go_at_call 94;refine sure_none.mono ?_;rintro e w2 ⟨rfl,hw2⟩;subst hw2))
 go_ret
 refine ⟨k1,(86,.slice (some ⟨g,0,none⟩) (n+m) cap),(· = g),rfl,⟨fun k hk=>by subst hk;exact (ow.lt k rfl).2,fun w' hs' _=>⟨rfl,g,cap,rfl,owns_low0 (owns_same ow (fun j hj=>hs' j (by simpa [Value.ownBlock] using hj.symm)))⟩⟩,fun k hk=>.inr (.inr (.inr (by subst hk;exact (ow.lt k rfl).1)))⟩
theorem allp_true {w:World}:∀ {n:Nat}{ss:List Sp},AllP (List.replicate n (BoolP true)) w ss→ss.map (fun t=>iv t.1)=(List.replicate n (boolV true)).map iv∧ss.length=n
 | 0,[],_=>⟨rfl,rfl⟩
 | n+1,s :: ss,h=>by
  have h1:s=(boolV true,none):=h.1
  obtain ⟨h2,h3⟩:=allp_true (n:=n) h.2
  subst h1
  refine ⟨?_,by simp [h3]⟩
  rw [List.map_cons,h2,List.replicate_succ,List.map_cons]
 | 0,_ :: _,h=>h.elim
 | n+1,[],h=>h.elim
theorem trues_of {G:Nat→Prop}{w:World}{n:Nat}{s:Sp} (h:HoldsP (ArrOf (List.replicate n (BoolP true))) G w s) (hn:0 < n):HoldsP (TruesP n) G w s :=
 h.to (fun w' ⟨e2,v,ss,e1,ow,hA⟩=>by
  obtain ⟨h1,h2⟩:=allp_true hA
  rw [h1,h2] at ow
  refine ⟨e2,?_⟩
  rcases ow.2 with ⟨e,h0⟩ | ⟨g,cap,cur,e,_⟩
  ·omega
  ·subst e
   exact ⟨g,cap,e1,ow⟩)
theorem idx_trues {C:Nat→Prop}{w0:World}{n:Nat} (hC:ComparesStr) (hn0:0 < n) (hn:n≤10000):IdxG C w0 (TruesP n) (Just (numS 0,none)) (BoolP true):=by
 intro w t s G G' hs hl hP hQ
 obtain ⟨e2,a,c1,e1,ow1⟩:=hP.here
 have hs':s=(numS 0,none):=hQ.here
 obtain ⟨t1,t2⟩:=t
 simp only at e1 e2
 subst e1
 subst e2
 subst hs'
 have ha:At1 w (86,.slice (some ⟨a,0,none⟩) n c1) (numS 0) (boolV true):=.inl ⟨a,n,c1,0,List.replicate n (boolV true),rfl,rfl,hn0,hn,ow1,by simp [hn0]⟩
 refine (spot_at hC ha).mono ?_
 rintro e w1 ⟨rfl,k1⟩
 exact ⟨k1,(boolV true,none),fun _=>False,rfl,just_holds _ _,fun _ h=>h.elim⟩
end Go.Proofs.Tryz
namespace Go.Proofs.Tryz
set_option maxHeartbeats 16000000
open Go.RowKit
set_option maxRecDepth 10000
structure Inp (V:Nat→Prop) (w:World) (x:IV) (L:List Node):Prop where
 hV:∀ k,V k→k < w.heap.size
 tour:∃ d,Tour V w d (x,[]) L
 len:L.length≤500
 pos:1≤L.length
 node:∀ n∈L,n.2.length≤500∧AtP (maskU V w) x n.2.reverse n.1∧∃ d m,Eqv (maskU V w) d m n.1 n.1∧m≤500
 self:∃ d m,Eqv (maskU V w) d m x x∧m≤500
theorem Inp.move {V:Nat→Prop}{w w':World}{x:IV}{L:List Node} (h:Inp V w x L) (hs:SameOn V w w') (hl:w.heap.size≤w'.heap.size):Inp V w' x L:=by
 obtain ⟨h1,⟨d,h2⟩,h3,h4,h5,d',m',h6,h7⟩:=h
 have K:KeptV (maskU V w) (maskU V w'):=kept_masks hs (fun _ h=>h)
 refine ⟨fun k hk=>Nat.lt_of_lt_of_le (h1 k hk) hl,⟨d,h2.move hs⟩,h3,h4,fun n hn=>?_,d',m',h6.keep K,h7⟩
 obtain ⟨g1,g2,d,m,g3,g4⟩:=h5 n hn
 exact ⟨g1,g2.keep K,d,m,g3.keep K,g4⟩
theorem inp_of {V:Nat→Prop}{w:World}{d:Nat}{x:IV}{c:Bys} (h:RepV w V d x c) (hc:c.length≤500) (hV:∀ k,V k→k < w.heap.size):∃ L,Inp V w x L:=by
 have hm:RepV (maskU V w) V d x c:=h.mono (fun g hg=>⟨hg,maskU_in hg⟩)
 obtain ⟨L,h1,h2,h3⟩:=tour_of [] hm (by omega)
 have hs:SameOn V (maskU V w) w:=fun k hk=>(maskU_in hk).symm
 refine ⟨L,hV,⟨d,h1.move hs⟩,by omega,?_,fun n hn=>?_,d,c.length,eqv_self hm,hc⟩
 ·obtain ⟨_,_,_,_,e,_⟩:=tour_open h1
  rw [e];simp
 ·obtain ⟨ss,g1,g2,g3,d',c',g4,g5⟩:=h3 n hn
  rw [List.append_nil] at g1
  have e:n.2.reverse=ss:=by rw [g1,List.reverse_reverse]
  exact ⟨by rw [g1];simp;omega,by rw [e];exact g2,d',c'.length,eqv_self g4,by omega⟩
theorem along_node (hC:ComparesStr) {C V:Nat→Prop}{w0:World}{x:IV}{L:List Node} (h:Inp V w0 x L) (hVC:∀ k,V k→C k) {n:Node} (hn:n∈L):AlongG C w0 x (PathA n.2.reverse) (Just (n.1,none)):=by
 intro w t G hs hl hP
 obtain ⟨g1,g2,_⟩:=h.node n hn
 obtain ⟨_,v,e,ow⟩:=hP.here
 obtain ⟨p,m,c,rfl⟩:=owns_shape1 ow
 have hsl:=Sl.of_row ow
 obtain ⟨p',c',e2⟩:=hsl.shape
 cases e2
 rw [e]
 refine (along_ok hC (g2.keep (kept_mask (hs.mono hVC))) hsl rfl (by rw [List.length_reverse];omega)).mono ?_
 rintro e w' ⟨rfl,k⟩
 exact ⟨k,n.1,fun _=>False,rfl,just_holds _ _,fun _ h=>h.elim⟩
def SetR (ss:List IV) (Q:SP):SP:=fun w s=>s.2=none∧∃ z,Q w (z,none)∧AtP w s.1 ss z
theorem set_node (hC:ComparesStr) {C V:Nat→Prop}{w0:World}{x:IV}{L:List Node}{Q:SP} (hQ:Plainish Q) (h:Inp V w0 x L) (hVC:∀ k,V k→C k) {n:Node} (hn:n∈L):SetG C w0 x (PathA n.2.reverse) Q (SetR n.2.reverse Q):=by
 intro w t s G G' hs hl hP hQ1
 obtain ⟨g1,g2,_⟩:=h.node n hn
 obtain ⟨_,v,e,ow⟩:=hP.here
 obtain ⟨p,m,c,rfl⟩:=owns_shape1 ow
 have hsl:=Sl.of_row ow
 obtain ⟨p',c',e2⟩:=hsl.shape
 cases e2
 refine ⟨_,e,?_⟩
 have hsV:=hs.mono hVC
 refine (Set_ok hC (z:=s.1) (g2.keep (kept_mask hsV)) hsl rfl (by rw [List.length_reverse];omega)).mono ?_
 rintro e w' ⟨y,rfl,hput,k⟩
 have hVl:=h.hV
 have hG'l:=hQ1.1
 have hks:=k.size
 have sV:SameOn V w0 w':=fun j hj=>(k.block j (by have:=hVl j hj;omega)).trans (hsV j hj)
 have sG:SameOn G' w w':=fun j hj=>k.block j (hG'l j hj)
 refine ⟨k,y,fun j=>V j∨G' j∨(w.heap.size≤j∧j < w'.heap.size),rfl,⟨by grind,fun w'' a b=>⟨rfl,s.1,?_,?_⟩⟩,by grind⟩
 ·obtain ⟨s1,s2⟩:=s
  exact hQ w'' s1 s2 (hQ1.2 w'' (sG.trans (a.mono (fun _ h=>.inr (.inl h)))) (by omega))
 ·exact (put_get (put_masked (U:=fun j=>V j∨G' j∨(w.heap.size≤j∧j < w'.heap.size)) (fun j h1 h2=>.inr (.inr ⟨h1,h2⟩)) (g2.keep (kept_masks sV (fun _ h=>.inl h))) hput)).keep (kept_mask a)
def EqvP (x:IV):SP:=fun w s=>s.2=none∧∃ d m,Eqv w d m s.1 x∧m≤500
theorem set_same (hC:ComparesStr) {C V:Nat→Prop}{w0:World}{x:IV}{L:List Node} (h:Inp V w0 x L) (hVC:∀ k,V k→C k) {n:Node} (hn:n∈L):SetG C w0 x (PathA n.2.reverse) (Just (n.1,none)) (EqvP x):=by
 intro w t s G G' hs hl hP hQ1
 obtain ⟨g1,g2,_⟩:=h.node n hn
 obtain ⟨d,m,g3,g4⟩:=h.self
 obtain ⟨_,v,e,ow⟩:=hP.here
 obtain ⟨p,m',c,rfl⟩:=owns_shape1 ow
 have hsl:=Sl.of_row ow
 obtain ⟨p',c',e2⟩:=hsl.shape
 cases e2
 have hs1:s=(n.1,none):=hQ1.here
 subst hs1
 refine ⟨_,e,?_⟩
 have hsV:=hs.mono hVC
 refine (Set_ok hC (z:=n.1) (g2.keep (kept_mask hsV)) hsl rfl (by rw [List.length_reverse];omega)).mono ?_
 rintro e w' ⟨y,rfl,hput,k⟩
 have hVl:=h.hV
 have hks:=k.size
 have sV:SameOn V w0 w':=fun j hj=>(k.block j (by have:=hVl j hj;omega)).trans (hsV j hj)
 have KM:KeptV (maskU V w0) (maskU (fun j=>V j∨(w.heap.size≤j∧j < w'.heap.size)) w'):=kept_masks sV (fun _ h=>.inl h)
 refine ⟨k,y,fun j=>V j∨(w.heap.size≤j∧j < w'.heap.size),rfl,⟨by grind,fun w'' a b=>⟨rfl,d,m,?_,g4⟩⟩,by grind⟩
 exact (put_same (g3.keep KM) (g2.keep KM) (put_masked (U:=fun j=>V j∨(w.heap.size≤j∧j < w'.heap.size)) (fun j h1 h2=>.inr ⟨h1,h2⟩) (g2.keep KM) hput)).keep (kept_mask a)
theorem along_set (hC:ComparesStr) {C:Nat→Prop}{w0:World}{y:IV}{ss:List IV}{Q:SP} (hl1:ss.length≤500) (h:HoldsP (SetR ss Q) C w0 (y,none)):AlongG C w0 y (PathA ss) Q:=by
 intro w t G hs hl hP
 have h1:=h.move hs hl
 obtain ⟨_,z,hQ,ha⟩:=h1.here
 obtain ⟨_,v,e,ow⟩:=hP.here
 obtain ⟨p,m,c,rfl⟩:=owns_shape1 ow
 have hsl:=Sl.of_row ow
 obtain ⟨p',c',e2⟩:=hsl.shape
 cases e2
 rw [e]
 refine (along_ok hC ha hsl rfl (by omega)).mono ?_
 rintro e w' ⟨rfl,k⟩
 have hCl:=h1.1
 refine ⟨k,z,C,rfl,⟨fun j hj=>Nat.lt_of_lt_of_le (hCl j hj) k.size,fun w'' a b=>?_⟩,fun j hj=>.inl hj⟩
 have sC:SameOn C w w'':=(show SameOn C w w' from fun j hj=>k.block j (hCl j hj)).trans a
 obtain ⟨_,z',hQ',ha'⟩:=h1.2 w'' sC (Nat.le_trans k.size b)
 have:z'=z:=by
  obtain ⟨_,zm,_,hm⟩:=h1.masked
  have e1:=atP_fn (hm.keep (kept_mask (SameOn.refl C w))) ha
  have e2:=atP_fn (hm.keep (kept_mask sC)) ha'
  rw [← e1,← e2]
 rw [← this]
 exact hQ'
end Go.Proofs.Tryz
