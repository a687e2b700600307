import Derived.Test.YtbhajhlhgbnhbaaGreatDoorOf3
set_option linter.all false
namespace Go.Proofs.Tryz
set_option maxHeartbeats 16000000
open Go.RowKit
set_option maxRecDepth 10000
def WithG (C:Nat→Prop) (w0:World) (name:ByteArray) (x:IV) (Q R:SP):Prop:=∀ w s G,SameOn C w0 w→w0.heap.size≤w.heap.size→HoldsP Q G w s→
 Calls Tryz.prog 163 #[.string name,iv x,iv s.1] w fun e w'=>Below w.heap.size w w'∧∃ z G',e = .returned (iv z)∧HoldsP R G' w' (z,none)∧∀ k,G' k→C k∨G k∨w.heap.size≤k
theorem enters_given3:Enters Tryz.prog 162:=enters_of Tryz.func162 (by kernel_rfl) rfl
theorem vg_with {C:Nat→Prop}{fb sb b:Nat}{w0 w:World}{x:IV}{name:ByteArray}{Q R:SP} (h:WithG C w0 name x Q R) (hf:Box w fb (.pointer (some ⟨b,0,none⟩)) 169) (hx:SpotB w sb (x,none)) (hC:∀ k,C k→k < w0.heap.size) (hb:C b) (c0:w0.cell? ⟨b,0,none⟩=some (.string name)) (hs:SameOn C w0 w) (hl:w0.heap.size≤w.heap.size) :
  VG (fun k=>C k∨k=fb∨k=sb) w (.func (.func 162) #[] #[.pointer (some ⟨fb,0,none⟩),.pointer (some ⟨sb,0,none⟩)]) Q R:=by
 have hxl:=hx.lt
 have hfl:=hf.lt
 refine ⟨_,_,rfl,enters_given3,by grind,?_⟩
 intro w' s G hs' hl' hQ
 have hs0:SameOn C w0 w':=hs.trans (hs'.mono (fun _ h=>.inl h))
 have hx':=hx.same (hs' sb (by simp))
 have hf':=hf.same (hs' fb (by simp))
 have f0:=hf'.cell
 have f2:=hf'.lt
 have n1:=hs0.cell hb c0
 have n2:b < w'.heap.size:=by have:=hC b hb;omega
 have H:∀ w1,Below w'.heap.size w' w1→Calls Tryz.prog 163 #[.string name,iv x,iv s.1] w1 fun e w2=>Below w1.heap.size w1 w2∧∃ z G',e = .returned (iv z)∧HoldsP R G' w2 (z,none)∧∀ k,G' k→C k∨G k∨w1.heap.size≤k:=fun w1 k=>h w1 s G (hs0.trans (fun j hj=>k.block j (by have:=hC j hj;omega))) (by have:=k.size;omega) (hQ.move (fun j hj=>k.block j (hQ.1 j hj)) k.size)
 clear h hQ
 obtain ⟨T,u⟩:=x
 obtain ⟨⟨T1,u1⟩,q1⟩:=s
 obtain ⟨x0,x1,_,_,x4⟩:=hx'.facts
 simp only [iv] at H ⊢
 have s0:=tri ((Below.refl _ w').drew) x0 f0 n1
 go_enter Tryz.func162,Tryz.ntmps162
 go_wp2_with fail
 go_region_held3 (fun w1=>w1.cell? ⟨sb,0,none⟩=some (.iface T u)∧w1.cell? ⟨fb,0,none⟩=some (.pointer (some ⟨b,0,none⟩))∧w1.cell? ⟨b,0,none⟩=some (.string name)) (first | exact s0 | exact e4 | go_keep)
  (first | (go_at_call 163;refine (H _ (Below.refl _ _).drew).mono ?_;rintro e w1 ⟨k1,⟨T2,u2⟩,G',rfl,hR,hG⟩;have kX:Below w'.heap.size w' w1:=(Below.refl _ _).drew.trans (k1.mono (by simp));have e4:=tri kX x0 f0 n1;have hG':∀ k,G' k→C k∨G k∨w'.heap.size≤k:=hG))
 all_goals
  go_wp2_with fail
  go_ret
  exact ⟨kX,(T2,u2),G',rfl,hR,by grind⟩
theorem given_with {C:Nat→Prop}{w0 w:World}{kn:Option Addr}{d:Int}{b c ad ao T1 b1:Nat}{name:ByteArray}{x:IV}{Q R:SP} (hb:C b) (c0:w0.cell? ⟨b,0,none⟩=some (.string name)) (c1:w0.cell? ⟨b,1,none⟩=some (.slice (some ⟨ad,ao,none⟩) 1 c)) (ha:C ad) (c2:w0.cell? ⟨ad,ao,none⟩=some (.iface T1 (.pointer (some ⟨b1,0,none⟩)))) (hN:NotGiven name) (hs:SameOn C w0 w) (hl:w0.heap.size≤w.heap.size)
  (hO1:OpensG C w0 (.iface T1 (.pointer (some ⟨b1,0,none⟩))) kn d (x,none) [Q]) (h:WithG C w0 name x Q R) :
  Calls Tryz.prog 117 #[.agg #[.pointer kn,.int .i64 d],.pointer (some ⟨b,0,none⟩),.agg #[iv x,.pointer none]] w (MadeC [R] C w):=by
 obtain ⟨o1,o2,o3⟩:=hN
 have hC:=hO1.1
 have n0:=hs.cell hb c0
 have n1:=hs.cell hb c1
 have n2:=hs.cell ha c2
 have n3:b < w.heap.size:=by have:=hC b hb;omega
 have n4:ad < w.heap.size:=by have:=hC ad ha;omega
 obtain ⟨T,u⟩:=x
 simp only [iv]
 have kW0:=below_alloc3 w (.cells #[.pointer kn,.int .i64 d] 71) (.cells #[.pointer (some ⟨b,0,none⟩)] 169) (.cells #[.iface T u,.pointer none] 75)
 have wn0:=(kW0.cell (p:=⟨b,0,none⟩) n3).trans n0
 have wn1:=(kW0.cell (p:=⟨b,1,none⟩) n3).trans n1
 clear kW0
 go_enter Tryz.func117,Tryz.ntmps117
 go_wp2_with fail
 obtain ⟨wA,hA,kW,wp,wf,wx,wl⟩:=three_boxes w kn d (.pointer (some ⟨b,0,none⟩)) 169 ((T,u),none)
 have HO:Calls Tryz.prog 22 #[.agg #[.pointer kn,.int .i64 d],.iface T1 (.pointer (some ⟨b1,0,none⟩)),spv ((T,u),none)] wA.drew (MadeC [Q] C wA.drew):=hO1.2 _ (hs.trans (fun j hj=>kW.drew.block j (Nat.lt_of_lt_of_le (hC j hj) hl))) (Nat.le_trans hl kW.drew.size)
 have HV:∀ w1,Below wA.heap.size wA w1→VG (fun k=>C k∨k=w.heap.size+1∨k=w.heap.size+2) w1 (.func (.func 162) #[] #[.pointer (some ⟨w.heap.size+1,0,none⟩),.pointer (some ⟨w.heap.size+2,0,none⟩)]) Q R:=fun w1 k =>
  vg_with h (wf.same (k.block _ wf.lt)) (wx.same (k.block _ wx.lt)) hC hb c0 (hs.trans (fun j hj=>(k.block j (by have:=hC j hj;omega)).trans (kW.block j (by have:=hC j hj;omega)))) (by have:=k.size;omega)
 clear hO1 h
 simp only [spv,iv] at HO hA
 obtain ⟨x0,x1,_,_,x4⟩:=wx.facts
 have a0:=wp.c0
 have a1:=wp.c1
 have a2:=wf.cell
 have a3:=(kW.cell (p:=⟨b,0,none⟩) n3).trans n0
 have a4:=(kW.cell (p:=⟨b,1,none⟩) n3).trans n1
 have a5:=(kW.cell (p:=⟨ad,ao,none⟩) n4).trans n2
 have s0:=eight ((Below.refl _ wA).drew) a0 a1 a2 a3 a4 x0 x1 a5
 rw [← hA]
 clear hA wn0 wn1
 go_region_held3 (fun w'=>w'.cell? ⟨w.heap.size,0,none⟩=some (.pointer kn)∧w'.cell? ⟨w.heap.size,1,none⟩=some (.int .i64 d)∧w'.cell? ⟨w.heap.size+1,0,none⟩=some (.pointer (some ⟨b,0,none⟩))∧w'.cell? ⟨b,0,none⟩=some (.string name)∧w'.cell? ⟨b,1,none⟩=some (.slice (some ⟨ad,ao,none⟩) 1 c)∧w'.cell? ⟨w.heap.size+2,0,none⟩=some (.iface T u)∧w'.cell? ⟨w.heap.size+2,1,none⟩=some (.pointer none)∧w'.cell? ⟨ad,ao,none⟩=some (.iface T1 (.pointer (some ⟨b1,0,none⟩)))) (first | exact s0 | exact e4 | exact f4 | go_keep)
   (first
    | (go_at_call 22;refine HO.mono ?_;rintro e w1 ⟨k1,K,cap,rfl,F,D,hS,hF,hD⟩;have kX:Below wA.heap.size wA w1:=(Below.refl _ _).drew.trans (k1.mono (by simp));have e4:=eight kX a0 a1 a2 a3 a4 x0 x1 a5;have hX:=kX.size;have hF':∀ k,F k→C k∨wA.heap.size≤k:=hF;have hD':∀ k,D k→wA.heap.size≤k:=hD)
    | (go_at_call 126;refine (valued_okg (C:=fun k=>C k∨k=w.heap.size+1∨k=w.heap.size+2) (L:=[(Q,R)]) hS ⟨_,_,rfl⟩ (by grind) (fun y hy=>by rw [List.mem_singleton] at hy;subst hy;exact HV w1 kX) (by grind)).mono ?_;rintro e w2 ⟨k2,K2,cap2,F2,rfl,hS2,hF2⟩;have f4:=eight (kX.trans (k2.mono kX.size)) a0 a1 a2 a3 a4 x0 x1 a5))
 all_goals
  go_wp2_with fail
  go_ret
  exact .mk' (kW.trans ((kX.trans (k2.mono kX.size)).mono kW.size)) hS2 (by grind) (by grind)
theorem ev_with {p C:Nat→Prop}{w:World}{kn:Option Addr}{d:Int}{x:IV}{name:ByteArray}{pos:Int}{n:Nat}{t:Tr}{Q R:SP} (hp:∀ k,p k→C k) (hF:FindIs C w 2 name 1 n kn none) (hN:NotNamed name) (hN2:NotGiven name) (h1:Ev p C w kn d t (x,none) [Q]) (h:WithG C w name x Q R):Ev p C w kn d (.call1 name t pos) (x,none) [R]:=⟨h1.1,fun v hr=>by
 obtain ⟨b,ad,ao,c,y,rfl,pb,pad,c0,c1,_,c2,r1⟩:=hr.call1_of
 obtain ⟨T1,b1,rfl⟩:=r1.shape
 have hC:=h1.1
 refine ⟨hC,fun w1 hs1 hl1=>open_callg (fun w2 k2=>?_)⟩
 have hs2:SameOn C w w2:=hs1.trans (fun j hj=>k2.block j (Nat.lt_of_lt_of_le (hC j hj) hl1))
 have hl2:=Nat.le_trans hl1 k2.size
 refine named_g hC (hp b pb) c0 c1 hF hN hs2 hl2 (fun w3 k3=>?_)
 exact given_with (hp b pb) c0 c1 (hp ad pad) c2 hN2 (hs2.trans (fun j hj=>k3.block j (Nat.lt_of_lt_of_le (hC j hj) hl2))) (Nat.le_trans hl2 k3.size) (h1.2 _ r1) h⟩
theorem open_ifg {C:Nat→Prop}{Ls:List SP}{w:World}{kn:Option Addr}{d:Int}{b:Nat}{s:Sp} (h:∀ w1,Below w.heap.size w w1→Calls Tryz.prog 57 #[.agg #[.pointer kn,.int .i64 d],.pointer (some ⟨b,0,none⟩),spv s] w1 (MadeC Ls C w1)) :
  Calls Tryz.prog 22 #[.agg #[.pointer kn,.int .i64 d],.iface 158 (.pointer (some ⟨b,0,none⟩)),spv s] w (MadeC Ls C w):=by
 have m0:=missIdentity;have m1:=missDescent;have m2:=missField;have m3:=missIndex;have m4:=missEach;have m5:=missOptional;have m6:=missTry;have m7:=missLabel;have m8:=missBreak;have m9:=hitIf
 obtain ⟨⟨T,u⟩,q⟩:=s
 simp only [spv,iv] at h ⊢
 go_enter Tryz.func22,Tryz.ntmps22
 go_wp2_with (go_at_call 57;refine (h _ (below_alloc2 w _ _)).mono ?_;rintro e w1 ⟨k1,K,cap,rfl,hM⟩)
 go_ret
 exact MadeC.under ⟨k1,K,cap,rfl,hM⟩ (below_alloc2 w _ _)
theorem opensG_ite {C:Nat→Prop}{w0:World}{b T1 b1 T2 b2 o:Nat}{kn:Option Addr}{d:Int}{x:IV}{c:Bool}{Qs:List SP} (hb:C b) (c0:w0.cell? ⟨b,0,none⟩=some (.iface T1 (.pointer (some ⟨b1,0,none⟩)))) (ho:o=if c then 1 else 2) (c2:w0.cell? ⟨b,o,none⟩=some (.iface T2 (.pointer (some ⟨b2,0,none⟩))))
  (hO1:OpensG C w0 (.iface T1 (.pointer (some ⟨b1,0,none⟩))) kn d (x,none) [Just (boolW c,none)]) (hO2:OpensG C w0 (.iface T2 (.pointer (some ⟨b2,0,none⟩))) kn d (x,none) Qs):OpensG C w0 (.iface 158 (.pointer (some ⟨b,0,none⟩))) kn d (x,none) Qs:=by
 have hC:=hO1.1
 refine ⟨hC,fun w hs hl=>open_ifg (fun w1 k1=>?_)⟩
 exact condition_g hb c0 ho c2 hO1 hO2 (hs.trans (fun j hj=>k1.block j (Nat.lt_of_lt_of_le (hC j hj) hl))) (Nat.le_trans hl k1.size)
theorem ev_ite {p C:Nat→Prop}{w:World}{kn:Option Addr}{d:Int}{x:IV}{t1 t2 t3:Tr}{c:Bool}{Qs:List SP} (hp:∀ k,p k→C k) (h1:Ev p C w kn d t1 (x,none) [Just (boolW c,none)]) (h2:Ev p C w kn d (if c then t2 else t3) (x,none) Qs):Ev p C w kn d (.ite t1 t2 t3) (x,none) Qs:=⟨h1.1,fun v hr=>by
 obtain ⟨b,y,z,u,rfl,pb,c0,c1,c2,r1,r2,r3⟩:=hr.ite_of
 obtain ⟨T1,b1,rfl⟩:=r1.shape
 obtain ⟨T2,b2,rfl⟩:=r2.shape
 obtain ⟨T3,b3,rfl⟩:=r3.shape
 cases c with
 | true=>exact opensG_ite (c:=true) (hp b pb) c0 rfl c1 (h1.2 _ r1) (h2.2 _ r2)
 | false=>exact opensG_ite (c:=false) (hp b pb) c0 rfl c2 (h1.2 _ r1) (h2.2 _ r3)⟩
theorem ev_select {p C:Nat→Prop}{w:World}{kn:Option Addr}{d:Int}{x:IV}{pos:Int}{n ne sb:Nat}{ar:Option Addr}{tf:Tr}{c:Bool}{P:SP} (hC:∀ k,C k→k < w.heap.size) (hp:∀ k,p k→C k) (hF:FindIs C w 2 sSelect 1 n kn (some ⟨sb,0,none⟩)) (hm:DefB p w sb sSelect sF selBody ar) (hE:FindIs C w 2 ⟨#[101,109,112,116,121]⟩ 0 ne ar none) (hd0:0 < d) (hd1:d≤1000)
  (hx:HoldsP P C w (x,none)) (hf:∀ w' C',SameOn C w w'→w.heap.size≤w'.heap.size→(∀ k,C k→C' k)→(∀ k,C' k→k < w'.heap.size)→Ev p C' w' kn (d - 1) tf (x,none) [Just (boolW c,none)]) :
  Ev p C w kn d (.call1 sSelect tf pos) (x,none) (if c then [P] else []):=⟨hC,fun v hr=>by
 obtain ⟨b,ad,ao,c9,y,rfl,pb,pad,c0,c1,_,c2,r⟩:=hr.call1_of
 obtain ⟨T1,b1,rfl⟩:=r.shape
 refine ⟨hC,fun w1 hs1 hl1=>open_callg (fun w2 k2=>?_)⟩
 have hs2:SameOn C w w2:=hs1.trans (fun j hj=>k2.block j (Nat.lt_of_lt_of_le (hC j hj) hl1))
 have hl2:=Nat.le_trans hl1 k2.size
 refine named_def hC (hp b pb) c0 c1 hF hs2 hl2 (fun w3 k3=>?_)
 have hs3:SameOn C w w3:=hs2.trans (fun j hj=>k3.block j (Nat.lt_of_lt_of_le (hC j hj) hl2))
 have hl3:=Nat.le_trans hl2 k3.size
 obtain ⟨m1,db,pd,po,pc,xb,m2,m3,m4,m5,m6,m7,m8⟩:=hm.move (hs3.mono hp)
 obtain ⟨Tb,bb,rfl⟩:=m8.shape
 refine call_def1 (dname:=sSelect) (s:=(x,none)) m2 m5 m6 m7 (hs3.cell (hp ad pad) c2) hd0 hd1 (fun w4 nb k4 hnb hkn=>?_)
 have hs4:SameOn C w w4:=hs3.trans (fun j hj=>k4.block j (Nat.lt_of_lt_of_le (hC j hj) hl3))
 have hl4:=Nat.le_trans hl3 k4.size
 have hnl:=hkn.lt
 have hC4:∀ k,(C k∨k=nb)→k < w4.heap.size:=by
  rintro k (h | rfl)
  ·exact Nat.lt_of_lt_of_le (hC k h) hl4
  ·exact hnl
 have hp4:∀ k,p k→C k∨k=nb:=fun k hk=>.inl (hp k hk)
 have hx4:=hx.move hs4 hl4
 have hkn4:=hkn
 have ms:KnB w4 sb 2 sSelect 1 .nilIface (.pointer (some ⟨db,0,none⟩)) .nilIface (.pointer none) (.pointer ar):=m2.same (k4.block _ m2.lt)
 have hbody:Ev p (fun k=>C k∨k=nb) w4 (some ⟨nb,0,none⟩) (d - 1) selBody (x,none) (if c then [P] else []):=by
  refine ev_ite (c:=c) hp4 ?_ ?_
  ·refine ⟨hC4,fun v hr=>?_⟩
   obtain ⟨b',rfl,pb',c0',c1',_⟩:=hr.call0_of
   have hev:=hf w4 (fun k=>C k∨k=nb) hs4 hl4 (fun _ h=>.inl h) hC4
   obtain ⟨hCe,hO⟩:=hev.2 _ (r.same (hs4.mono hp))
   refine ⟨hC4,fun w6 hs6 hl6=>open_callg (fun w7 k7=>?_)⟩
   have hs7:SameOn (fun k=>C k∨k=nb) w4 w7:=hs6.trans (fun j hj=>k7.block j (Nat.lt_of_lt_of_le (hC4 j hj) hl6))
   have hl7:=Nat.le_trans hl6 k7.size
   refine named_def (cb:=nb) (n:=1) hC4 (.inl (hp b' pb')) c0' c1' ⟨nb,2,sF,0,_,_,_,_,some ⟨sb,0,none⟩,rfl,.inr rfl,hkn4,.inl ⟨⟨rfl,rfl,rfl⟩,rfl⟩⟩ hs7 hl7 (fun w8 k8=>?_)
   have hs8:=hs7.trans (fun j hj=>k8.block j (Nat.lt_of_lt_of_le (hC4 j hj) hl7))
   refine call_param (s:=(x,none)) (hkn4.same (hs8 nb (.inr rfl))) (fun w9 k9=>?_)
   have hl8:=Nat.le_trans hl7 k8.size
   exact hO w9 (hs8.trans (fun j hj=>k9.block j (Nat.lt_of_lt_of_le (hC4 j hj) hl8))) (Nat.le_trans hl8 k9.size)
  ·cases c with
   | true=>exact ev_ident hC4 hx4 (fun k hk=>.inl hk)
   | false=>exact ev_empty hC4 hp4 (n:=ne+2) ⟨nb,2,sF,0,_,_,_,_,some ⟨sb,0,none⟩,rfl,.inr rfl,hkn4,.inr ⟨.inr (.inl ⟨rfl,by kernel_rfl⟩),⟨sb,2,sSelect,1,_,_,_,_,ar,rfl,.inl (hp sb hm.1),ms,.inr ⟨.inr (.inl ⟨rfl,by kernel_rfl⟩),hE.move hs4 (fun _ h=>.inl h)⟩⟩⟩⟩
 refine ((hbody.2 _ (m8.same (fun j hj=>k4.block j (by have:=hC j (hp j hj);omega)))).2 w4 (SameOn.refl _ _) (Nat.le_refl _)).mono (fun e w' h=>h.more ?_)
 rintro k (h | rfl)
 ·exact .inl (.inl h)
 ·exact .inl (.inr hnb)⟩
def HalfR (n i:Nat) (xs ys:List IV):Prop:=ys.length=n∧∀ k,k < n→ys[k]? = if k < i∨n - i≤k then xs[n - 1 - k]? else xs[k]?
theorem HalfR.done {n i:Nat}{xs ys:List IV} (h:HalfR n i xs ys) (hx:xs.length=n) (hi:n≤2 * i+1):ys=xs.reverse:=by
 apply List.ext_getElem?
 intro k
 by_cases hk:k < n
 ·rw [h.2 k hk,List.getElem?_reverse (by omega),hx]
  split
  ·rfl
  ·congr 1;omega
 ·rw [List.getElem?_eq_none (by rw [h.1];omega),List.getElem?_eq_none (by rw [List.length_reverse,hx];omega)]
theorem HalfR.swap {n i j:Nat}{xs ys:List IV}{x y:IV} (h:HalfR n i xs ys) (hx:xs.length=n) (hj:j=n - 1 - i) (hij:i < j) (h1:ys[i]? = some x) (h2:ys[j]? = some y):HalfR n (i+1) xs ((ys.set i y).set j x):=by
 have hn:=h.1
 refine ⟨by simp [hn],fun k hk=>?_⟩
 have e1:=h.2 i (by omega)
 have e2:=h.2 j (by omega)
 rw [if_neg (by omega)] at e1 e2
 by_cases hkj:k=j
 ·subst hkj
  rw [List.getElem?_set_self (by simp;omega),if_pos (by omega),← h1,e1]
  congr 1;omega
 ·rw [List.getElem?_set_ne (fun e=>hkj e.symm)]
  by_cases hki:k=i
  ·subst hki
   rw [List.getElem?_set_self (by omega),if_pos (by omega),← h2,e2]
   congr 1
  ·rw [List.getElem?_set_ne (fun e=>hki e.symm),h.2 k hk]
   by_cases hc:k < i∨n - i≤k
   ·rw [if_pos hc,if_pos (by omega)]
   ·rw [if_neg hc,if_neg (by omega)]
theorem Reverse_row {w:World}{N a n c:Nat}{xs:List IV} (hrow:w.ownsRow N 32 1 (.slice (some ⟨a,0,none⟩) n c) n (xs.map iv)) (hn:n≤100000000) :
  Calls Tryz.prog 261 #[.slice (some ⟨a,0,none⟩) n c] w fun e w'=>e = .returned (.tuple #[])∧w'.ownsRow N 32 1 (.slice (some ⟨a,0,none⟩) n c) n (xs.reverse.map iv)∧Below N w w':=by
 have hlen:Hid (xs.length=n):=by have:=hrow.1;rw [List.length_map,Nat.mul_one] at this;exact this
 have HROW:Aside (w.ownsRow N 32 1 (.slice (some ⟨a,0,none⟩) n c) n (xs.map iv)):=hrow
 have hN:=(hrow.lt a rfl).1
 clear hrow
 go_enter Tryz.func261,Tryz.ntmps261
 go_wp2_with fail
 go_loopg [2,3] n (fun k v2 v3 wr=>∃ (i:Nat) (ys:List IV),i+k=n∧v2 = .int .i64 i∧v3 = .int .i64 ((n:Int) - 1 - (i:Int))∧Aside (HalfR n i xs ys∧wr.ownsRow N 32 1 (.slice (some ⟨a,0,none⟩) n c) n (ys.map iv)∧Below N w wr))
 case atStart=>exact ⟨0,xs,by omega,rfl,by simp,⟨hlen.out,fun k hk=>by rw [if_neg (by omega)]⟩,HROW.out,Below.refl _ _⟩
 case round =>
  obtain ⟨i,ys,hik,rfl,rfl,HR⟩:=hrel
  by_cases hlt:2 * i+1 < n
  ·obtain ⟨j,hj⟩:∃ j,j=n - 1 - i:=⟨_,rfl⟩
   have ej:(n:Int) - 1 - (i:Int)=(j:Int):=by omega
   rw [ej]
   have z1:(i:Int) < (j:Int):=by omega
   have z2:(j:Int) < (n:Int):=by omega
   have z3:(i:Int) < (n:Int):=by omega
   have z4:(0:Int)≤(i:Int):=by omega
   have z5:(0:Int)≤(j:Int):=by omega
   obtain ⟨h1,h2,h3⟩:=HR.out
   have hyl:=h1.1
   obtain ⟨⟨Tx,ux⟩,hx⟩:∃ x,ys[i]? = some x:=⟨_,List.getElem?_eq_getElem (by omega)⟩
   obtain ⟨⟨Ty,uy⟩,hy⟩:∃ x,ys[j]? = some x:=⟨_,List.getElem?_eq_getElem (by omega)⟩
   have c0:wr.cell? ⟨a,i,none⟩=some (.iface Tx ux):=by rw [h2.cellAt i (by omega),List.getElem?_map,hx];rfl
   have c1:wr.cell? ⟨a,j,none⟩=some (.iface Ty uy):=by rw [h2.cellAt j (by omega),List.getElem?_map,hy];rfl
   have hfz:∀ q,wr.frozen? ⟨a,q,none⟩=false:=fun q=>by
    rcases h2.2 with ⟨e,_⟩ | ⟨g',cap',cur,e,_,hb,_⟩
    ·cases e
    ·cases e;exact cells_free hb
   have hal:=(h2.lt a rfl).2
   have HX:Hid (ys[i]? = some (Tx,ux)∧ys[j]? = some (Ty,uy)∧j=n - 1 - i):=⟨hx,hy,hj⟩
   have hne:i≠j:=by omega
   clear h1 h2 h3 hyl hx hy hj
   go_wp2_with fail
   have mixed:Tryz.prog.follows Departure.mixedOrders=true:=by kernel_rfl
   go_big_region_o
   go_wp2_with fail
   go_roundg (gk - 1)
   case measure=>omega
   case rel =>
    obtain ⟨h1,h2,h3⟩:=HR.out
    obtain ⟨hx,hy,hj⟩:=HX.out
    refine ⟨i+1,(ys.set i (Ty,uy)).set j (Tx,ux),by omega,by simp,by congr 1;omega,h1.swap hlen.out hj (by omega) hx hy,?_,?_⟩
    ·have h5:=((h2.stored i (.iface Ty uy)).1.stored j (.iface Tx ux)).1
     rw [List.map_set,List.map_set]
     exact World.ownsRow.drew h5
    ·exact ((h3.setCell (p:=⟨a,i,none⟩) hN _).setCell (p:=⟨a,j,none⟩) hN _).drew
  ·have z1:¬ (i:Int) < (n:Int) - 1 - (i:Int):=by omega
   go_wp2_with fail
   go_end0
   obtain ⟨h1,h2,h3⟩:=HR.out
   rw [h1.done hlen.out (by omega)] at h2
   exact ⟨rfl,by simpa using h2,h3⟩
theorem Reverse_none (p:Option Addr) (c:Nat) (w:World):Calls Tryz.prog 261 #[.slice p 0 c] w fun e w'=>e = .returned (.tuple #[])∧w'=w:=by
 go_enter Tryz.func261,Tryz.ntmps261
 go_wp2_with fail
 refine wp_loop_rounds 1 ?_
 rw [rounds_succ]
 go_wp2_with fail
 go_end0
 exact ⟨rfl,rfl⟩
theorem enV_map' (ts:List En):ts.map enV=(ts.map (·.1)).map iv:=by rw [List.map_map];rfl
theorem Reverse_any {w:World}{N n:Nat}{r:Value}{ts:List En} (hrow:w.ownsRow N 32 1 r n (ts.map enV)) (hn:n≤100000000) :
  Calls Tryz.prog 261 #[r] w fun e w'=>e = .returned (.tuple #[])∧w'.ownsRow N 32 1 r n (ts.reverse.map enV)∧Below N w w':=by
 rcases hrow.2 with ⟨rfl,rfl⟩ | ⟨a,c,_,rfl,_⟩
 ·have:ts=[]:=List.eq_nil_of_length_eq_zero (by have:=hrow.1;simpa using this)
  subst this
  exact (Reverse_none none 0 w).mono fun e w' ⟨he,hw⟩=>⟨he,by rw [hw];exact hrow,by rw [hw];exact Below.refl _ _⟩
 ·rw [enV_map'] at hrow ⊢
  rw [List.map_reverse]
  exact Reverse_row hrow hn
theorem backwards_ok {w:World}{n:Nat}{r:Value}{ts:List En} (hrow:w.ownsRow 0 32 1 r n (ts.map enV)) (hn:n≤100000000) :
  Calls Tryz.prog 218 #[r] w fun e w'=>∃ r',e = .returned r'∧w'.ownsRow w.heap.size 32 1 r' n (ts.reverse.map enV)∧Below w.heap.size w w':=by
 have hc:Aside (Calls Tryz.prog 259 #[r] w fun e w'=>∃ r',e = .returned r'∧w'.ownsRow w.heap.size 32 1 r' n (ts.map enV)∧Below w.heap.size w w'):=aclone_v hrow (fun v hv=>by obtain ⟨x,_,rfl⟩:=List.mem_map.1 hv;rfl) hn
 clear hrow
 go_enter Tryz.func218,Tryz.ntmps218
 go_wp2_with (go_at_call 259;refine Calls.mono hc.out ?_;rintro e w1 ⟨r1,rfl,ow,k1⟩)
 refine Calls.mono (Reverse_any ow hn) ?_
 rintro e w2 ⟨rfl,ow2,k2⟩
 go_wp2_with fail
 go_ret
 exact ⟨r1,rfl,ow2,k1.trans k2⟩
theorem alone_reverseC {C:Nat→Prop}{w0:World}{cs:List (List Int)}{x:IV} (hx:HoldsP (ArrC cs) C w0 (x,none)):AloneG C w0 ⟨#[114,101,118,101,114,115,101]⟩ x (ArrC cs.reverse):=by
 intro w hs hl
 have hx':=hx.move hs hl
 have hCl:=hx'.1
 obtain ⟨_,r,ts,e1,ow,hc,hm,hsum⟩:=hx'.masked
 have kv:KeptV (maskU C w) w:=kept_mask (SameOn.refl _ _)
 simp only at e1
 subst e1
 have hlen:ts.length≤100000000:=by
  have:=len_le_sum (fun t:En=>t.2.2) ts (fun t ht=>by obtain ⟨d,hd,_⟩:=hc t ht;exact hd.pos)
  omega
 have HS:Aside (Calls Tryz.prog 218 #[r] w fun e w'=>∃ r':Value,e = .returned r'∧w'.ownsRow w.heap.size 32 1 r' ts.length (ts.reverse.map enV)∧Below w.heap.size w w'):=backwards_ok (kv.rowV ow) hlen
 clear hx hx' ow
 simp only [iv]
 have HM:∀ w1,Calls Tryz.prog 154 #[.iface 86 r] w1 fun e w'=>e = .returned r∧w'=w1:=fun w1=>must_arr _ w1
 go_enter Tryz.func165,Tryz.ntmps165
 go_wp2_with (first
  | (go_at_call 154;refine (HM _).mono ?_;rintro e w1 ⟨rfl,hw1⟩;subst hw1)
  | (go_at_call 218;refine Calls.mono HS.out ?_;rintro e w2 ⟨r',rfl,ow,k2⟩))
 go_ret
 refine ⟨k2,(86,r'),fun k=>C k∨r'.ownBlock=some k,rfl,holds_made hCl k2 (fun t ht=>hc t (List.mem_reverse.1 ht)) (by rw [List.length_reverse];exact ow) (by rw [List.map_reverse,hm]) ?_,fun j hj=>?_⟩
 ·rw [List.map_reverse,List.sum_reverse_nat]
  exact hsum
 ·rcases hj with hj | hj
  ·exact .inl hj
  ·exact .inr (ow.lt j hj).1
theorem notNamed_reverse:NotNamed ⟨#[114,101,118,101,114,115,101]⟩:=by refine ⟨?_,?_,?_,?_,?_⟩ <;> simp [go_sem]
theorem notGiven_reverse:NotGiven ⟨#[114,101,118,101,114,115,101]⟩:=by refine ⟨?_,?_,?_⟩ <;> simp [go_sem]
theorem ev_reverse {p C:Nat→Prop}{w:World}{kn:Option Addr}{d pos:Int}{x:IV}{cs:List (List Int)} (h:OnC p C w kn x cs):Ev p C w kn d (.call0 ⟨#[114,101,118,101,114,115,101]⟩ pos) (x,none) [ArrC cs.reverse] :=
 ev_alone h.hC h.hp (h.isNone (by kernel_rfl) (by kernel_rfl)) notNamed_reverse notGiven_reverse (alone_reverseC h.hx)
theorem ev_O4 (hC:ComparesStr) {p C:Nat→Prop}{w:World}{kn:Option Addr}{d:Int}{x:IV}{cs:List (List Int)} (h:OnC p C w kn x cs):Ev p C w kn d tO4 (x,none) [BoolP true]:=by
 refine ev_eqC hC h.hp (a:=4 :: listC cs) ?_ (ev_dot h).arr
 refine (ev_pipe1 h.hp (ev_reverse h) (fun w' t G hs hl hP=>?_)).arr
 obtain ⟨e,h'⟩:=h.next hs hl hP (by rw [List.length_reverse];exact h.hn)
 rw [e]
 have:=ev_reverse (d:=d) (pos:=11) h'
 rw [List.reverse_reverse] at this
 exact this
end Go.Proofs.Tryz
