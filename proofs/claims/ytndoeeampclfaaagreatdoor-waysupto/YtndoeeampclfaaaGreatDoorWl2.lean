import Derived.Test.YtndoeeampclfaaaGreatDoorWf5
import Derived.Test.YtndoeeampclfaaaGreatDoorWk8
import Derived.Test.YtndoeeampclfaaaGreatDoorFv2
import Derived.Test.YtndoeeampclfaaaGreatDoorWj4
set_option linter.all false
namespace Go.Proofs.Tryz
set_option maxHeartbeats 16000000
open Go.RowKit
set_option maxRecDepth 100000
theorem Set_ok (hC:ComparesStr) {w:World}{x o z:IV}{p:Option Addr}{n c:Nat}{ss:List IV} (h:AtP w x ss o) (hp:Sl w (.slice p n c) ss) (hn:ss.length=n) (hl:n≤10000) :
  Calls Tryz.prog 161 #[iv x,.slice p n c,iv z] w fun e w'=>∃ y,e = .returned (.tuple #[iv y,.nilIface])∧Put w.heap.size w' x ss z y∧Below w.heap.size w w':=by
 obtain ⟨i0,hi0,hz0,hz1,hz2⟩:=info_parts (show (Tryz.prog.info? 32).map (fun i=>(i.zero,i.size,i.bytes))=some (some .nilIface,1,16) by kernel_rfl)
 obtain ⟨T0,u0⟩:=x
 obtain ⟨To,uo⟩:=o
 obtain ⟨Tz,uz⟩:=z
 have HN:Hid (ss.length=n):=hn
 have HP:Aside (Sl w (.slice p n c) ss):=hp
 have H:Aside (AtP w (T0,u0) ss (To,uo)):=h
 clear hn hp h
 simp only [iv]
 go_enter Tryz.func161,Tryz.ntmps161
 go_wp2_with (refine wpList_make_full _ (by rfl) _ _ 85 (by rfl) w.heap.size 32 i0 .nilIface 1 Tryz.underlying85 hi0 hz0 hz1 .i64 .i64 n n n (by rfl) (by rfl) rfl rfl (by rw [hz2];omega) (by unfold maxLen;omega) (Nat.le_refl _) ?_;intro w1 ow1 gr1)
 have kw1:Below w.heap.size w w1:=(Below.refl _ _).grown gr1 (Nat.le_refl _) (fun q hq=>by cases hq)
 have hl1:((madeCells (Value.cells .nilIface) (n * 1)).toList).length=n:=by have:=ow1.1;simpa using this
 have hgl1:=(ow1.lt w.heap.size rfl).2
 go_loopg [0,18] n (fun k v0 v18 wr=>∃ (hs:List IV) (i T:Nat) (u:Value) (xs:List Value),i+k=n∧v18 = .int .i64 i∧v0 = .iface T u∧Aside (hs.length=i∧xs.length=n∧xs.take i=hs.map iv∧(∀ j x s,hs[j]? = some x→ss[j]? = some s→∃ x1,At1 w x s x1∧(hs ++ [(T,u)])[j+1]? = some x1)∧(hs ++ [(T,u)])[0]? = some (T0,u0)∧AtP w (T,u) (ss.drop i) (To,uo)∧wr.ownsRow w.heap.size 32 1 (.slice (some ⟨w.heap.size,0,none⟩) n n) n xs∧Below w.heap.size w wr))
 case atStart=>exact ⟨[],0,T0,u0,_,by omega,rfl,rfl,rfl,hl1,rfl,fun j x s hx=>by simp at hx,rfl,H.out,ow1,kw1⟩
 case round =>
  obtain ⟨hs,i,T,u,xs,hi,rfl,rfl,HR⟩:=hrel
  have hb:=HR.out.2.2.2.2.2.2.2
  match gk,hi with
  | 0,hi =>
   have hz:¬ (i:Int) < (n:Int):=by omega
   obtain ⟨r1,r2,r3,r4,r5,r6,r7,r8⟩:=HR.out
   have hin:i=n:=by omega
   have hxs:xs=hs.map iv:=by rw [← r3,List.take_of_length_le (by omega)]
   have HB:Aside (Calls Tryz.prog 206 #[.slice (some ⟨w.heap.size,0,none⟩) n n,.slice p n c,.iface Tz uz] wr fun e w'=>∃ y,e = .returned (iv y)∧Below wr.heap.size wr w'∧(∀ x,hs[0]? = some x→Put wr.heap.size w' x ss (Tz,uz) y)∧(n=0→y=(Tz,uz))):=by
    refine rebuilt_ok hC (owns_zero (hxs ▸ r7)) (HP.out.keep (KeptV.of_below r8)) HN.out hl ?_
    intro j x s hx hs'
    obtain ⟨x1,ha,hx1⟩:=r4 j x s hx hs'
    refine ⟨x1,ha.keep (KeptV.of_below r8),?_⟩
    have hj:=(List.getElem?_eq_some_iff.1 hx).1
    by_cases h9:j+1 < hs.length
    ·left
     rw [List.getElem?_append_left h9] at hx1
     exact hx1
    ·right;omega
   clear r3 r4 r5 r6 r7
   go_wp2_with (go_at_call 206;refine Calls.mono HB.out ?_;rintro e w2 ⟨⟨Ty,uy⟩,rfl,k2,hput,hz0⟩)
   refine bodyPost_ret (v:=.tuple #[.iface Ty uy,.nilIface]) (by simp [results,Tryz.results161,go_sem,iv]) rfl ⟨(Ty,uy),rfl,?_,r8.trans (k2.mono r8.size)⟩
   obtain ⟨r1,r2,r3,r4,r5,r6,r7,r8⟩:=HR.out
   by_cases h0:n=0
   ·have hss:ss=[]:=List.length_eq_zero_iff.1 (by rw [HN.out];exact h0)
    rw [hss]
    exact hz0 h0
   ·have h9:0 < hs.length:=by omega
    rw [List.getElem?_append_left h9] at r5
    exact (hput _ r5).low r8.size
  | k+1,hi =>
   have hz:(i:Int) < (n:Int):=by omega
   have z0:(0:Int)≤(i:Int):=by omega
   have hlt:i < ss.length:=by rw [HN.out];omega
   obtain ⟨r1,r2,r3,r4,r5,r6,r7,r8⟩:=HR.out
   obtain ⟨⟨Ts,us⟩,hs'⟩:∃ s,ss[i]? = some s:=⟨_,List.getElem?_eq_getElem hlt⟩
   obtain ⟨a,o,rfl,hla,hc⟩:=HP.out.at hs'
   simp only [iv] at hc
   have f0:=(hb.cell (p:=⟨a,o+i,none⟩) hla).trans hc
   have hA:=r6
   rw [List.drop_eq_getElem_cons hlt,(List.getElem?_eq_some_iff.1 hs').2] at hA
   obtain ⟨⟨Tw,uw⟩,h1,h2⟩:=hA
   have hgl:=(r7.lt w.heap.size rfl).2
   obtain ⟨y,hy⟩:∃ y,xs[i]? = some y:=⟨_,List.getElem?_eq_getElem (by omega)⟩
   have HST:Aside (Calls Tryz.prog 205 #[.iface T u,.iface Ts us] wr fun e w'=>e = .returned (.tuple #[.iface T u,.nilIface])∧Below wr.heap.size wr w'):=settable_ok (h1.keep (KeptV.of_below r8))
   have HAT:Aside (∀ w2,Below wr.heap.size wr w2→Calls Tryz.prog 95 #[.iface T u,.iface Ts us] (w2.setCell ⟨w.heap.size,i,none⟩ (.iface T u)) fun e w'=>e = .returned (.tuple #[.iface Tw uw,.nilIface])∧Below (w2.setCell ⟨w.heap.size,i,none⟩ (.iface T u)).heap.size (w2.setCell ⟨w.heap.size,i,none⟩ (.iface T u)) w'):=fun w2 k2=>At_ok1 hC (h1.keep (KeptV.of_below ((r8.trans (k2.mono r8.size)).setCell (p:=⟨w.heap.size,i,none⟩) (Nat.le_refl _) _)))
   have HC:Aside (∀ w2,Below wr.heap.size wr w2→w2.cell? ⟨w.heap.size,i,none⟩=some y∧w2.frozen? ⟨w.heap.size,i,none⟩=false∧w.heap.size < w2.heap.size):=fun w2 k2=>by
    refine ⟨(k2.cell (p:=⟨w.heap.size,i,none⟩) hgl).trans ((r7.cellAt i (by omega)).trans hy),?_,Nat.lt_of_lt_of_le hgl k2.size⟩
    rcases r7.2 with ⟨e,_⟩ | ⟨g',cap',cur,e,_,hb3,_⟩
    ·cases e
    ·cases e;exact cells_free ((k2.block w.heap.size hgl).trans hb3)
   have H12:Aside (At1 w (T,u) (Ts,us) (Tw,uw)∧AtP w (Tw,uw) (ss.drop (i+1)) (To,uo)):=⟨h1,h2⟩
   have HS':Aside (ss[i]? = some (Ts,us)):=hs'
   clear h1 h2 hs' hc r1 r2 r3 r4 r5 r6 r7 hy
   go_wp2_with (first
    | (go_at_call 205;refine Calls.mono HST.out ?_;rintro e w2 ⟨rfl,k2⟩;obtain ⟨s0,s1,s2⟩:=HC.out w2 k2)
    | (go_at_call 95;refine Calls.mono (HAT.out _ k2) ?_;rintro e w3 ⟨rfl,k3⟩))
   go_roundg k
   case measure=>omega
   case rel =>
    obtain ⟨r1,r2,r3,r4,r5,r6,r7,r8⟩:=HR.out
    obtain ⟨h1,h2⟩:=H12.out
    have hown:=((owns_same r7 (fun b hb'=>k2.block b (r7.lt b hb').2)).stored i (.iface T u)).1
    have hk:Below w.heap.size w (w2.setCell ⟨w.heap.size,i,none⟩ (.iface T u)):=(r8.trans (k2.mono r8.size)).setCell (p:=⟨w.heap.size,i,none⟩) (Nat.le_refl _) _
    refine ⟨hs ++ [(T,u)],i+1,Tw,uw,xs.set i (.iface T u),by omega,by simp,rfl,?_,?_,?_,?_,?_,h2,owns_same hown (fun b hb'=>k3.block b (hown.lt b hb').2),hk.trans (k3.mono hk.size)⟩
    ·simp [r1]
    ·simp [r2]
    ·rw [List.take_set,List.take_succ_eq_append_getElem (by omega),List.set_append_right _ _ (by rw [List.length_take];omega),List.length_take,Nat.min_eq_left (by omega),Nat.sub_self,r3]
     simp [iv]
    ·intro j x s hx hs'
     by_cases hj:j < hs.length
     ·rw [List.getElem?_append_left hj] at hx
      obtain ⟨x1,ha,hx1⟩:=r4 j x s hx hs'
      exact ⟨x1,ha,by rw [List.getElem?_append_left (by simp;omega)];exact hx1⟩
     ·have hj2:j=hs.length:=by
       have:=(List.getElem?_eq_some_iff.1 hx).1
       simp at this;omega
      subst hj2
      simp at hx
      subst hx
      rw [r1,HS'.out] at hs'
      cases hs'
      exact ⟨_,h1,by simp⟩
    ·rw [List.getElem?_append_left (by simp)]
     exact r5
end Go.Proofs.Tryz
namespace Go.Proofs.Tryz
set_option maxHeartbeats 16000000
open Go.RowKit
set_option maxRecDepth 10000
def AlongG (C:Nat→Prop) (w0:World) (x:IV) (P Q:SP):Prop:=∀ w t G,SameOn C w0 w→w0.heap.size≤w.heap.size→HoldsP P G w t→
 Calls Tryz.prog 116 #[.agg #[iv x,.pointer none],iv t.1] w fun e w'=>Below w.heap.size w w'∧∃ y G',e = .returned (spv (y,none))∧HoldsP Q G' w' (y,none)∧∀ k,G' k→C k∨G k∨w.heap.size≤k
theorem enters_named2:Enters Tryz.prog 115:=enters_of Tryz.func115 (by kernel_rfl) rfl
theorem to_along {C:Nat→Prop}{w0 w:World}{sb:Nat}{x:IV}{P Q:SP} (h:AlongG C w0 x P Q) (hx:SpotB w sb (x,none)) (hC:∀ k,C k→k < w0.heap.size) (hs:SameOn C w0 w) (hl:w0.heap.size≤w.heap.size) :
  ToG (fun k=>C k∨k=sb) w (.func (.func 115) #[] #[.pointer (some ⟨sb,0,none⟩)]) P Q:=by
 have hxl:=hx.lt
 refine ⟨_,_,rfl,enters_named2,by grind,?_⟩
 intro w' t G hs' hl' hP
 have hs0:SameOn C w0 w':=hs.trans (hs'.mono (fun _ h=>.inl h))
 have hGl0:=hP.1
 have hx':=hx.same (hs' sb (by simp))
 have H:∀ w1,Below w'.heap.size w' w1→Calls Tryz.prog 116 #[.agg #[iv x,.pointer none],iv t.1] w1 fun e w2=>Below w1.heap.size w1 w2∧∃ y G',e = .returned (spv (y,none))∧HoldsP Q G' w2 (y,none)∧∀ k,G' k→C k∨G k∨w1.heap.size≤k:=fun w1 k=>h w1 t G (hs0.trans (fun j hj=>k.block j (by have:=hC j hj;omega))) (by have:=k.size;omega) (hP.move (fun j hj=>k.block j (hP.1 j hj)) k.size)
 clear h hP
 obtain ⟨T,u⟩:=x
 obtain ⟨⟨T1,u1⟩,q1⟩:=t
 obtain ⟨x0,x1,_,_,x4⟩:=hx'.facts
 simp only [iv,spv] at H ⊢
 go_enter Tryz.func115,Tryz.ntmps115
 go_wp2_with (go_at_call 116;refine (H _ (below_alloc2 w' _ _)).mono ?_;rintro e w1 ⟨k1,⟨Ty,uy⟩,G',rfl,hQ,hG'⟩;have qb:SpotBox w1 (w'.heap.size+1) .nilIface:=SpotBox.same (heap_new2' w' _ _) (k1.block _ (by simp));obtain ⟨q0,q1',q2,q3,q4⟩:=qb.facts)
 simp only [World.size_alloc] at hG'
 have hl1:w'.heap.size+1+1≤w1.heap.size:=by have:=k1.size;simpa using this
 refine bodyPost_ret (v:=.agg #[.iface Ty uy,.pointer none]) (by simp [results,Tryz.results115,go_sem,q4,q0,q1']) rfl ⟨?_,((Ty,uy),none),G',rfl,hQ.after (X:=(· = w'.heap.size+1)) (((Fr.refl (· = w'.heap.size+1) w1).setCell _ (.inl rfl)).setCell _ (.inl rfl)) ?_,by grind⟩
 ·exact ((((below_alloc2 w' _ _).trans (k1.mono (by simp;omega))).setCell (by simp) _).setCell (by simp) _)
 ·have hCl:∀ k,C k→k < w'.heap.size:=fun k hk=>by have:=hC k hk;omega
  have hGl:∀ k,G k→k < w'.heap.size:=hGl0
  grind
theorem named_getpath {C:Nat→Prop}{w0 w:World}{kn:Option Addr}{d:Int}{b n c ad ao T1 b1:Nat}{name:ByteArray}{x:IV}{Lo:List (SP×SP)} (hb:C b) (c0:w0.cell? ⟨b,0,none⟩=some (.string name)) (c1:w0.cell? ⟨b,1,none⟩=some (.slice (some ⟨ad,ao,none⟩) 1 c)) (ha:C ad) (c2:w0.cell? ⟨ad,ao,none⟩=some (.iface T1 (.pointer (some ⟨b1,0,none⟩)))) (hF:FindIs C w0 2 name 1 n kn none) (hN:(name.toList == [103,101,116,112,97,116,104])=true) (hN1:(name.toList == [101,109,112,116,121])=false) (hN2:(name.toList == [101,114,114,111,114])=false) (hN3:(name.toList == [102,105,114,115,116])=false) (hN4:(name.toList == [108,105,109,105,116])=false) (hs:SameOn C w0 w) (hl:w0.heap.size≤w.heap.size)
  (hO:OpensG C w0 (.iface T1 (.pointer (some ⟨b1,0,none⟩))) kn d (x,none) (Lo.map (·.1))) (hA:∀ y∈Lo,AlongG C w0 x y.1 y.2) :
  Calls Tryz.prog 63 #[.agg #[.pointer kn,.int .i64 d],.pointer (some ⟨b,0,none⟩),.agg #[iv x,.pointer none]] w (MadeC (Lo.map (·.2)) C w):=by
 obtain ⟨hC,hO⟩:=hO
 have n0:=hs.cell hb c0
 have n1:=hs.cell hb c1
 have n2:=hs.cell ha c2
 have n3:b < w.heap.size:=by have:=hC b hb;omega
 have n4:ad < w.heap.size:=by have:=hC ad ha;omega
 have hf:∀ w1,Below w.heap.size w w1→Calls Tryz.prog 55 #[.pointer kn,.int .u8 2,.string name,.int .i64 1] w1 fun e w'=>e = .returned (.pointer none)∧Below w1.heap.size w1 w':=fun w1 k=>kfind_ok (hF.move (C':=C) (hs.trans (fun j hj=>k.block j (by have:=hC j hj;omega))) (fun _ h=>h))
 have HA:=hA
 clear hA
 obtain ⟨T,u⟩:=x
 have HO:∀ w1,Below w.heap.size w w1→Calls Tryz.prog 22 #[.agg #[.pointer kn,.int .i64 d],.iface T1 (.pointer (some ⟨b1,0,none⟩)),.agg #[.iface T u,.pointer none]] w1 (MadeC (Lo.map (·.1)) C w1):=fun w1 k=>hO _ (hs.trans (fun j hj=>k.block j (Nat.lt_of_lt_of_le (hC j hj) hl))) (Nat.le_trans hl k.size)
 simp only [iv]
 clear hO
 go_enter Tryz.func63,Tryz.ntmps63
 go_wp2_with fail
 obtain ⟨wA,hA,kW,wp,wf,wx,wl⟩:=three_boxes w kn d (.pointer (some ⟨b,0,none⟩)) 169 ((T,u),none)
 simp only [iv] at hA
 obtain ⟨x0,x1,_,_,x4⟩:=wx.facts
 have a0:=wp.c0
 have a1:=wp.c1
 have a2:=wf.cell
 have a3:=(kW.cell (p:=⟨b,0,none⟩) n3).trans n0
 have a4:=(kW.cell (p:=⟨b,1,none⟩) n3).trans n1
 have a5:=(kW.cell (p:=⟨ad,ao,none⟩) n4).trans n2
 have s0:=eight ((Below.refl _ wA).drew) a0 a1 a2 a3 a4 x0 x1 a5
 rw [← hA]
 clear hA
 go_region_held3 (fun w'=>w'.cell? ⟨w.heap.size,0,none⟩=some (.pointer kn)∧w'.cell? ⟨w.heap.size,1,none⟩=some (.int .i64 d)∧w'.cell? ⟨w.heap.size+1,0,none⟩=some (.pointer (some ⟨b,0,none⟩))∧w'.cell? ⟨b,0,none⟩=some (.string name)∧w'.cell? ⟨b,1,none⟩=some (.slice (some ⟨ad,ao,none⟩) 1 c)∧w'.cell? ⟨w.heap.size+2,0,none⟩=some (.iface T u)∧w'.cell? ⟨w.heap.size+2,1,none⟩=some (.pointer none)∧w'.cell? ⟨ad,ao,none⟩=some (.iface T1 (.pointer (some ⟨b1,0,none⟩)))) (first | exact s0 | exact e4 | go_keep)
  (first | (go_at_call 55;refine (hf _ kW.drew).mono ?_;rintro e w1 ⟨rfl,k1⟩;have kX:Below wA.heap.size wA w1:=(Below.refl _ _).drew.trans (k1.mono (by simp));have e4:=eight kX a0 a1 a2 a3 a4 x0 x1 a5))
 all_goals
  obtain ⟨b0,b1',b2,b3,b4,b5,b6,b7⟩:=e4
  have hXs:=kX.size
  have hWs:=kW.size
  have hl1:w.heap.size+2 < w1.heap.size:=by omega
  have hl2:b < w1.heap.size:=by omega
  have hl3:ad < w1.heap.size:=by omega
  have kA:=kW.trans (kX.mono kW.size)
  go_wp2_with fail
  have t0:=eight ((Below.refl _ w1).drew) b0 b1' b2 b3 b4 b5 b6 b7
  have HT:∀ w5,Below w1.heap.size w1 w5→∀ y∈Lo,ToG (fun k=>C k∨k=w.heap.size+2) w5 (.func (.func 115) #[] #[.pointer (some ⟨w.heap.size+2,0,none⟩)]) y.1 y.2:=fun w5 k y hy=>by
   have k5:=kX.trans (k.mono kX.size)
   have k6:=kW.trans (k5.mono kW.size)
   exact to_along (HA y hy) (wx.same (k5.block _ wx.lt)) hC (hs.trans (fun j hj=>k6.block j (by have:=hC j hj;omega))) (by have:=k6.size;omega)
  go_region_held3 (fun w'=>w'.cell? ⟨w.heap.size,0,none⟩=some (.pointer kn)∧w'.cell? ⟨w.heap.size,1,none⟩=some (.int .i64 d)∧w'.cell? ⟨w.heap.size+1,0,none⟩=some (.pointer (some ⟨b,0,none⟩))∧w'.cell? ⟨b,0,none⟩=some (.string name)∧w'.cell? ⟨b,1,none⟩=some (.slice (some ⟨ad,ao,none⟩) 1 c)∧w'.cell? ⟨w.heap.size+2,0,none⟩=some (.iface T u)∧w'.cell? ⟨w.heap.size+2,1,none⟩=some (.pointer none)∧w'.cell? ⟨ad,ao,none⟩=some (.iface T1 (.pointer (some ⟨b1,0,none⟩)))) (first | exact t0 | exact f4 | exact g4 | exact h4 | go_keep)
   (first
    | (go_at_call 50;refine plain_ok.mono ?_;rintro e w2 ⟨rfl,k2⟩;have kY:Below w1.heap.size w1 w2:=(Below.refl _ _).drew.trans (k2.mono (by simp));have f4:=eight kY b0 b1' b2 b3 b4 b5 b6 b7;have kB:=kA.trans (kY.mono kA.size))
    | (go_at_call 22;refine (HO _ kB).mono ?_;rintro e w3 ⟨k3,K,cap,rfl,F,D,hS,hFF,hDD⟩;have kZ:=kY.trans (k3.mono kY.size);have g4:=eight kZ b0 b1' b2 b3 b4 b5 b6 b7;have hYs:=kY.size;have hZs:=kZ.size)
    | (go_at_call 45;refine (mapped_okg (C:=fun k=>C k∨k=w.heap.size+2) hS ⟨_,_,rfl⟩ (by grind) (HT w3 kZ) (by grind)).mono ?_;rintro e w4 ⟨k4,K2,cap2,F2,rfl,hS2,hF2⟩;have h4:=eight (kZ.trans (k4.mono kZ.size)) b0 b1' b2 b3 b4 b5 b6 b7))
  all_goals
   go_wp2_with fail
   go_ret
   exact .mk' (kA.trans ((kZ.trans (k4.mono kZ.size)).mono kA.size)) hS2 (by grind) (by grind)
end Go.Proofs.Tryz
namespace Go.Proofs.Tryz
set_option maxHeartbeats 16000000
open Go.RowKit
set_option maxRecDepth 10000
theorem rooted_ok {w:World}{x:IV}:Calls Tryz.prog 155 #[iv x] w fun e w'=>∃ q,e = .returned (spv (x,some ⟨q,0,none⟩))∧Below w.heap.size w w'∧w.heap.size≤q∧w'.heap[q]? = some (.cells #[.pointer none,.nilIface,.int .i64 0] 263 (0,0)):=by
 obtain ⟨T,u⟩:=x
 simp only [spv,iv]
 go_enter Tryz.func155,Tryz.ntmps155
 go_wp2_with fail
 exact bodyPost_ret (v:=.agg #[.iface T u,.pointer (some ⟨w.heap.size+1,0,none⟩)]) (by simp [results,Tryz.results155,go_sem]) rfl ⟨w.heap.size+1,rfl,below_alloc2 w _ _,by omega,heap_new2' w _ _⟩
theorem HoldsP.root {w:World}{q:Nat}{x:IV} (h:w.heap[q]? = some (.cells #[.pointer none,.nilIface,.int .i64 0] 263 (0,0))):HoldsP (NodeP true (x,[])) (· = q) w (x,some ⟨q,0,none⟩) :=
 ⟨fun k hk=>by subst hk;exact lt_of_block h,fun w' hs _=>⟨rfl,q,rfl,(hs q rfl).trans h⟩⟩
def PathA (ss:List IV):SP:=fun w s=>s.2=none∧∃ v,s.1=(86,v)∧w.ownsRow 0 32 1 v ss.length (ss.map iv)
theorem enters_given1:Enters Tryz.prog 156:=enters_of Tryz.func156 (by kernel_rfl) rfl
theorem to_array {w:World}{n:Node} (hn:n.2.length≤10000):ToG (fun _=>False) w (.func (.func 156) #[] #[]) (NodeP true n) (PathA n.2.reverse):=by
 refine ⟨_,_,rfl,enters_given1,fun _ h=>h.elim,?_⟩
 intro w' t G _ hl' hP
 obtain ⟨⟨T,u⟩,q⟩:=t
 have H:∀ w1,Below w'.heap.size w' w1→Calls Tryz.prog 157 #[.pointer q] w1 fun e w2=>e = .returned (.slice (some ⟨w1.heap.size,0,none⟩) n.2.length n.2.length)∧w2.ownsRow w1.heap.size 32 1 (.slice (some ⟨w1.heap.size,0,none⟩) n.2.length n.2.length) n.2.length (n.2.reverse.map iv)∧Below w1.heap.size w1 w2:=fun w1 k=>array_ok (hP.move (fun j hj=>k.block j (hP.1 j hj)) k.size).here.2 rfl (by omega)
 clear hP
 simp only [spv,iv]
 go_enter Tryz.func156,Tryz.ntmps156
 go_wp2_with (go_at_call 157;refine (H _ (below_alloc2 w' _ _)).mono ?_;rintro e w1 ⟨rfl,ow,k1⟩;have qb:SpotBox w1 (w'.heap.size+1) .nilIface:=SpotBox.same (heap_new2' w' _ _) (k1.block _ (by simp));obtain ⟨q0,q1',q2,q3,q4⟩:=qb.facts)
 simp only [World.size_alloc] at ow k1
 have hl1:=k1.size
 have kend:Fr (· = w'.heap.size+1) w1 ((w1.setCell ⟨w'.heap.size+1,0,none⟩ (.iface 86 (.slice (some ⟨w'.heap.size+1+1,0,none⟩) n.2.length n.2.length))).setCell ⟨w'.heap.size+1,1,none⟩ (.pointer none)):=((Fr.refl (· = w'.heap.size+1) w1).setCell _ (.inl rfl)).setCell _ (.inl rfl)
 have hown:∀ k,some k=(Value.slice (some ⟨w'.heap.size+1+1,0,none⟩) n.2.length n.2.length).ownBlock→k=w'.heap.size+1+1:=fun k hk=>by simpa [Value.ownBlock] using hk
 refine bodyPost_ret (v:=.agg #[.iface 86 (.slice (some ⟨w'.heap.size+1+1,0,none⟩) n.2.length n.2.length),.pointer none]) (by simp [results,Tryz.results156,go_sem,q4,q0,q1']) rfl ⟨?_,((86,.slice (some ⟨w'.heap.size+1+1,0,none⟩) n.2.length n.2.length),none),fun k=>k=w'.heap.size+1+1,rfl,⟨?_,fun w'' hs'' _=>⟨rfl,_,rfl,?_⟩⟩,by grind⟩
 ·exact ((((below_alloc2 w' _ _).trans (k1.mono (by omega))).setCell (by simp) _).setCell (by simp) _)
 ·rintro k rfl
  have:=(ow.lt (w'.heap.size+1+1) rfl).2
  simpa using this
 ·rw [List.length_reverse]
  exact owns_low0 (owns_same ow (fun j hj=>by
   have:=hown j hj.symm
   subst this
   exact (hs'' _ rfl).trans (kend.block _ (ow.lt _ rfl).2 (by omega))))
def RootG (C:Nat→Prop) (w0:World) (fv:Value) (kn:Option Addr) (d:Int) (x:IV) (Ls:List SP):Prop:=∀ w q,SameOn C w0 w→w0.heap.size≤w.heap.size→w.heap[q]? = some (.cells #[.pointer none,.nilIface,.int .i64 0] 263 (0,0))→OpensG (fun k=>C k∨k=q) w fv kn d (x,some ⟨q,0,none⟩) Ls
theorem given_path {C:Nat→Prop}{w0 w:World}{kn:Option Addr}{d:Int}{b c ad ao T1 b1:Nat}{name:ByteArray}{x:IV}{L:List Node} (hC:∀ k,C k→k < w0.heap.size) (hb:C b) (c0:w0.cell? ⟨b,0,none⟩=some (.string name)) (c1:w0.cell? ⟨b,1,none⟩=some (.slice (some ⟨ad,ao,none⟩) 1 c)) (ha:C ad) (c2:w0.cell? ⟨ad,ao,none⟩=some (.iface T1 (.pointer (some ⟨b1,0,none⟩)))) (hN:(name.toList == [112,97,116,104])=true) (hs:SameOn C w0 w) (hl:w0.heap.size≤w.heap.size)
  (hO:RootG C w0 (.iface T1 (.pointer (some ⟨b1,0,none⟩))) kn d x (L.map (NodeP true))) (hL:∀ n∈L,n.2.length≤10000) :
  Calls Tryz.prog 117 #[.agg #[.pointer kn,.int .i64 d],.pointer (some ⟨b,0,none⟩),.agg #[iv x,.pointer none]] w (MadeC (L.map fun n=>PathA n.2.reverse) C w):=by
 have n0:=hs.cell hb c0
 have n1:=hs.cell hb c1
 have n2:=hs.cell ha c2
 have n3:b < w.heap.size:=by have:=hC b hb;omega
 have n4:ad < w.heap.size:=by have:=hC ad ha;omega
 obtain ⟨T,u⟩:=x
 have HO:∀ w1 q,Below w.heap.size w w1→w1.heap[q]? = some (.cells #[.pointer none,.nilIface,.int .i64 0] 263 (0,0))→Calls Tryz.prog 22 #[.agg #[.pointer kn,.int .i64 d],.iface T1 (.pointer (some ⟨b1,0,none⟩)),.agg #[.iface T u,.pointer (some ⟨q,0,none⟩)]] w1 (MadeC (L.map (NodeP true)) (fun k=>C k∨k=q) w1):=fun w1 q k hq=>(hO w1 q (hs.trans (fun j hj=>k.block j (Nat.lt_of_lt_of_le (hC j hj) hl))) (Nat.le_trans hl k.size) hq).2 w1 (SameOn.refl _ _) (Nat.le_refl _)
 have HR:∀ w1,Calls Tryz.prog 155 #[.iface T u] w1 fun e w'=>∃ q,e = .returned (.agg #[.iface T u,.pointer (some ⟨q,0,none⟩)])∧Below w1.heap.size w1 w'∧w1.heap.size≤q∧w'.heap[q]? = some (.cells #[.pointer none,.nilIface,.int .i64 0] 263 (0,0)):=fun w1=>rooted_ok (x:=(T,u))
 simp only [iv]
 clear hO
 have kW0:=below_alloc3 w (.cells #[.pointer kn,.int .i64 d] 71) (.cells #[.pointer (some ⟨b,0,none⟩)] 169) (.cells #[.iface T u,.pointer none] 75)
 have wn0:=(kW0.cell (p:=⟨b,0,none⟩) n3).trans n0
 have wn1:=(kW0.cell (p:=⟨b,1,none⟩) n3).trans n1
 clear kW0
 go_enter Tryz.func117,Tryz.ntmps117
 go_wp2_with fail
 obtain ⟨wA,hA,kW,wp,wf,wx,wl⟩:=three_boxes w kn d (.pointer (some ⟨b,0,none⟩)) 169 ((T,u),none)
 simp only [iv] at hA
 obtain ⟨x0,x1,_,_,x4⟩:=wx.facts
 have a0:=wp.c0
 have a1:=wp.c1
 have a2:=wf.cell
 have a3:=(kW.cell (p:=⟨b,0,none⟩) n3).trans n0
 have a4:=(kW.cell (p:=⟨b,1,none⟩) n3).trans n1
 have a5:=(kW.cell (p:=⟨ad,ao,none⟩) n4).trans n2
 have s0:=eight ((Below.refl _ wA).drew) a0 a1 a2 a3 a4 x0 x1 a5
 have e1:(L.map fun n=>(NodeP true n,PathA n.2.reverse)).map (·.1)=L.map (NodeP true):=by rw [List.map_map];rfl
 have e2:(L.map fun n=>(NodeP true n,PathA n.2.reverse)).map (·.2)=L.map (fun n=>PathA n.2.reverse):=by rw [List.map_map];rfl
 rw [← e1] at HO
 have E2:Hid ((L.map fun n=>(NodeP true n,PathA n.2.reverse)).map (·.2)=L.map (fun n=>PathA n.2.reverse)):=e2
 have HT:∀ w1,∀ y∈(L.map fun n=>(NodeP true n,PathA n.2.reverse)),ToG (fun _=>False) w1 (.func (.func 156) #[] #[]) y.1 y.2:=fun w1 y hy=>by
  obtain ⟨n,hn,rfl⟩:=List.mem_map.1 hy
  exact to_array (hL n hn)
 clear e1 e2
 rw [← hA]
 clear hA wn0 wn1
 go_region_held3 (fun w'=>w'.cell? ⟨w.heap.size,0,none⟩=some (.pointer kn)∧w'.cell? ⟨w.heap.size,1,none⟩=some (.int .i64 d)∧w'.cell? ⟨w.heap.size+1,0,none⟩=some (.pointer (some ⟨b,0,none⟩))∧w'.cell? ⟨b,0,none⟩=some (.string name)∧w'.cell? ⟨b,1,none⟩=some (.slice (some ⟨ad,ao,none⟩) 1 c)∧w'.cell? ⟨w.heap.size+2,0,none⟩=some (.iface T u)∧w'.cell? ⟨w.heap.size+2,1,none⟩=some (.pointer none)∧w'.cell? ⟨ad,ao,none⟩=some (.iface T1 (.pointer (some ⟨b1,0,none⟩)))) (first | exact s0 | exact e4 | exact f4 | exact g4 | go_keep)
  (first
   | (go_at_call 155;refine (HR _).mono ?_;rintro e w1 ⟨q,rfl,k1,hq,hqb⟩;have kX:Below wA.heap.size wA w1:=(Below.refl _ _).drew.trans (k1.mono (by simp));have e4:=eight kX a0 a1 a2 a3 a4 x0 x1 a5;have kA:=kW.trans (kX.mono kW.size);have hq':wA.heap.size≤q:=hq)
   | (go_at_call 22;refine (HO _ q kA hqb).mono ?_;rintro e w2 ⟨k2,K,cap,rfl,F,D,hS,hF,hD⟩;have kY:=kX.trans (k2.mono kX.size);have f4:=eight kY a0 a1 a2 a3 a4 x0 x1 a5)
   | (go_at_call 45;refine (mapped_okg (C:=fun _=>False) hS ⟨_,_,rfl⟩ (fun _ h=>h.elim) (HT w2) (fun _ h=>h.elim)).mono ?_;rintro e w3 ⟨k3,K3,cap3,F3,rfl,hS3,hF3⟩;have g4:=eight (kY.trans (k3.mono kY.size)) a0 a1 a2 a3 a4 x0 x1 a5))
 all_goals
  go_wp2_with fail
  go_ret
  rw [E2.out] at hS3
  have hXs:=kX.size
  have hYs:=kY.size
  have hAs:=kA.size
  exact .mk' (kW.trans ((kY.trans (k3.mono kY.size)).mono kW.size)) hS3 (by grind) (by grind)
end Go.Proofs.Tryz
namespace Go.Proofs.Tryz
set_option maxHeartbeats 16000000
open Go.RowKit
set_option maxRecDepth 10000
def SetG (C:Nat→Prop) (w0:World) (x:IV) (P Q R:SP):Prop:=∀ w t s G G',SameOn C w0 w→w0.heap.size≤w.heap.size→HoldsP P G w t→HoldsP Q G' w s→
 ∃ r,t.1=(86,r)∧Calls Tryz.prog 161 #[iv x,r,iv s.1] w fun e w'=>Below w.heap.size w w'∧∃ z G'',e = .returned (.tuple #[iv z,.nilIface])∧HoldsP R G'' w' (z,none)∧∀ k,G'' k→C k∨G k∨G' k∨w.heap.size≤k
theorem enters_given21:Enters Tryz.prog 160:=enters_of Tryz.func160 (by kernel_rfl) rfl
theorem enters_given2:Enters Tryz.prog 159:=enters_of Tryz.func159 (by kernel_rfl) rfl
theorem vg_set {C G:Nat→Prop}{sb tb:Nat}{w0 w:World}{x:IV}{t:Sp}{P Q R:SP} (h:SetG C w0 x P Q R) (hP:HoldsP P G w t) (hx:SpotB w sb (x,none)) (ht:SpotB w tb t) (hC:∀ k,C k→k < w0.heap.size) (hs:SameOn C w0 w) (hl:w0.heap.size≤w.heap.size) :
  VG (fun k=>C k∨G k∨k=sb∨k=tb) w (.func (.func 160) #[] #[.pointer (some ⟨sb,0,none⟩),.pointer (some ⟨tb,0,none⟩)]) Q R:=by
 have hxl:=hx.lt
 have htl:=ht.lt
 have hPl:=hP.1
 refine ⟨_,_,rfl,enters_given21,by grind,?_⟩
 intro w' s G' hs' hl' hQ
 have hs0:SameOn C w0 w':=hs.trans (hs'.mono (fun _ h=>.inl h))
 have hx':=hx.same (hs' sb (by simp))
 have ht':=ht.same (hs' tb (by simp))
 have hP':=hP.move (hs'.mono (fun _ h=>.inr (.inl h))) hl'
 obtain ⟨r,hr,-⟩:=h w' t s G G' hs0 (Nat.le_trans hl hl') hP' hQ
 have H:∀ w1,Below w'.heap.size w' w1→Calls Tryz.prog 161 #[iv x,r,iv s.1] w1 fun e w2=>Below w1.heap.size w1 w2∧∃ z G'',e = .returned (.tuple #[iv z,.nilIface])∧HoldsP R G'' w2 (z,none)∧∀ k,G'' k→C k∨G k∨G' k∨w1.heap.size≤k:=fun w1 k=>by
  obtain ⟨r',hr',h'⟩:=h w1 t s G G' (hs0.trans (fun j hj=>k.block j (by have:=hC j hj;omega))) (by have:=k.size;omega) (hP'.move (fun j hj=>k.block j (hP'.1 j hj)) k.size) (hQ.move (fun j hj=>k.block j (hQ.1 j hj)) k.size)
  rw [hr] at hr'
  cases hr'
  exact h'
 clear hP hP' hQ h
 obtain ⟨T,u⟩:=x
 obtain ⟨t1,q⟩:=t
 simp only at hr
 subst hr
 obtain ⟨⟨T1,u1⟩,q1⟩:=s
 obtain ⟨x0,x1,_,_,x4⟩:=hx'.facts
 obtain ⟨t0,t1,_,_,t4⟩:=ht'.facts
 simp only [iv] at H ⊢
 go_enter Tryz.func160,Tryz.ntmps160
 go_wp2_with fail
 have s0:=tri ((Below.refl _ w').drew) x0 t0 x0
 have HM:∀ w1,Calls Tryz.prog 154 #[.iface 86 r] w1 fun e w'=>e = .returned r∧w'=w1:=fun w1=>must_arr r w1
 go_region_held3 (fun w1=>w1.cell? ⟨sb,0,none⟩=some (.iface T u)∧w1.cell? ⟨tb,0,none⟩=some (.iface 86 r)∧w1.cell? ⟨sb,0,none⟩=some (.iface T u)) (first | exact s0 | exact e4 | go_keep)
  (first
   | (go_at_call 154;refine (HM _).mono ?_;rintro e w2 ⟨rfl,rfl⟩)
   | (go_at_call 161;refine (H _ (Below.refl _ _).drew).mono ?_;rintro e w1 ⟨k1,⟨T2,u2⟩,G'',rfl,hR,hG''⟩;have kX:Below w'.heap.size w' w1:=(Below.refl _ _).drew.trans (k1.mono (by simp));have e4:=tri kX x0 t0 x0;have hG':∀ k,G'' k→C k∨G k∨G' k∨w'.heap.size≤k:=hG'')
   | (go_at_call 94;refine sure_none.mono ?_;rintro e w2 ⟨rfl,rfl⟩))
 all_goals
  go_wp2_with fail
  go_ret
  exact ⟨kX,(T2,u2),G'',rfl,hR,by grind⟩
theorem then_set {C:Nat→Prop}{pb fb sb b c ad ao T1 b1:Nat}{w0 w:World}{kn:Option Addr}{d:Int}{x:IV}{P Q R:SP} (hp:PlaceBox w pb kn d) (hf:Box w fb (.pointer (some ⟨b,0,none⟩)) 169) (hx:SpotB w sb (x,none)) (hb:C b) (c1:w0.cell? ⟨b,1,none⟩=some (.slice (some ⟨ad,ao,none⟩) 2 c)) (ha:C ad) (c2:w0.cell? ⟨ad,ao+1,none⟩=some (.iface T1 (.pointer (some ⟨b1,0,none⟩)))) (hO:OpensG C w0 (.iface T1 (.pointer (some ⟨b1,0,none⟩))) kn d (x,none) [Q]) (h:SetG C w0 x P Q R) (hs:SameOn C w0 w) (hl:w0.heap.size≤w.heap.size) :
  ThenG (fun k=>C k∨k=pb∨k=fb∨k=sb) w (.func (.func 159) #[] #[.pointer (some ⟨pb,0,none⟩),.pointer (some ⟨fb,0,none⟩),.pointer (some ⟨sb,0,none⟩)]) P [R]:=by
 obtain ⟨hC,hO⟩:=hO
 have hpl:=hp.lt
 have hfl:=hf.lt
 have hxl:=hx.lt
 refine ⟨_,_,rfl,enters_given2,by grind,?_⟩
 intro w' t G hs' hl' hP
 have hs0:SameOn C w0 w':=hs.trans (hs'.mono (fun _ h=>.inl h))
 have hp':=hp.same (hs' pb (by simp))
 have hf':=hf.same (hs' fb (by simp))
 have hx':=hx.same (hs' sb (by simp))
 have p0:=hp'.c0
 have p1:=hp'.c1
 have p2:=hp'.lt
 have f0:=hf'.cell
 have f2:=hf'.lt
 have n1:=hs0.cell hb c1
 have n2:=hs0.cell ha c2
 have n3:b < w'.heap.size:=by have:=hC b hb;omega
 have n4:ad < w'.heap.size:=by have:=hC ad ha;omega
 have hGl:=hP.1
 obtain ⟨⟨Tx,ux⟩,qx⟩:=t
 obtain ⟨wA,hA⟩:∃ wA,wA=w'.alloc (.cells #[.iface Tx ux,.pointer qx] 75):=⟨_,rfl⟩
 have kW:Below w'.heap.size w' wA:=hA ▸ below_alloc w' _
 have wx:SpotB wA w'.heap.size ((Tx,ux),qx):=hA ▸ SpotB.new w' ((Tx,ux),qx)
 have wl:wA.heap.size=w'.heap.size+1:=by rw [hA];simp
 have HO:Calls Tryz.prog 22 #[.agg #[.pointer kn,.int .i64 d],.iface T1 (.pointer (some ⟨b1,0,none⟩)),spv (x,none)] wA.drew (MadeC [Q] C wA.drew):=hO _ (hs0.trans (fun j hj=>kW.drew.block j (by have:=hC j hj;omega))) (by have:=kW.size;simp;omega)
 have HV:∀ w1,Below wA.heap.size wA w1→VG (fun k=>C k∨G k∨k=sb∨k=w'.heap.size) w1 (.func (.func 160) #[] #[.pointer (some ⟨sb,0,none⟩),.pointer (some ⟨w'.heap.size,0,none⟩)]) Q R:=fun w1 k=>by
  have k2:=kW.trans (k.mono kW.size)
  exact vg_set h (hP.move (fun j hj=>k2.block j (hGl j hj)) k2.size) (hx'.same (k2.block _ hx'.lt)) (wx.same (k.block _ wx.lt)) hC (hs0.trans (fun j hj=>k2.block j (by have:=hC j hj;omega))) (by have:=k2.size;omega)
 obtain ⟨T,u⟩:=x
 obtain ⟨x0,x1,_,_,x4⟩:=(hx'.same (kW.block _ hx'.lt)).facts
 simp only [spv,iv] at HO ⊢
 have a0:=(kW.cell (p:=⟨pb,0,none⟩) p2).trans p0
 have a1:=(kW.cell (p:=⟨pb,1,none⟩) p2).trans p1
 have a2:=(kW.cell (p:=⟨fb,0,none⟩) f2).trans f0
 have a3:=(kW.cell (p:=⟨b,1,none⟩) n3).trans n1
 have a4:=(kW.cell (p:=⟨ad,ao+1,none⟩) n4).trans n2
 have s0:=eight ((Below.refl _ wA).drew) a0 a1 a2 a3 a4 x0 x1 x0
 clear hO hP h
 go_enter Tryz.func159,Tryz.ntmps159
 go_wp2_with fail
 rw [← hA]
 clear hA
 go_region_held3 (fun w1=>w1.cell? ⟨pb,0,none⟩=some (.pointer kn)∧w1.cell? ⟨pb,1,none⟩=some (.int .i64 d)∧w1.cell? ⟨fb,0,none⟩=some (.pointer (some ⟨b,0,none⟩))∧w1.cell? ⟨b,1,none⟩=some (.slice (some ⟨ad,ao,none⟩) 2 c)∧w1.cell? ⟨ad,ao+1,none⟩=some (.iface T1 (.pointer (some ⟨b1,0,none⟩)))∧w1.cell? ⟨sb,0,none⟩=some (.iface T u)∧w1.cell? ⟨sb,1,none⟩=some (.pointer none)∧w1.cell? ⟨sb,0,none⟩=some (.iface T u)) (first | exact s0 | exact e4 | exact f4 | go_keep)
   (first
    | (go_at_call 22;refine HO.mono ?_;rintro e w1 ⟨k1,K,cap,rfl,F,D,hS,hF,hD⟩;have kX:Below wA.heap.size wA w1:=(Below.refl _ _).drew.trans (k1.mono (by simp));have e4:=eight kX a0 a1 a2 a3 a4 x0 x1 x0;have hX:=kX.size;have hF':∀ k,F k→C k∨wA.heap.size≤k:=hF;have hD':∀ k,D k→wA.heap.size≤k:=hD)
    | (go_at_call 126;refine (valued_okg (C:=fun k=>C k∨G k∨k=sb∨k=w'.heap.size) (L:=[(Q,R)]) hS ⟨_,_,rfl⟩ (by grind) (fun y hy=>by rw [List.mem_singleton] at hy;subst hy;exact HV w1 kX) (by grind)).mono ?_;rintro e w2 ⟨k2,K2,cap2,F2,rfl,hS2,hF2⟩;have f4:=eight (kX.trans (k2.mono kX.size)) a0 a1 a2 a3 a4 x0 x1 x0))
 all_goals
  go_wp2_with fail
  go_ret
  exact .mk' (kW.trans ((kX.trans (k2.mono kX.size)).mono kW.size)) hS2 (by grind) (by grind)
theorem given_setpath {C:Nat→Prop}{w0 w:World}{kn:Option Addr}{d:Int}{b c ad ao T1 b1 T2 b2:Nat}{name:ByteArray}{x:IV}{Q:SP}{Lo:List (SP×SP)} (hb:C b) (c0:w0.cell? ⟨b,0,none⟩=some (.string name)) (c1:w0.cell? ⟨b,1,none⟩=some (.slice (some ⟨ad,ao,none⟩) 2 c)) (ha:C ad) (c2:w0.cell? ⟨ad,ao,none⟩=some (.iface T1 (.pointer (some ⟨b1,0,none⟩)))) (c3:w0.cell? ⟨ad,ao+1,none⟩=some (.iface T2 (.pointer (some ⟨b2,0,none⟩)))) (hN:(name.toList == [115,101,116,112,97,116,104])=true) (hN1:(name.toList == [112,97,116,104])=false) (hN2:(name.toList == [114,97,110,103,101])=false) (hs:SameOn C w0 w) (hl:w0.heap.size≤w.heap.size)
  (hO1:OpensG C w0 (.iface T1 (.pointer (some ⟨b1,0,none⟩))) kn d (x,none) (Lo.map (·.1))) (hO2:OpensG C w0 (.iface T2 (.pointer (some ⟨b2,0,none⟩))) kn d (x,none) [Q]) (h:∀ y∈Lo,SetG C w0 x y.1 Q y.2) :
  Calls Tryz.prog 117 #[.agg #[.pointer kn,.int .i64 d],.pointer (some ⟨b,0,none⟩),.agg #[iv x,.pointer none]] w (MadeC (Lo.map (·.2)) C w):=by
 have hC:=hO1.1
 have n0:=hs.cell hb c0
 have n1:=hs.cell hb c1
 have n2:=hs.cell ha c2
 have n3:b < w.heap.size:=by have:=hC b hb;omega
 have n4:ad < w.heap.size:=by have:=hC ad ha;omega
 obtain ⟨T,u⟩:=x
 simp only [iv]
 have kW0:=below_alloc3 w (.cells #[.pointer kn,.int .i64 d] 71) (.cells #[.pointer (some ⟨b,0,none⟩)] 169) (.cells #[.iface T u,.pointer none] 75)
 have wn0:=(kW0.cell (p:=⟨b,0,none⟩) n3).trans n0
 have wn1:=(kW0.cell (p:=⟨b,1,none⟩) n3).trans n1
 clear kW0
 go_enter Tryz.func117,Tryz.ntmps117
 go_wp2_with fail
 obtain ⟨wA,hA,kW,wp,wf,wx,wl⟩:=three_boxes w kn d (.pointer (some ⟨b,0,none⟩)) 169 ((T,u),none)
 have HO:Calls Tryz.prog 22 #[.agg #[.pointer kn,.int .i64 d],.iface T1 (.pointer (some ⟨b1,0,none⟩)),spv ((T,u),none)] wA.drew (MadeC (Lo.map (·.1)) C wA.drew):=hO1.2 _ (hs.trans (fun j hj=>kW.drew.block j (Nat.lt_of_lt_of_le (hC j hj) hl))) (Nat.le_trans hl kW.drew.size)
 have HT:∀ w1,Below wA.heap.size wA w1→∀ y∈Lo.map (fun y=>(y.1,[y.2])),ThenG (fun k=>C k∨k=w.heap.size∨k=w.heap.size+1∨k=w.heap.size+2) w1 (.func (.func 159) #[] #[.pointer (some ⟨w.heap.size,0,none⟩),.pointer (some ⟨w.heap.size+1,0,none⟩),.pointer (some ⟨w.heap.size+2,0,none⟩)]) y.1 y.2:=fun w1 k y hy=>by
  obtain ⟨z,hz,rfl⟩:=List.mem_map.1 hy
  exact then_set (wp.same (k.block _ wp.lt)) (wf.same (k.block _ wf.lt)) (wx.same (k.block _ wx.lt)) hb c1 ha c3 hO2 (h z hz) (hs.trans (fun j hj=>(k.block j (by have:=hC j hj;omega)).trans (kW.block j (by have:=hC j hj;omega)))) (by have:=k.size;omega)
 have e1:(Lo.map (fun y:SP×SP=>(y.1,[y.2]))).map (·.1)=Lo.map (·.1):=by simp
 have e2:(Lo.map (fun y:SP×SP=>(y.1,[y.2]))).flatMap (·.2)=Lo.map (·.2):=flat_one Lo
 rw [← e1] at HO
 clear hO1 hO2 h
 simp only [spv,iv] at HO hA
 obtain ⟨x0,x1,_,_,x4⟩:=wx.facts
 have a0:=wp.c0
 have a1:=wp.c1
 have a2:=wf.cell
 have a3:=(kW.cell (p:=⟨b,0,none⟩) n3).trans n0
 have a4:=(kW.cell (p:=⟨b,1,none⟩) n3).trans n1
 have a5:=(kW.cell (p:=⟨ad,ao,none⟩) n4).trans n2
 have s0:=eight ((Below.refl _ wA).drew) a0 a1 a2 a3 a4 x0 x1 a5
 rw [← hA]
 clear hA wn0 wn1
 have E1:Hid (_=_):=e1
 have E2:Hid (_=_):=e2
 clear e1 e2
 go_region_held3 (fun w'=>w'.cell? ⟨w.heap.size,0,none⟩=some (.pointer kn)∧w'.cell? ⟨w.heap.size,1,none⟩=some (.int .i64 d)∧w'.cell? ⟨w.heap.size+1,0,none⟩=some (.pointer (some ⟨b,0,none⟩))∧w'.cell? ⟨b,0,none⟩=some (.string name)∧w'.cell? ⟨b,1,none⟩=some (.slice (some ⟨ad,ao,none⟩) 2 c)∧w'.cell? ⟨w.heap.size+2,0,none⟩=some (.iface T u)∧w'.cell? ⟨w.heap.size+2,1,none⟩=some (.pointer none)∧w'.cell? ⟨ad,ao,none⟩=some (.iface T1 (.pointer (some ⟨b1,0,none⟩)))) (first | exact s0 | exact e4 | exact f4 | go_keep)
   (first
    | (go_at_call 22;refine HO.mono ?_;rintro e w1 ⟨k1,K,cap,rfl,F,D,hS,hF,hD⟩;have kX:Below wA.heap.size wA w1:=(Below.refl _ _).drew.trans (k1.mono (by simp));have e4:=eight kX a0 a1 a2 a3 a4 x0 x1 a5;have hX:=kX.size;have hF':∀ k,F k→C k∨wA.heap.size≤k:=hF;have hD':∀ k,D k→wA.heap.size≤k:=hD)
    | (go_at_call 48;refine (each_okg hS ⟨_,_,rfl⟩ (by grind) (HT w1 kX) (by grind)).mono ?_;rintro e w2 ⟨k2,K2,cap2,F2,D2,rfl,hS2,hF2,hD2⟩;have f4:=eight (kX.trans (k2.mono kX.size)) a0 a1 a2 a3 a4 x0 x1 a5))
 all_goals
  go_wp2_with fail
  go_ret
  rw [E2.out] at hS2
  exact .mk' (kW.trans ((kX.trans (k2.mono kX.size)).mono kW.size)) hS2 (by grind) (by grind)
end Go.Proofs.Tryz
