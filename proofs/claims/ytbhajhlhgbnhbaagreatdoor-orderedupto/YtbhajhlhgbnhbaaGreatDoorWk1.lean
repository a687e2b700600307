import Derived.Test.YtbhajhlhgbnhbaaGreatDoorWh1
set_option linter.all false
namespace Go.Proofs.Tryz
set_option maxHeartbeats 16000000
open Go.RowKit
set_option maxRecDepth 10000
def ThenG (C:Nat→Prop) (w:World) (g:Value) (P:SP) (Qs:List SP):Prop :=
 ∃ K cap,g = .func (.func K) #[] cap∧Enters Tryz.prog K∧(∀ k,C k→k < w.heap.size)∧
  ∀ w' s G,SameOn C w w'→w.heap.size≤w'.heap.size→HoldsP P G w' s→Calls Tryz.prog K (#[spv s] ++ cap) w' (MadeC Qs (fun k=>C k∨G k) w')
theorem ThenG.move {C:Nat→Prop}{w w1:World}{g:Value}{P:SP}{Qs:List SP} (h:ThenG C w g P Qs) (hs:SameOn C w w1) (hl:w.heap.size≤w1.heap.size):ThenG C w1 g P Qs:=by
 obtain ⟨K,cap,e,hE,hC,h⟩:=h
 exact ⟨K,cap,e,hE,fun k hk=>Nat.lt_of_lt_of_le (hC k hk) hl,fun w' s G hs' hl'=>h w' s G (hs.trans hs') (Nat.le_trans hl hl')⟩
structure EachS (C:Nat→Prop) (ib ob tb:Nat) (fo g:Value) (li:List SP) (Lo:List (SP×List SP)) (Fi Di Fo Do:Nat→Prop) (w:World):Prop where
 inner:∃ f,Box w ib f 66∧StG li Fi Di w f
 ho:Box w ob fo 66
 ht:Box w tb g 126
 hO:StG (Lo.map (·.1)) Fo Do w fo
 hg:∃ K cap,g = .func (.func K) #[] cap
 hC:∀ k,C k→k < w.heap.size
 hT:∀ x∈Lo,ThenG C w g x.1 x.2
 hDi:∀ k,Di k→¬ Fo k∧¬ C k∧k≠ib∧k≠ob∧k≠tb
 hDo:∀ k,Do k→¬ Fi k∧¬ C k∧k≠ib∧k≠ob∧k≠tb
 hib:¬ Fi ib∧¬ Fo ib∧¬ C ib∧ib≠ob∧ib≠tb
theorem EachS.after {C X:Nat→Prop}{ib ob tb:Nat}{fo g:Value}{li:List SP}{Lo:List (SP×List SP)}{Fi Di Fo Do:Nat→Prop}{w w1:World} (h:EachS C ib ob tb fo g li Lo Fi Di Fo Do w) (k:Fr X w w1) (hX:∀ k,X k→¬ Fi k∧¬ Fo k∧¬ C k∧k≠ib∧k≠ob∧k≠tb):EachS C ib ob tb fo g li Lo Fi Di Fo Do w1:=by
 obtain ⟨⟨f,hi,hS⟩,ho,ht,hO,hg,hC,hT,h1,h2,h3⟩:=h
 have hCs:SameOn C w w1:=k.same hC (by grind)
 exact ⟨⟨f,hi.same (k.block _ hi.lt (by grind)),hS.after k (by grind)⟩,ho.same (k.block _ ho.lt (by grind)),ht.same (k.block _ ht.lt (by grind)),hO.after k (by grind),hg,fun b hb=>Nat.lt_of_lt_of_le (hC b hb) k.size,fun x hx=>(hT x hx).move hCs k.size,h1,h2,h3⟩
theorem EachS.with {C X:Nat→Prop}{ib ob tb:Nat}{fo g f':Value}{li l:List SP}{Lo Lo':List (SP×List SP)}{Fi Di Fo Do F' D' Fo' Do':Nat→Prop}{w w1:World} (h:EachS C ib ob tb fo g li Lo Fi Di Fo Do w) (k:Fr X w w1) (hX:∀ k,X k→¬ C k∧k≠ob∧k≠tb) (hi:Box w1 ib f' 66) (hS:StG l F' D' w1 f') (hO:StG (Lo'.map (·.1)) Fo' Do' w1 fo) (hLo:∀ x∈Lo',x∈Lo)
  (h1:∀ k,D' k→¬ Fo' k∧¬ C k∧k≠ib∧k≠ob∧k≠tb) (h2:∀ k,Do' k→¬ F' k∧¬ C k∧k≠ib∧k≠ob∧k≠tb) (h3:¬ F' ib∧¬ Fo' ib):EachS C ib ob tb fo g l Lo' F' D' Fo' Do' w1:=by
 obtain ⟨_,ho,ht,_,hg,hC,hT,_,_,h4⟩:=h
 have hCs:SameOn C w w1:=k.same hC (by grind)
 exact ⟨⟨f',hi,hS⟩,ho.same (k.block _ ho.lt (by grind)),ht.same (k.block _ ht.lt (by grind)),hO,hg,fun b hb=>Nat.lt_of_lt_of_le (hC b hb) k.size,fun x hx=>(hT x (hLo x hx)).move hCs k.size,h1,h2,by grind⟩
def EachQ (C:Nat→Prop) (ib ob tb:Nat) (fo g:Value) (out:List SP) (Fi Di Fo Do:Nat→Prop) (w:World) (e:Ending) (w':World):Prop:=Fr (fun k=>Di k∨Do k∨k=ib) w w'∧
      (out=[]→e = .returned (.tuple #[.agg #[.nilIface,.pointer none],.bool false]))∧
      ∀ Q R,out=Q :: R→∃ s G li' Lo' Fi' Di' Fo' Do',e = .returned (.tuple #[spv s,.bool true])∧HoldsP Q G w' s∧EachS C ib ob tb fo g li' Lo' Fi' Di' Fo' Do' w'∧li' ++ Lo'.flatMap (·.2)=R∧
        (∀ k,Fi' k→Fi k∨Fo k∨C k∨w.heap.size≤k)∧(∀ k,Fo' k→Fo k∨w.heap.size≤k)∧(∀ k,Di' k→Di k∨w.heap.size≤k)∧(∀ k,Do' k→Do k∨w.heap.size≤k)∧(∀ k,G k→Fi k∨Fo k∨C k∨w.heap.size≤k)∧(∀ k,G k→¬ Di' k∧¬ Do' k∧k≠ib)
theorem each1_g {C:Nat→Prop}{ib ob tb:Nat}{fo g:Value}{li:List SP}{Lo:List (SP×List SP)}{Fi Di Fo Do:Nat→Prop}{w:World} (h:EachS C ib ob tb fo g li Lo Fi Di Fo Do w) :
  Calls Tryz.prog 97 #[.pointer (some ⟨ib,0,none⟩),.pointer (some ⟨ob,0,none⟩),.pointer (some ⟨tb,0,none⟩)] w (EachQ C ib ob tb fo g (li ++ Lo.flatMap (·.2)) Fi Di Fo Do w):=by
 obtain ⟨out,hout0⟩:∃ out,li ++ Lo.flatMap (·.2)=out:=⟨_,rfl⟩
 rw [hout0]
 have HO:Hid (li ++ Lo.flatMap (·.2)=out):=hout0
 clear hout0
 have HS:Aside (EachS C ib ob tb fo g li Lo Fi Di Fo Do w):=h
 obtain ⟨f0,hi0,-⟩:=h.inner
 have l0:=hi0.lt
 have l1:=h.ho.lt
 have l2:=h.ht.lt
 clear h hi0
 go_enter Tryz.func97,Tryz.ntmps97
 go_wp2_with fail
 go_loopg [] Lo.length (fun k wr=>∃ (li':List SP) (Lo':List (SP×List SP)) (Fi' Di' Fo' Do':Nat→Prop),Lo'.length=k∧SpotBox wr w.heap.size .nilIface∧Aside (EachS C ib ob tb fo g li' Lo' Fi' Di' Fo' Do' wr∧li' ++ Lo'.flatMap (·.2)=out∧(∀ k,Fi' k→Fi k∨Fo k∨C k∨w.heap.size < k)∧(∀ k,Fo' k→Fo k∨w.heap.size < k)∧(∀ k,Di' k→Di k∨w.heap.size < k)∧(∀ k,Do' k→Do k∨w.heap.size < k)∧Fr (fun k=>Di k∨Do k∨k=ib) w wr))
 case atStart =>
  refine ⟨li,Lo,Fi,Di,Fo,Do,rfl,SpotBox.new w _,HS.out.after (X:=fun _=>False) ((Fr.refl _ _).alloc _) (fun _ h=>h.elim),HO.out,by grind,by grind,by grind,by grind,(Fr.refl _ _).alloc _⟩
 case round =>
  obtain ⟨li',Lo',Fi',Di',Fo',Do',hk,hbox,HR⟩:=hrel
  obtain ⟨hE,hout,hFi,hFo,hDi,hDo,hfr⟩:=HR.out
  obtain ⟨f,hi,hS⟩:=hE.inner
  obtain ⟨K,cap,rfl⟩:=hS.shape
  obtain ⟨K2,cap2,rfl⟩:=hE.hO.shape
  obtain ⟨K3,cap3,rfl⟩:=hE.hg
  have hwl:=hbox.lt
  have c0:=hi.cell
  have c1:=hi.lt
  have c2:=hE.ho.cell
  have c3:=hE.ho.lt
  have c4:=hE.ht.cell
  have c5:=hE.ht.lt
  have hFl:=hS.lt
  have hSs:=hS.sub
  have hOl:=hE.hO.lt
  have hOs:=hE.hO.sub
  have hCl:∀ k,C k→k < w.heap.size:=HS.out.hC
  have hFil:∀ k,Fi k→k < w.heap.size:=by obtain ⟨_,_,h⟩:=HS.out.inner;exact h.lt
  have hFol:∀ k,Fo k→k < w.heap.size:=HS.out.hO.lt
  have hDiF:∀ k,Di k→Fi k:=by obtain ⟨_,_,h⟩:=HS.out.inner;exact h.sub
  have hDoF:∀ k,Do k→Fo k:=HS.out.hO.sub
  have d1:=hE.hDi
  have d2:=hE.hDo
  have d3:=hE.hib
  have e1:¬ Di' w.heap.size:=by grind
  have e2:¬ Do' w.heap.size:=by grind
  have hEn:∀ (args:Array Value) (w:World),(callFunc K args).run Tryz.prog w = .ok (.enter K args) w:=hS.enters
  have hEn2:∀ (args:Array Value) (w:World),(callFunc K2 args).run Tryz.prog w = .ok (.enter K2 args) w:=hE.hO.enters
  cases li' with
  | cons Q l =>
   obtain ⟨K',cap',eK,_,_,_,hcall⟩:=hS
   cases eK
   have H:Aside (∀ w',SameOn Fi' wr w'→wr.heap.size≤w'.heap.size→Calls Tryz.prog K cap w' fun e w''=>Fr Di' w' w''∧∃ s G F' D',e = .returned (.tuple #[spv s,.bool true])∧HoldsP Q G w'' s∧StG l F' D' w'' (.func (.func K) #[] cap)∧(∀ k,F' k→Fi' k∨w'.heap.size≤k)∧(∀ k,D' k→Di' k∨w'.heap.size≤k)∧(∀ k,G k→Fi' k∨w'.heap.size≤k)∧(∀ k,G k→¬ D' k)):=hcall
   have HI:Aside (Box wr ib (.func (.func K) #[] cap) 66):=hi
   clear hcall hi hout
   go_wp2_with (go_at_fn K;refine (H.out _ (SameOn.refl _ _) (Nat.le_refl _)).mono ?_;rintro e w1 ⟨k1,⟨⟨T,u⟩,q⟩,G,F',D',rfl,hP,hS',hF',hD',hG,hGD⟩;simp only [spv,iv];have qb:SpotBox w1 w.heap.size .nilIface:=hbox.same (k1.block _ hbox.lt e1);obtain ⟨q0,q1,q2,q3,q4⟩:=qb.facts)
   have hl1:=k1.size
   have hend:Fr (fun k=>k=w.heap.size) w1 (((w1.setCell ⟨w.heap.size,0,none⟩ (.iface T u)).setCell ⟨w.heap.size,1,none⟩ (.pointer q)).alloc (.cells #[.iface T u,.pointer q] 75)):=(((Fr.refl (fun k=>k=w.heap.size) w1).setCell _ (.inl rfl)).setCell _ (.inl rfl)).alloc _
   obtain ⟨_,hout,_⟩:=HR.out
   have hib2:=HI.out.lt
   refine bodyPost_ret (v:=.tuple #[.agg #[.iface T u,.pointer q],.bool true]) (by simp [results,Tryz.results97,go_sem,q4,q0,q1]) rfl ?_
   have kX:Fr (fun k=>Di' k∨k=w.heap.size) wr _:=(k1.mono (E:=fun k=>Di' k∨k=w.heap.size) (fun _ e=>.inl e)).trans hend (fun _ _ e=>.inr e)
   unfold EachQ
   refine ⟨(hfr.trans k1 (by grind)).trans hend (by grind),fun h=>by rw [← hout] at h;simp at h,fun Q' R hQR=>?_⟩
   rw [← hout,List.cons_append,List.cons.injEq] at hQR
   obtain ⟨rfl,rfl⟩:=hQR
   refine ⟨((T,u),q),G,l,Lo',F',D',Fo',Do',rfl,hP.after hend (by grind),hE.with kX (by grind) ((HI.out.same (k1.block _ hib2 (by grind))).same (hend.block _ (by omega) (by grind))) (hS'.after hend (by grind)) ((hE.hO.after k1 (by grind)).after hend (by grind)) (fun _ h=>h) (by grind) (by grind) (by grind),rfl,by grind,by grind,by grind,by grind,by grind,by grind⟩
  | nil =>
   obtain ⟨K',cap',eK,_,_,_,hcall⟩:=hS
   cases eK
   have H:Aside (∀ w',SameOn Fi' wr w'→wr.heap.size≤w'.heap.size→Calls Tryz.prog K cap w' fun e w''=>Fr Di' w' w''∧e = .returned (.tuple #[.agg #[.nilIface,.pointer none],.bool false])):=hcall
   have HI:Aside (Box wr ib (.func (.func K) #[] cap) 66):=hi
   have HB:Aside (Box wr ob (.func (.func K2) #[] cap2) 66):=hE.ho
   have HT:Aside (Box wr tb (.func (.func K3) #[] cap3) 126):=hE.ht
   clear hcall hi hout
   cases Lo' with
   | nil =>
    obtain ⟨K2',cap2',eK2,_,_,_,hcall2⟩:=hE.hO
    cases eK2
    have H2:Aside (∀ w',SameOn Fo' wr w'→wr.heap.size≤w'.heap.size→Calls Tryz.prog K2 cap2 w' fun e w''=>Fr Do' w' w''∧e = .returned (.tuple #[.agg #[.nilIface,.pointer none],.bool false])):=hcall2
    clear hcall2
    go_wp2_with (first
     | (go_at_call 19;refine (none_calls _).mono ?_;rintro e w3 ⟨rfl,k3⟩;have r:SpotBox w3 w.heap.size .nilIface:=((p).alloc _).same (k3.block _ (by simp;omega));obtain ⟨r0,r1,r2,r3,r4⟩:=r.facts)
     | (go_at_fn K2;refine (H2.out _ (fun k hk=>(Below.heap_alloc _ _ _ (Nat.lt_of_lt_of_le (hOl k hk) hl1)).trans (k1.block k (hOl k hk) (by grind))) (by simp;omega)).mono ?_;rintro e w2 ⟨k2,rfl⟩;have p:SpotBox w2 w.heap.size .nilIface:=(qb.alloc _).same (k2.block _ (by simp;omega) e2);obtain ⟨p0,p1,p2,p3,p4⟩:=p.facts;have hl2:=k2.size)
     | (go_at_fn K;refine (H.out _ (SameOn.refl _ _) (Nat.le_refl _)).mono ?_;rintro e w1 ⟨k1,rfl⟩;have hl1:=k1.size;have qb:SpotBox w1 w.heap.size .nilIface:=hbox.same (k1.block _ hbox.lt e1);obtain ⟨q0,q1,q2,q3,q4⟩:=qb.facts;have t0:=(HB.out.same (k1.block ob c3 (by grind))).cell;have t1:ob < w1.heap.size:=by omega))
    obtain ⟨_,hout,_⟩:=HR.out
    refine bodyPost_ret (v:=.tuple #[.agg #[.nilIface,.pointer none],.bool false]) (by simp [results,Tryz.results97,go_sem,r4,r0,r1]) rfl ?_
    unfold EachQ
    refine ⟨?_,fun h=>rfl,fun Q' R hQR=>by rw [← hout] at hQR;simp at hQR⟩
    exact (((((hfr.trans k1 (by grind)).alloc _).trans k2 (by grind)).alloc _).trans (Fr.of_below (D:=fun _=>False) k3) (fun _ _ e=>e.elim)).setCell _ (.inr (Nat.le_refl _)) |>.setCell _ (.inr (Nat.le_refl _))
   | cons x Lo' =>
    obtain ⟨P,Qs⟩:=x
    obtain ⟨K3',cap3',eK3,hEn3',hC3,hcall3⟩:=hE.hT (P,Qs) (.head _)
    cases eK3
    obtain ⟨K2',cap2',eK2,_,_,_,hcall2⟩:=hE.hO
    cases eK2
    have hEn3:∀ (args:Array Value) (w:World),(callFunc K3 args).run Tryz.prog w = .ok (.enter K3 args) w:=hEn3'
    have H2:Aside (∀ w',SameOn Fo' wr w'→wr.heap.size≤w'.heap.size→Calls Tryz.prog K2 cap2 w' fun e w''=>Fr Do' w' w''∧∃ s G F' D',e = .returned (.tuple #[spv s,.bool true])∧HoldsP P G w'' s∧StG (Lo'.map (·.1)) F' D' w'' (.func (.func K2) #[] cap2)∧(∀ k,F' k→Fo' k∨w'.heap.size≤k)∧(∀ k,D' k→Do' k∨w'.heap.size≤k)∧(∀ k,G k→Fo' k∨w'.heap.size≤k)∧(∀ k,G k→¬ D' k)):=hcall2
    have H3:Aside (∀ w' s G,SameOn C wr w'→wr.heap.size≤w'.heap.size→HoldsP P G w' s→Calls Tryz.prog K3 (#[spv s] ++ cap3) w' (MadeC Qs (fun k=>C k∨G k) w')):=hcall3
    clear hcall2 hcall3
    go_wp2_with (first
     | (go_at_fn K3;refine (H3.out _ ((T,u),q) G (hC2.trans (fun k hk=>Below.heap_alloc _ _ _ (by have:=hC3 k hk;omega))) (by simp;omega) (hP.after (X:=fun _=>False) ((Fr.refl _ _).alloc _) (fun _ _ e=>e))).mono ?_;rintro e w3 ⟨k3,K4,cap4,rfl,F4,D4,hS4,hF4,hD4⟩;have r:SpotBox w3 w.heap.size .nilIface:=(p.alloc _).same (k3.block _ (by simp;omega));obtain ⟨r0,r1,r2,r3,r4⟩:=r.facts;have hl3:w2.heap.size+1≤w3.heap.size:=(by have:=k3.size;simpa using this);have ib3:Box w3 ib (.func (.func K) #[] cap) 66:=hib2.same ((k3.block ib (by have:=hib2.lt;simp;omega)).trans (Below.heap_alloc _ _ _ hib2.lt));have i0:=ib3.cell;have i1:=ib3.free;have i2:=ib3.lt)
     | (go_at_fn K2;refine (H2.out _ (fun k hk=>(Below.heap_alloc _ _ _ (Nat.lt_of_lt_of_le (hOl k hk) hl1)).trans (k1.block k (hOl k hk) (by grind))) (by simp;omega)).mono ?_;rintro e w2 ⟨k2,⟨⟨T,u⟩,q⟩,G,F',D',rfl,hP,hS',hF',hD',hG,hGD⟩;simp only [spv,iv];have p:SpotBox w2 w.heap.size .nilIface:=(qb.alloc _).same (k2.block _ (by simp;omega) e2);obtain ⟨p0,p1,p2,p3,p4⟩:=p.facts;have hl2:w1.heap.size+1≤w2.heap.size:=(by have:=k2.size;simpa using this);have kr2:Fr (fun k=>Di' k∨Do' k) wr w2:=(((k1.mono (E:=fun k=>Di' k∨Do' k) (fun _ e=>.inl e)).alloc _).trans k2 (fun _ _ e=>.inr e));have hC2:SameOn C wr w2:=kr2.same hC3 (by grind);have t2:=(HT.out.same (kr2.block tb c5 (by grind))).cell;have t3:tb < w2.heap.size:=(by omega);have hib2:Box w2 ib (.func (.func K) #[] cap) 66:=HI.out.same (kr2.block ib c1 (by grind)))
     | (go_at_fn K;refine (H.out _ (SameOn.refl _ _) (Nat.le_refl _)).mono ?_;rintro e w1 ⟨k1,rfl⟩;have hl1:=k1.size;have qb:SpotBox w1 w.heap.size .nilIface:=hbox.same (k1.block _ hbox.lt e1);obtain ⟨q0,q1,q2,q3,q4⟩:=qb.facts;have t0:=(HB.out.same (k1.block ob c3 (by grind))).cell;have t1:ob < w1.heap.size:=by omega))
    obtain ⟨_,hout,_⟩:=HR.out
    have hG1:=hP.1
    have hS1:=hS'.lt
    have hS2:=hS'.sub
    have hF4s:=hS4.lt
    have hF4b:=hS4.sub
    simp only [World.size_alloc] at hF' hD' hG hF4 hD4
    have kend:Fr (fun k=>k=ib) w2 (w3.setCell ⟨ib,0,none⟩ (.func (.func K4) #[] cap4)):=(((Fr.refl (fun k=>k=ib) w2).alloc _).trans (Fr.of_below (D:=fun _=>False) k3) (fun _ _ e=>e.elim)).setCell _ (.inl rfl)
    have k3e:Fr (fun k=>k=ib) w3 (w3.setCell ⟨ib,0,none⟩ (.func (.func K4) #[] cap4)):=(Fr.refl (fun k=>k=ib) w3).setCell _ (.inl rfl)
    have kall:Fr (fun k=>Di' k∨Do' k∨k=ib) wr (w3.setCell ⟨ib,0,none⟩ (.func (.func K4) #[] cap4)):=(kr2.mono (E:=fun k=>Di' k∨Do' k∨k=ib) (by grind)).trans kend (by grind)
    go_roundg Lo'.length
    case measure=>simp at hk;omega
    case rel =>
     refine ⟨Qs,Lo',F4,D4,F',D',rfl,r.same (Below.heap_setCell _ _ _ _ (by simp;omega)),hE.with kall (by grind) (ib3.set _) (hS4.after k3e (by grind)) (hS'.after kend (by grind)) (fun _ h=>.tail _ h) (by grind) (by grind) (by grind),?_,by grind,by grind,by grind,by grind,hfr.trans kall (by grind)⟩
     rw [← hout]
     simp
theorem each_g {C:Nat→Prop}{ib ob tb:Nat}{fo g:Value}:∀ (out:List SP) {li:List SP}{Lo:List (SP×List SP)}{Fi Di Fo Do:Nat→Prop}{w:World},EachS C ib ob tb fo g li Lo Fi Di Fo Do w→li ++ Lo.flatMap (·.2)=out→
  StG out (fun k=>Fi k∨Fo k∨C k∨k=ib∨k=ob∨k=tb) (fun k=>Di k∨Do k∨k=ib) w (.func (.func 97) #[] #[.pointer (some ⟨ib,0,none⟩),.pointer (some ⟨ob,0,none⟩),.pointer (some ⟨tb,0,none⟩)])
 | out,li,Lo,Fi,Di,Fo,Do,w,h,ho=>by
  have hh:=h
  obtain ⟨⟨f,hi,hS⟩,hob,ht,hO,hg,hC,hT,h1,h2,h3⟩:=hh
  have a1:=hi.lt
  have a2:=hob.lt
  have a3:=ht.lt
  have a4:=hS.lt
  have a5:=hO.lt
  have a6:=hS.sub
  have a7:=hO.sub
  have hmove:∀ w',SameOn (fun k=>Fi k∨Fo k∨C k∨k=ib∨k=ob∨k=tb) w w'→w.heap.size≤w'.heap.size→EachS C ib ob tb fo g li Lo Fi Di Fo Do w':=fun w' hs hl =>
   ⟨⟨f,hi.same (hs _ (by grind)),hS.move (fun k hk=>hs k (by grind)) hl⟩,hob.same (hs _ (by grind)),ht.same (hs _ (by grind)),hO.move (fun k hk=>hs k (by grind)) hl,hg,by grind,fun x hx=>(hT x hx).move (fun k hk=>hs k (by grind)) hl,h1,h2,h3⟩
  cases out with
  | nil =>
   refine ⟨_,_,rfl,enters_each1,by grind,by grind,?_⟩
   intro w' hs hl
   have:=each1_g (hmove w' hs hl)
   rw [ho] at this
   refine this.mono ?_
   rintro e w2 ⟨k2,h0,_⟩
   exact ⟨k2,h0 rfl⟩
  | cons Q R =>
   refine ⟨_,_,rfl,enters_each1,by grind,by grind,?_⟩
   intro w' hs hl
   have:=each1_g (hmove w' hs hl)
   rw [ho] at this
   refine this.mono ?_
   rintro e w2 ⟨k2,_,h0⟩
   obtain ⟨s,G,li',Lo',Fi',Di',Fo',Do',rfl,hP,hE,hR,g1,g2,g3,g4,g5,g6⟩:=h0 Q R rfl
   exact ⟨k2,s,G,_,_,rfl,hP,each_g R hE hR,by grind,by grind,by grind,by grind⟩
theorem each_okg {C:Nat→Prop}{f g:Value}{Lo:List (SP×List SP)}{w:World}{F D:Nat→Prop} (hS:StG (Lo.map (·.1)) F D w f) (hg:∃ K cap,g = .func (.func K) #[] cap) (hC:∀ k,C k→k < w.heap.size) (hT:∀ x∈Lo,ThenG C w g x.1 x.2) (hCD:∀ k,C k→¬ D k) :
  Calls Tryz.prog 48 #[f,g] w fun e w'=>Below w.heap.size w w'∧∃ K cap F' D',e = .returned (.func (.func K) #[] cap)∧StG (Lo.flatMap (·.2)) F' D' w' (.func (.func K) #[] cap)∧(∀ k,F' k→F k∨C k∨w.heap.size≤k)∧(∀ k,D' k→D k∨w.heap.size≤k):=by
 obtain ⟨K,cap,rfl⟩:=hS.shape
 obtain ⟨K2,cap2,rfl⟩:=hg
 have hl:=hS.lt
 have hsb:=hS.sub
 refine each_made.mono ?_
 rintro e w' ⟨rfl,k,bo,bt,bi⟩
 have hks:=k.size
 have b1:=bi.lt
 refine ⟨k,_,_,_,_,rfl,each_g (C:=C) (li:=[]) (Fi:=fun _=>False) (Di:=fun _=>False) _ ⟨⟨_,bi,.ofNone (none_str w')⟩,bo,bt,hS.move (fun b hb=>k.block b (hl b hb)) k.size,⟨_,_,rfl⟩,fun b hb=>Nat.lt_of_lt_of_le (hC b hb) k.size,fun x hx=>(hT x hx).move (fun b hb=>k.block b (hC b hb)) k.size,by grind,by grind,by grind⟩ rfl,by grind,by grind⟩
end Go.Proofs.Tryz
namespace Go.Proofs.Tryz
set_option maxHeartbeats 16000000
open Go.RowKit Go.Shelf
set_option maxRecDepth 100000
attribute [local go_sem] Oper.semAt_some
def AllP:List SP→World→List Sp→Prop
 | [],_,[]=>True
 | P :: Ps,w,s :: ss=>P w s∧AllP Ps w ss
 | [],_,_ :: _=>False
 | _ :: _,_,[]=>False
theorem AllP.len {w:World}:∀ {Ps:List SP}{ss:List Sp},AllP Ps w ss→Ps.length=ss.length
 | [],[],_=>rfl
 | _ :: _,_ :: _,h=>by simp [AllP.len h.2]
 | [],_ :: _,h=>h.elim
 | _ :: _,[],h=>h.elim
theorem AllP.snoc {w:World}{P:SP}{s:Sp} (hP:P w s):∀ {Ps:List SP}{ss:List Sp},AllP Ps w ss→AllP (Ps ++ [P]) w (ss ++ [s])
 | [],[],_=>⟨hP,trivial⟩
 | _ :: _,_ :: _,h=>⟨h.1,AllP.snoc hP h.2⟩
 | [],_ :: _,h=>h.elim
 | _ :: _,[],h=>h.elim
theorem AllP.at {w:World}:∀ {Ps:List SP}{ss:List Sp}{i:Nat}{P:SP},AllP Ps w ss→Ps[i]? = some P→∃ s,ss[i]? = some s∧P w s
 | [],_,_,_,_,e=>by simp at e
 | P :: Ps,s :: ss,0,Q,h,e=>by
  simp only [List.getElem?_cons_zero,Option.some.injEq] at e
  subst e
  exact ⟨s,rfl,h.1⟩
 | P :: Ps,s :: ss,i+1,Q,h,e=>by
  simp only [List.getElem?_cons_succ] at e
  obtain ⟨t,h1,h2⟩:=AllP.at h.2 e
  exact ⟨t,by simpa using h1,h2⟩
 | _ :: _,[],_,_,h,_=>h.elim
def HoldsL (Ps:List SP) (G:Nat→Prop) (w:World) (ss:List Sp):Prop:=(∀ k,G k→k < w.heap.size)∧∀ w',SameOn G w w'→w.heap.size≤w'.heap.size→AllP Ps w' ss
theorem HoldsL.nil (w:World):HoldsL [] (fun _=>False) w []:=⟨fun _ h=>h.elim,fun _ _ _=>trivial⟩
theorem HoldsL.move {Ps:List SP}{G:Nat→Prop}{w w1:World}{ss:List Sp} (h:HoldsL Ps G w ss) (hs:SameOn G w w1) (hl:w.heap.size≤w1.heap.size):HoldsL Ps G w1 ss :=
 ⟨fun k hk=>Nat.lt_of_lt_of_le (h.1 k hk) hl,fun w' a b=>h.2 w' (hs.trans a) (Nat.le_trans hl b)⟩
theorem HoldsL.after {Ps:List SP}{G X:Nat→Prop}{w w1:World}{ss:List Sp} (h:HoldsL Ps G w ss) (hs:Fr X w w1) (hd:∀ k,G k→¬ X k):HoldsL Ps G w1 ss :=
 h.move (hs.same h.1 hd) hs.size
theorem HoldsL.snoc {Ps:List SP}{P:SP}{G G':Nat→Prop}{w:World}{ss:List Sp}{s:Sp} (h:HoldsL Ps G w ss) (hP:HoldsP P G' w s):HoldsL (Ps ++ [P]) (fun k=>G k∨G' k) w (ss ++ [s]) :=
 ⟨fun k hk=>hk.elim (h.1 k) (hP.1 k),fun w' a b=>AllP.snoc (hP.2 w' (a.mono (fun _ h=>.inr h)) b) (h.2 w' (a.mono (fun _ h=>.inl h)) b)⟩
def ArrOf (Ps:List SP):SP:=fun w s=>s.2=none∧∃ v ss,s.1=(86,v)∧w.ownsRow 0 32 1 v ss.length (ss.map fun t=>iv t.1)∧AllP Ps w ss
theorem all_ing (n l K:Nat) (cap:Array Value) (J:List SP→World→Prop) (J1:Sp→List SP→World→Prop) (JE:World→Prop) (hE:Enters Tryz.prog K)
  (h1:∀ P rest W,J (P :: rest) W→Calls Tryz.prog K cap W fun e W'=>∃ s,e = .returned (.tuple #[spv s,.bool true])∧J1 s rest W')
  (h1a:∀ x rest W o,J1 x rest W→J1 x rest (W.alloc o))
  (h2:∀ s rest W,J1 s rest W→YieldAt Fence.wide (n - 1) Tryz.prog l #[spv s] W fun e W'=>e = .returned (.bool true)∧J rest W')
  (h3:∀ W,J [] W→Calls Tryz.prog K cap W fun e W'=>e = .returned (.tuple #[.agg #[.nilIface,.pointer none],.bool false])∧JE W')
  (h3a:∀ W o,JE W→JE (W.alloc o))
  (L:List SP) (W:World) (h0:J L W) :
  CallsIn Fence.wide n Tryz.prog 105 #[.func (.func K) #[] cap,.func (.yield l) #[] #[]] W fun e W'=>(∃ v,e = .returned v)∧JE W':=by
 have hE':∀ (args:Array Value) (w:World),(callFunc K args).run Tryz.prog w = .ok (.enter K args) w:=hE
 refine callsIn_of_wp Tryz.func105 rfl trivial ?_ rfl
 simp only [Tryz.ntmps105,List.size_toArray,List.length_cons,List.length_nil,Nat.reduceAdd,Nat.reduceSub,Array.replicate_succ,Array.replicate_zero,List.push_toArray,List.append_toArray,List.nil_append,List.cons_append]
 gi_wp2
 gi_loopg [5] L.length (fun k v wr=>∃ rest,rest.length=k∧J rest wr)
 case atStart=>exact ⟨L,rfl,h0⟩
 case round =>
  obtain ⟨rest,hk,hJ⟩:=hrel
  cases rest with
  | nil =>
   have hc:=h3 _ hJ
   gi_wp2
   refine ⟨trivial,fun h=>(by cases h),(callsIn_wide.2 hc).mono ?_⟩
   rintro e W1 ⟨rfl,hJE⟩
   gi_wp2
   refine ⟨fun _ h=>(by cases h),?_⟩
   gi_wp2
   exact bodyPost_ret (v:=.tuple #[]) (by simp [results,Tryz.results105,go_sem]) rfl ⟨⟨_,rfl⟩,h3a _ _ hJE⟩
  | cons P rest =>
   have hc:=h1 _ _ _ hJ
   gi_wp2
   refine ⟨trivial,fun h=>(by cases h),(callsIn_wide.2 hc).mono ?_⟩
   rintro e W1 ⟨⟨⟨T,u⟩,q⟩,rfl,hJ1⟩
   obtain ⟨fn,tmps,assign,body,hy,hR⟩:=h2 _ _ _ (h1a _ _ _ (.cells #[.iface T u,.pointer q] 75) hJ1)
   simp only [spv,iv] at hy hR ⊢
   gi_wp2
   refine ⟨fun h=>(by cases h),hR.mono ?_⟩
   rintro e W2 ⟨rfl,hJ2⟩
   gi_wp2
   gi_roundg rest.length
   case measure=>simp at hk;omega
   case rel=>exact ⟨rest,rfl,hJ2⟩
def CSg (cf:Sp→Value) (TE TA:Nat) (w:World) (N b0 dB lB:Nat) (rc:Loop) (F:Nat→Prop) (pre:List Sp) (W:World):Prop :=
 N=w.heap.size∧N≤b0∧b0 < dB∧dB < lB∧∃ v,Box W b0 v TA∧W.ownsRow N TE 1 v pre.length (pre.map cf)∧W.heap[lB]? = some (.loop rc)∧W.heap[dB]? = some (.deferred (some []))∧Below N w W∧(∀ k,F k→k≠b0∧k≠dB∧k≠lB∧some k≠v.ownBlock)
theorem CSg.fr {cf:Sp→Value}{TE TA:Nat}{w:World}{N b0 dB lB:Nat}{rc:Loop}{F F' D:Nat→Prop}{pre:List Sp}{W W':World} (h:CSg cf TE TA w N b0 dB lB rc F pre W) (k:Fr D W W') (hD:∀ k,D k→F k) (hN:∀ k,D k→N≤k) (hF':∀ k,F' k→F k∨W.heap.size≤k):CSg cf TE TA w N b0 dB lB rc F' pre W':=by
 obtain ⟨hNw,o0,o1,o2,v,b,ow,hl,hd,hb,hf⟩:=h
 have lb:=b.lt
 have ll:=lt_of_block hl
 have ld:=lt_of_block hd
 have hsz:=hb.size
 refine ⟨hNw,o0,o1,o2,v,b.same (k.block _ lb (fun e=>(hf _ (hD _ e)).1 rfl)),owns_same ow (fun q hq=>k.block q (ow.lt q hq).2 (fun e=>(hf _ (hD _ e)).2.2.2 hq.symm)),(k.block _ ll (fun e=>(hf _ (hD _ e)).2.2.1 rfl)).trans hl,(k.block _ ld (fun e=>(hf _ (hD _ e)).2.1 rfl)).trans hd,hb.trans ⟨k.os,k.tape,k.output,k.size,fun j hj=>k.block j (by omega) (fun e=>by have:=hN _ e;omega)⟩,?_⟩
 intro j hj
 rcases hF' j hj with e | e
 ·exact hf j e
 ·refine ⟨by omega,by omega,by omega,fun q=>?_⟩
  have:=(ow.lt j q.symm).2
  omega
theorem CSg.alloc {cf:Sp→Value}{TE TA:Nat}{w:World}{N b0 dB lB:Nat}{rc:Loop}{F:Nat→Prop}{pre:List Sp}{W:World} (h:CSg cf TE TA w N b0 dB lB rc F pre W) (o:Obj):CSg cf TE TA w N b0 dB lB rc F pre (W.alloc o) :=
 h.fr (D:=fun _=>False) ((Fr.refl _ _).alloc _) (fun _ e=>e.elim) (fun _ e=>e.elim) (fun _ e=>.inl e)
theorem own_otherg {W:World}{TE N n k:Nat}{v:Value}{xs:List Value}{o:Obj} (ow:W.ownsRow N TE 1 v n xs) (hk:W.heap[k]? = some o) (ho:∀ cs,o≠.cells cs TE (0,0)):some k≠v.ownBlock:=by
 intro e
 rcases ow.2 with ⟨rfl,_⟩ | ⟨g',cap',cur,rfl,_,hg,_⟩
 ·simp [Value.ownBlock] at e
 ·simp [Value.ownBlock] at e
  subst e
  rw [hk] at hg
  exact ho _ (Option.some.inj hg)
theorem CSg.put {cf:Sp→Value}{TE TA:Nat}{w:World}{N b0 dB lB:Nat}{rc rc':Loop}{F:Nat→Prop}{pre:List Sp}{W:World} (h:CSg cf TE TA w N b0 dB lB rc F pre W):CSg cf TE TA w N b0 dB lB rc' F pre (W.putObj lB (.loop rc')):=by
 obtain ⟨hNw,o0,o1,o2,v,b,ow,hl,hd,hb,hf⟩:=h
 have ll:=lt_of_block hl
 have hsz:=hb.size
 have ht:∀ k,k≠lB→(W.putObj lB (.loop rc')).heap[k]? = W.heap[k]?:=fun k hk=>World.putObj_heap_other hk
 have n1:=own_otherg ow hl (fun cs e=>by cases e)
 exact ⟨hNw,o0,o1,o2,v,b.same (ht _ (by omega)),owns_same ow (fun q hq=>ht q (fun e=>n1 (by rw [← e];exact hq.symm))),World.putObj_heap_same ll,(ht _ (by omega)).trans hd,hb.trans ⟨rfl,rfl,rfl,by simp [World.putObj],fun k hk=>ht k (by omega)⟩,hf⟩
theorem CSg.came {cf:Sp→Value}{TE TA:Nat} (hTT:TA≠TE) {w:World}{N b0 dB lB:Nat}{rc:Loop}{F:Nat→Prop}{pre:List Sp}{W W1:World}{x:Sp}{v:Value}{g cap:Nat}{o:Obj} (hNw:N=w.heap.size) (o0:N≤b0) (o1:b0 < dB) (o2:dB < lB) (b:Box W b0 v TA) (ow:W.ownsRow N TE 1 v pre.length (pre.map cf)) (hl:W.heap[lB]? = some (.loop rc)) (hd:W.heap[dB]? = some (.deferred (some []))) (hb:Below N w W) (hf:∀ k,F k→k≠b0∧k≠dB∧k≠lB∧some k≠v.ownBlock) (hF:∀ k,F k→k < W.heap.size)
  (ow1:W1.ownsRow N TE 1 (.slice (some ⟨g,0,none⟩) (pre.length+1) cap) (pre.length+1) (pre.map cf ++ [cf x])) (hgr:(W.alloc o).grownBy W1 v.ownBlock) (hat:v.ownBlock=some g∨g=W.heap.size+1) :
  CSg cf TE TA w N b0 dB lB rc F (pre ++ [x]) (W1.setCell ⟨b0,0,none⟩ (.slice (some ⟨g,0,none⟩) (pre.length+1) cap))∧Fr (fun k=>k=b0∨some k=v.ownBlock) W (W1.setCell ⟨b0,0,none⟩ (.slice (some ⟨g,0,none⟩) (pre.length+1) cap)):=by
 have hsz:=hb.size
 have lb:=b.lt
 have ll:=lt_of_block hl
 have ld:=lt_of_block hd
 have n1:=own_otherg ow b (fun cs e=>by cases e;exact hTT rfl)
 have n2:=own_otherg ow hl (fun cs e=>by cases e)
 have n3:=own_otherg ow hd (fun cs e=>by cases e)
 have hg1:∀ k,k < W.heap.size→some k≠v.ownBlock→W1.heap[k]? = W.heap[k]?:=fun k hk e=>(hgr.block k (by simp;omega) e).trans ((below_alloc W o).block k hk)
 have hgs:=hgr.size
 simp at hgs
 have gN:b0≠g:=by
  rcases hat with h | h
  ·intro e;subst e;exact n1 h.symm
  ·omega
 have hset:∀ k,k≠b0→(W1.setCell ⟨b0,0,none⟩ (.slice (some ⟨g,0,none⟩) (pre.length+1) cap)).heap[k]? = W1.heap[k]?:=fun k hk=>Below.heap_setCell _ _ _ _ (by simpa using hk)
 have fr0:Fr (fun k=>some k=v.ownBlock) W W1:=((Fr.refl _ W).alloc o).trans (E:=fun k=>some k=v.ownBlock) ⟨hgr.os,hgr.tape,hgr.output,hgr.size,fun k hk e=>hgr.block k hk e⟩ (fun _ _ e=>e)
 have fr1:Fr (fun k=>k=b0∨some k=v.ownBlock) W (W1.setCell ⟨b0,0,none⟩ (.slice (some ⟨g,0,none⟩) (pre.length+1) cap)):=(fr0.mono (fun _ e=>.inr e)).setCell _ (.inl (.inl rfl))
 refine ⟨⟨hNw,o0,o1,o2,_,(b.same (hg1 _ lb n1)).set _,?_,(hset _ (by omega)).trans ((hg1 _ ll n2).trans hl),(hset _ (by omega)).trans ((hg1 _ ld n3).trans hd),?_,?_⟩,fr1⟩
 ·rw [List.length_append,List.length_singleton,List.map_append]
  exact owns_same ow1 (fun q hq=>hset q (by simp [Value.ownBlock] at hq;omega))
 ·refine hb.trans ⟨fr1.os,fr1.tape,fr1.output,fr1.size,fun k hk=>fr1.block k (by omega) ?_⟩
  rintro (e | e)
  ·omega
  ·have:=(ow.lt k e.symm).1
   omega
 ·intro k hk
  obtain ⟨f1,f2,f3,f4⟩:=hf k hk
  refine ⟨f1,f2,f3,fun e=>?_⟩
  simp [Value.ownBlock] at e
  subst e
  rcases hat with h | h
  ·exact f4 h.symm
  ·have:=hF _ hk;omega
theorem collect_iterg {cf:Sp→Value}{TE TA:Nat}{C:Nat→Prop}{w w1:World}{N b0 K n:Nat}{cap:Array Value}{L:List SP}{F D:Nat→Prop} (rc:Loop) (hNw:N=w.heap.size) (o0:N≤b0) (o1:b0 < w1.heap.size) (b:Box w1 b0 (.slice none 0 0) TA) (hb:Below N w w1) (hS:StG L F D w1 (.func (.func K) #[] cap)) (hF2:∀ k,F k→k≠b0) (hFC:∀ k,F k→C k∨N≤k) (hDN:∀ k,D k→N≤k)
  (hround:∀ (pre:List Sp) (x:Sp) (W:World) (v:Value) (F:Nat→Prop),pre.length < L.length→N=w.heap.size→Box W b0 v TA→W.ownsRow N TE 1 v pre.length (pre.map cf)→W.heap[w1.heap.size+1]? = some (.loop rc)→W.heap[w1.heap.size]? = some (.deferred (some []))→Below N w W→(∀ k,F k→k≠b0∧k≠w1.heap.size∧k≠w1.heap.size+1∧some k≠v.ownBlock)→(∀ k,F k→k < W.heap.size)→
   YieldAt Fence.wide (n - 1) Tryz.prog (w1.heap.size+1) #[spv x] W fun e W'=>e = .returned (.bool true)∧CSg cf TE TA w N b0 w1.heap.size (w1.heap.size+1) rc F (pre ++ [x]) W'∧Fr (fun k=>k=b0∨k=w1.heap.size+1∨some k=v.ownBlock) W W') :
  CallsIn Fence.wide n Tryz.prog 105 #[.func (.func K) #[] cap,.func (.yield (w1.heap.size+1)) #[] #[]] ((w1.alloc (.deferred (some []))).alloc (.loop rc)) fun e W'=>(∃ v,e = .returned v)∧∃ pre G,CSg cf TE TA w N b0 w1.heap.size (w1.heap.size+1) rc G pre W'∧HoldsL L G W' pre∧(∀ k,G k→C k∨N≤k):=by
 have hE:Enters Tryz.prog K:=hS.enters
 have hFl:=hS.lt
 refine all_ing n (w1.heap.size+1) K cap
  (fun rest W=>∃ pre Ps F D G,Ps ++ rest=L∧CSg cf TE TA w N b0 w1.heap.size (w1.heap.size+1) rc (fun k=>F k∨G k) pre W∧StG rest F D W (.func (.func K) #[] cap)∧HoldsL Ps G W pre∧(∀ k,D k→N≤k)∧(∀ k,G k→¬ D k)∧(∀ k,F k→C k∨N≤k)∧(∀ k,G k→C k∨N≤k))
  (fun s rest W=>∃ pre Ps P F D G,Ps ++ P :: rest=L∧CSg cf TE TA w N b0 w1.heap.size (w1.heap.size+1) rc (fun k=>F k∨G k) pre W∧StG rest F D W (.func (.func K) #[] cap)∧HoldsL (Ps ++ [P]) G W (pre ++ [s])∧(∀ k,D k→N≤k)∧(∀ k,G k→¬ D k)∧(∀ k,F k→C k∨N≤k)∧(∀ k,G k→C k∨N≤k))
  (fun W=>∃ pre G,CSg cf TE TA w N b0 w1.heap.size (w1.heap.size+1) rc G pre W∧HoldsL L G W pre∧(∀ k,G k→C k∨N≤k)) hE ?_ ?_ ?_ ?_ ?_ L _ ?_
 ·rintro P rest W ⟨pre,Ps,F,D,G,he,hc,hs,hH,hd,hGD,hFC,hGC⟩
  have hsub:=hs.sub
  obtain ⟨K',cap',e',_,hF,hD,h⟩:=hs
  cases e'
  refine (h W (SameOn.refl _ _) (Nat.le_refl _)).mono ?_
  rintro e W' ⟨fr,s,G1,F',D',rfl,hP,hS',hF',hD',hG1,hG1D⟩
  have hsz:N≤W.heap.size:=by obtain ⟨hN,_,_,_,_,_,_,_,_,hb,_⟩:=hc;rw [hN];exact hb.size
  have hGl:=hH.1
  refine ⟨s,rfl,pre,Ps,P,F',D',fun k=>G k∨G1 k,he,hc.fr fr (by grind) hd (by grind),hS',(hH.after fr hGD).snoc hP,by grind,by grind,by grind,by grind⟩
 ·rintro s rest W o ⟨pre,Ps,P,F,D,G,he,hc,hs,hH,hd⟩
  exact ⟨pre,Ps,P,F,D,G,he,hc.alloc o,hs.move (fun k hk=>(below_alloc W o).block k (hs.lt k hk)) (by simp),hH.move (fun k hk=>(below_alloc W o).block k (hH.1 k hk)) (by simp),hd⟩
 ·rintro s rest W ⟨pre,Ps,P,F,D,G,he,⟨hN,p0,p1,p2,v,bx,ow,hl,hdf,hbl,hf⟩,hs,hH,hd,hGD,hFC,hGC⟩
  have hlen:=(hH.2 W (SameOn.refl _ _) (Nat.le_refl _)).len
  obtain ⟨fn,tmps,assign,body,hy,hR⟩:=hround pre s W v (fun k=>F k∨G k) (by rw [← he];simp at hlen ⊢;omega) hN bx ow hl hdf hbl hf (fun k hk=>hk.elim (hs.lt k) (hH.1 k))
  refine ⟨fn,tmps,assign,body,hy,hR.mono ?_⟩
  rintro e W' ⟨rfl,hc',fr'⟩
  exact ⟨rfl,pre ++ [s],Ps ++ [P],F,D,G,by rw [← he];simp,hc',hs.after fr' (by grind),hH.after fr' (by grind),hd,hGD,hFC,hGC⟩
 ·rintro W ⟨pre,Ps,F,D,G,he,hc,hs,hH,hd,hGD,hFC,hGC⟩
  obtain ⟨K',cap',e',_,hF,hD,h⟩:=hs
  cases e'
  refine (h W (SameOn.refl _ _) (Nat.le_refl _)).mono ?_
  rintro e W' ⟨fr,rfl⟩
  simp only [List.append_nil] at he
  subst he
  exact ⟨rfl,pre,G,hc.fr fr (by grind) hd (by grind),hH.after fr hGD,hGC⟩
 ·rintro W o ⟨pre,G,hc,hH,hGC⟩
  exact ⟨pre,G,hc.alloc o,hH.move (fun k hk=>(below_alloc W o).block k (hH.1 k hk)) (by simp),hGC⟩
 ·have bl:=below_alloc2 w1 (.deferred (some [])) (.loop rc)
  refine ⟨[],[],F,D,fun _=>False,rfl,⟨hNw,o0,by omega,by omega,.slice none 0 0,b.same (bl.block _ b.lt),World.ownsRow_nil _ _ _ _,heap_new2' w1 _ _,(Below.heap_alloc _ _ _ (by simp)).trans (heap_new w1 _),hb.trans (bl.mono (by have:=hb.size;omega)),?_⟩,hS.move (fun k hk=>bl.block k (hFl k hk)) bl.size,HoldsL.nil _,hDN,by grind,hFC,by grind⟩
  intro k hk
  have hk:F k:=by simpa using hk
  have:=hFl k hk
  exact ⟨hF2 k hk,by omega,by omega,by simp [Value.ownBlock]⟩
end Go.Proofs.Tryz
namespace Go.Proofs.Tryz
set_option maxHeartbeats 16000000
open Go.RowKit Go.Shelf
set_option maxRecDepth 100000
attribute [local go_sem] Oper.semAt_some
def OpensG (C:Nat→Prop) (w0:World) (fv:Value) (kn:Option Addr) (d:Int) (s:Sp) (Ls:List SP):Prop:=(∀ k,C k→k < w0.heap.size)∧∀ w,SameOn C w0 w→w0.heap.size≤w.heap.size→
 Calls Tryz.prog 22 #[.agg #[.pointer kn,.int .i64 d],fv,spv s] w (MadeC Ls C w)
theorem MadeC.more {L:List SP}{C C':Nat→Prop}{w w':World}{e:Ending} (h:MadeC L C w e w') (hC:∀ k,C k→C' k∨w.heap.size≤k):MadeC L C' w e w':=by
 obtain ⟨k,K,cap,he,F,D,hS,hF,hD⟩:=h
 exact ⟨k,K,cap,he,F,D,hS,by grind,hD⟩
theorem owns_low0 {w:World}{N e s n:Nat}{v:Value}{xs:List Value} (h:w.ownsRow N e s v n xs):w.ownsRow 0 e s v n xs:=by
 obtain ⟨h1,h2⟩:=h
 refine ⟨h1,?_⟩
 rcases h2 with h2 | ⟨g,cap,cur,e,hg,h3⟩
 ·exact .inl h2
 ·exact .inr ⟨g,cap,cur,e,Nat.zero_le _,h3⟩
theorem begun_roundg {cf:Sp→Value}{TE TA:Nat}{w W:World}{N b0 dB lB:Nat}{rc:Loop}{pre:List Sp}{v:Value} (x:Sp) (hst:rc.state = .ready) (hN:N=w.heap.size) (o0:N≤b0) (o1:b0 < dB) (o2:dB < lB) (b:Box W b0 v TA) (ow:W.ownsRow N TE 1 v pre.length (pre.map cf)) (hl:W.heap[lB]? = some (.loop rc)) (hd:W.heap[dB]? = some (.deferred (some []))) (hb:Below N w W) :
  ∃ Wb,(Instr.beginRound lB).run Tryz.prog (W.alloc (.cells #[iv x.1,.pointer x.2] 75)) = .ok () Wb∧Box Wb b0 v TA∧Wb.ownsRow N TE 1 v pre.length (pre.map cf)∧Wb.heap[lB]? = some (.loop { rc with state:=.busy })∧Wb.heap[dB]? = some (.deferred (some []))∧Below N w Wb∧SpotB Wb W.heap.size x∧Wb.heap.size=W.heap.size+1∧Fr (· = lB) W Wb:=by
 have hl1:(W.alloc (.cells #[iv x.1,.pointer x.2] 75)).heap[lB]? = some (.loop rc):=(Below.heap_alloc _ _ _ (lt_of_block hl)).trans hl
 have ll:=lt_of_block hl
 have ld:=lt_of_block hd
 have hsz:=hb.size
 have ht:∀ k,k≠lB→((W.alloc (.cells #[iv x.1,.pointer x.2] 75)).putObj lB (.loop { rc with state:=.busy })).heap[k]? = (W.alloc (.cells #[iv x.1,.pointer x.2] 75)).heap[k]?:=fun k hk=>World.putObj_heap_other hk
 have ht2:∀ k,k < W.heap.size→k≠lB→((W.alloc (.cells #[iv x.1,.pointer x.2] 75)).putObj lB (.loop { rc with state:=.busy })).heap[k]? = W.heap[k]?:=fun k h hk=>(ht k hk).trans (Below.heap_alloc _ _ _ h)
 have fr:Fr (· = lB) W ((W.alloc (.cells #[iv x.1,.pointer x.2] 75)).putObj lB (.loop { rc with state:=.busy })):=⟨rfl,rfl,rfl,by simp [World.putObj],fun k hk e=>ht2 k hk e⟩
 have n1:=own_otherg ow hl (fun cs h=>by cases h)
 refine ⟨_,run_beginRound hl1 hst,b.same (ht2 _ b.lt (by omega)),owns_same ow (fun q hq=>ht2 q (ow.lt q hq).2 (fun e=>n1 (by rw [← e];exact hq.symm))),World.putObj_heap_same (by simp;omega),(ht2 _ ld (by omega)).trans hd,hb.trans ⟨rfl,rfl,rfl,by simp [World.putObj],fun k hk=>ht2 k (by omega) (by omega)⟩,(ht _ (by omega)).trans (heap_new W _),by simp [World.putObj],fr⟩
theorem collect_okg {C:Nat→Prop}{w0 w:World}{T1 b1:Nat}{kn:Option Addr}{d:Int}{x:IV}{Ls:List SP} (hO:OpensG C w0 (.iface T1 (.pointer (some ⟨b1,0,none⟩))) kn d (x,none) Ls) (hs:SameOn C w0 w) (hB:w0.heap.size≤w.heap.size) (hL2:Ls.length≤100000000) :
  Calls Tryz.prog 124 #[.agg #[.pointer kn,.int .i64 d],.iface T1 (.pointer (some ⟨b1,0,none⟩)),.agg #[iv x,.pointer none]] w fun e w'=>Below w.heap.size w w'∧∃ y G,e = .returned (iv y)∧HoldsP (ArrOf Ls) G w' (y,none)∧∀ k,G k→C k∨w.heap.size≤k:=by
 obtain ⟨T,u⟩:=x
 obtain ⟨i0,hi0,hz0,hz1,hz2⟩:=info_parts (show (Tryz.prog.info? 32).map (fun i=>(i.zero,i.size,i.bytes))=some (some .nilIface,1,16) by kernel_rfl)
 obtain ⟨hCl,hO⟩:=hO
 have k3:=below_alloc3 w (.cells #[.pointer kn,.int .i64 d] 71) (.cells #[.iface T u,.pointer none] 75) (.cells #[.slice none 0 0] 86)
 have x2:Box _ (w.heap.size+2) (.slice none 0 0) 86:=heap_new3 w (.cells #[.pointer kn,.int .i64 d] 71) (.cells #[.iface T u,.pointer none] 75) (.cells #[.slice none 0 0] 86)
 have hO3:=hO _ (hs.trans (fun k hk=>k3.block k (Nat.lt_of_lt_of_le (hCl k hk) hB))) (Nat.le_trans hB k3.size)
 clear hO
 simp only [iv,spv] at hO3 ⊢
 refine (callsIn_wide (n:=4)).1 ?_
 refine callsIn_of_wp_marks Tryz.func124 rfl trivial ?_ rfl
 simp only [Tryz.ntmps124,List.size_toArray,List.length_cons,List.length_nil,Nat.reduceAdd,Nat.reduceSub,Array.replicate_succ,Array.replicate_zero,List.push_toArray,List.append_toArray,List.nil_append,List.cons_append]
 gi_wp2
 refine ⟨trivial,(callsIn_wide.2 hO3).mono ?_⟩
 rintro e w1 ⟨k1,K,cap,rfl,F,D,hS,hF,hD⟩
 gi_wp2
 have hk1:=k1.size
 simp only [World.size_alloc] at hk1 hF hD
 refine range_method (by omega) rfl (enters_of Tryz.func105 (by kernel_rfl) rfl) ?_
 intro fn
 ·refine (collect_iterg (cf:=fun t=>iv t.1) (TE:=32) (TA:=86) (C:=C) (b0:=w.heap.size+2) _ rfl (by omega) (by omega) (x2.same (k1.block _ (by simp))) (k3.trans (k1.mono (by simp;omega))) hS (by grind) (by grind) (by grind) ?_).mono ?_
  ·intro pre x W v F' hlen hN bx ow hl hdf hbl hf hFl
   obtain ⟨va,vl,vc,rfl⟩:=owns_shape1 ow
   obtain ⟨Wb,hbr,b1,ow1,hl1,hd1,hbl1,hsp,hsz,fr1⟩:=begun_roundg x rfl hN (by omega) (by omega) (by omega) bx ow hl hdf hbl
   obtain ⟨⟨Tx,ux⟩,qx⟩:=x
   simp only [iv] at hbr
   show YieldAt Fence.wide (3 - 1) Tryz.prog (w1.heap.size+1) #[.agg #[.iface Tx ux,.pointer qx]] W _
   refine ⟨fn,_,_,_,run_yield hl rfl,roundIn_of_wpIn trivial ?_⟩
   clear hl
   have HS:Hid _:=hsz
   clear hsz
   gi_wp2
   refine ⟨Wb,hbr,?_⟩
   have c0:=b1.cell
   have c1:=b1.free
   have c2:=b1.lt
   obtain ⟨s0,s1,_,_,s4⟩:=hsp.facts
   gi_wp2_with (gi_at_builtin;refine wpListIn_append_lies _ rfl _ _ 86 rfl w.heap.size 32 i0 _ 1 16 Tryz.underlying86 hi0 hz0 hz1 hz2 rfl (by omega) _ pre.length (pre.map fun t=>iv t.1) rfl (ow1.alloc _) ⟨Wb.heap.size,0,none⟩ 1 1 [.iface Tx ux] rfl rfl (World.news_of_block (cs:=#[.iface Tx ux]) (t:=32) (fr:=(0,0)) (heap_new Wb _)) (by simp [Value.oneCell']) (by omega) (by unfold maxLen;omega) (by omega) (by have:=hbl1.size;simp;omega) (Wb.heap.size+1) (by simp) ?_;intro g2 cap2 w2 ow2 hgr hat hlt2;have b2:=b1.same ((hgr.block _ (by simp;omega) (own_otherg ow1 b1 (fun cs h=>by simp at h))).trans ((below_alloc Wb _).block _ c2));have d0:=b2.cell;have d1:=b2.free;have d2:=b2.lt)
   obtain ⟨hC,fr2⟩:=CSg.came (cf:=fun t=>iv t.1) (x:=((Tx,ux),qx)) (by decide) rfl (by omega) (by omega) (by omega) b1 ow1 hl1 hd1 hbl1 hf (fun k hk=>by have:=hFl k hk;have:=HS.out;omega) ow2 hgr hat
   have hl3:_=some (Obj.loop _):=hC.2.2.2.2.choose_spec.2.2.1
   have frA:Fr (fun k=>k=w.heap.size+2∨k=w1.heap.size+1∨some k=(Value.slice va vl vc).ownBlock) W _:=(fr1.mono (E:=fun k=>k=w.heap.size+2∨k=w1.heap.size+1∨some k=(Value.slice va vl vc).ownBlock) (fun _ e=>.inr (.inl e))).trans fr2 (fun _ _ e=>e.elim .inl (fun h=>.inr (.inr h)))
   refine ⟨_,_,run_endRound none hl3,rfl,hC.put,?_⟩
   exact ⟨frA.os,frA.tape,frA.output,by have:=frA.size;simpa [World.putObj] using this,fun k hk e=>(World.putObj_heap_other (fun h=>e (.inr (.inl h)))).trans (frA.block k hk e)⟩
  ·rintro e W2 ⟨⟨v,rfl⟩,pre,G,hC,hH,hGC⟩
   obtain ⟨-,-,-,-,v2,bv,ov,hl,hd,hb2,hGo⟩:=hC
   obtain ⟨va,vl,vc,rfl⟩:=owns_shape1 ov
   have p0:∀ o,(W2.putObj (w1.heap.size+1) o).cell? ⟨w.heap.size+1+1,0,none⟩=some (.slice va vl vc):=fun o=>Box.cell (bv.same (World.putObj_heap_other (by omega)))
   have p1:∀ o,(W2.putObj (w1.heap.size+1) o).heap[w1.heap.size]? = some (.deferred (some [])):=fun o=>(World.putObj_heap_other (by omega)).trans hd
   have p2:∀ o,Below w.heap.size w (W2.putObj (w1.heap.size+1) o):=fun o=>hb2.trans ⟨rfl,rfl,rfl,by simp [World.putObj],fun k hk=>World.putObj_heap_other (by omega)⟩
   have n1:=own_otherg ov hl (fun cs h=>by cases h)
   have p3:∀ o,(W2.putObj (w1.heap.size+1) o).ownsRow w.heap.size 32 1 (.slice va vl vc) pre.length (pre.map fun t=>iv t.1):=fun o=>owns_same ov (fun q hq=>World.putObj_heap_other (fun e=>n1 (by rw [← e];exact hq.symm)))
   have p4:∀ o o',HoldsL Ls G ((W2.putObj (w1.heap.size+1) o).putObj w1.heap.size o') pre:=fun o o'=>hH.move (fun k hk=>(World.putObj_heap_other (by grind)).trans (World.putObj_heap_other (by grind))) (by simp [World.putObj])
   have nD:=own_otherg ov hd (fun cs h=>by cases h)
   refine ⟨none,_,run_endLoop hl (by simp),?_⟩
   gi_wp2
   refine ⟨by simp,.inl ⟨_,_,rfl,run_takeDeferred (p1 _),?_⟩⟩
   refine ⟨_,results_tmp rfl _ _ _,(p2 _).trans ⟨rfl,rfl,rfl,by simp [World.putObj],fun k hk=>World.putObj_heap_other (by omega)⟩,(86,.slice va vl vc),fun k=>G k∨some k=(Value.slice va vl vc).ownBlock,rfl,?_,?_⟩
   ·have p5:∀ o o',((W2.putObj (w1.heap.size+1) o).putObj w1.heap.size o').ownsRow w.heap.size 32 1 (.slice va vl vc) pre.length (pre.map fun t=>iv t.1):=fun o o'=>owns_same (p3 o) (fun q hq=>World.putObj_heap_other (fun e=>nD (by rw [← e];exact hq.symm)))
    refine ⟨fun k hk=>hk.elim ((p4 _ _).1 k) (fun e=>((p5 _ _).lt k e.symm).2),fun w' hs' hl'=>⟨rfl,.slice va vl vc,pre,rfl,owns_low0 (owns_same (p5 _ _) (fun q hq=>hs' q (.inr hq.symm))),(p4 _ _).2 w' (hs'.mono (fun _ h=>.inl h)) hl'⟩⟩
   ·intro k hk
    rcases hk with h | h
    ·exact hGC k h
    ·exact .inr (ov.lt k h.symm).1
end Go.Proofs.Tryz
namespace Go.Proofs.Tryz
set_option maxHeartbeats 16000000
open Go.RowKit
set_option maxRecDepth 10000
theorem MadeC.under {L:List SP}{C:Nat→Prop}{w w1 w':World}{e:Ending} (h:MadeC L C w1 e w') (k:Below w.heap.size w w1):MadeC L C w e w':=by
 obtain ⟨k1,K,cap,he,hM⟩:=h
 exact ⟨k.trans (k1.mono k.size),K,cap,he,hM.low k.size (fun k hk=>.inl hk)⟩
theorem MadeC.same {L:List SP}{C:Nat→Prop}{w w' w'':World}{e:Ending} (h:MadeC L C w e w') (k:Below w'.heap.size w' w''):MadeC L C w e w'':=by
 obtain ⟨k1,K,cap,he,hM⟩:=h
 exact ⟨k1.trans (k.mono k1.size),K,cap,he,hM.upon k⟩
theorem opensG_ident {C G:Nat→Prop}{w0:World}{b:Nat}{kn:Option Addr}{d:Int}{P:SP}{s:Sp} (hC:∀ k,C k→k < w0.heap.size) (hP:HoldsP P G w0 s) (hG:∀ k,G k→C k):OpensG C w0 (.iface 125 (.pointer (some ⟨b,0,none⟩))) kn d s [P]:=by
 refine ⟨hC,fun w hs hl=>?_⟩
 have hP1:=hP.move (hs.mono hG) hl
 have hO:∀ w1,Below w.heap.size w w1→Calls Tryz.prog 43 #[spv s] w1 (MadeC [P] C w1):=fun w1 k=>one_okg (hP1.move (fun b hb=>k.block b (hP1.1 b hb)) k.size) hG
 obtain ⟨⟨T,u⟩,q⟩:=s
 simp only [spv,iv] at hO ⊢
 have a0:=hitIdentity
 clear hP hP1
 go_enter Tryz.func22,Tryz.ntmps22
 go_wp2_with (go_at_call 43;refine (hO _ (below_alloc2 w _ _)).mono ?_;rintro e w1 ⟨k1,K,cap,rfl,hM⟩)
 go_ret
 exact MadeC.under ⟨k1,K,cap,rfl,hM⟩ (below_alloc2 w _ _)
theorem open_bing {C:Nat→Prop}{Ls:List SP}{w:World}{kn:Option Addr}{d:Int}{b:Nat}{s:Sp} (h:∀ w1,Below w.heap.size w w1→Calls Tryz.prog 64 #[.agg #[.pointer kn,.int .i64 d],.pointer (some ⟨b,0,none⟩),spv s] w1 (MadeC Ls C w1)) :
  Calls Tryz.prog 22 #[.agg #[.pointer kn,.int .i64 d],.iface 171 (.pointer (some ⟨b,0,none⟩)),spv s] w (MadeC Ls C w):=by
 have m0:=missIdentity;have m1:=missDescent;have m2:=missField;have m3:=missIndex;have m4:=missEach;have m5:=missOptional;have m6:=missTry;have m7:=missLabel;have m8:=missBreak;have m9:=missIf;have m10:=missBind;have m11:=missReduce;have m12:=missForeach;have m13:=missDef;have m14:=missCall;have m15:=hitBinary
 obtain ⟨⟨T,u⟩,q⟩:=s
 simp only [spv,iv] at h ⊢
 go_enter Tryz.func22,Tryz.ntmps22
 go_wp2_with (go_at_call 64;refine (h _ (below_alloc2 w _ _)).mono ?_;rintro e w1 ⟨k1,K,cap,rfl,hM⟩)
 go_ret
 exact MadeC.under ⟨k1,K,cap,rfl,hM⟩ (below_alloc2 w _ _)
theorem open_callg {C:Nat→Prop}{Ls:List SP}{w:World}{kn:Option Addr}{d:Int}{b:Nat}{s:Sp} (h:∀ w1,Below w.heap.size w w1→Calls Tryz.prog 63 #[.agg #[.pointer kn,.int .i64 d],.pointer (some ⟨b,0,none⟩),spv s] w1 (MadeC Ls C w1)) :
  Calls Tryz.prog 22 #[.agg #[.pointer kn,.int .i64 d],.iface 169 (.pointer (some ⟨b,0,none⟩)),spv s] w (MadeC Ls C w):=by
 have m0:=missIdentity;have m1:=missDescent;have m2:=missField;have m3:=missIndex;have m4:=missEach;have m5:=missOptional;have m6:=missTry;have m7:=missLabel;have m8:=missBreak;have m9:=missIf;have m10:=missBind;have m11:=missReduce;have m12:=missForeach;have m13:=missDef;have m14:=hitCall
 obtain ⟨⟨T,u⟩,q⟩:=s
 simp only [spv,iv] at h ⊢
 go_enter Tryz.func22,Tryz.ntmps22
 go_wp2_with (go_at_call 63;refine (h _ (below_alloc2 w _ _)).mono ?_;rintro e w1 ⟨k1,K,cap,rfl,hM⟩)
 go_ret
 exact MadeC.under ⟨k1,K,cap,rfl,hM⟩ (below_alloc2 w _ _)
def NextG (C:Nat→Prop) (w0:World) (fv:Value) (kn:Option Addr) (d:Int) (P:SP) (Qs:List SP):Prop:=∀ w t G,SameOn C w0 w→w0.heap.size≤w.heap.size→HoldsP P G w t→OpensG (fun k=>C k∨G k) w fv kn d t Qs
theorem enters_bin1:Enters Tryz.prog 118:=enters_of Tryz.func118 (by kernel_rfl) rfl
theorem then_pipe {C:Nat→Prop}{w0 w:World}{pb fb b T2 b2:Nat}{kn:Option Addr}{d:Int}{P:SP}{Qs:List SP} (hp:PlaceBox w pb kn d) (hf:Box w fb (.pointer (some ⟨b,0,none⟩)) 171) (hC:∀ k,C k→k < w0.heap.size) (hb:C b) (c2:w0.cell? ⟨b,2,none⟩=some (.iface T2 (.pointer (some ⟨b2,0,none⟩)))) (hs:SameOn C w0 w) (hl:w0.heap.size≤w.heap.size) (hN:NextG C w0 (.iface T2 (.pointer (some ⟨b2,0,none⟩))) kn d P Qs) :
  ThenG (fun k=>C k∨k=pb∨k=fb) w (.func (.func 118) #[] #[.pointer (some ⟨pb,0,none⟩),.pointer (some ⟨fb,0,none⟩)]) P Qs:=by
 have hpl:=hp.lt
 have hfl:=hf.lt
 refine ⟨_,_,rfl,enters_bin1,by grind,?_⟩
 intro w' s G hs' hl' hP
 have hp':=hp.same (hs' pb (by simp))
 have hf':=hf.same (hs' fb (by simp))
 have p0:=hp'.c0
 have p1:=hp'.c1
 have p2:=hp'.lt
 have f0:=hf'.cell
 have f2:=hf'.lt
 have hs0:SameOn C w0 w':=hs.trans (hs'.mono (fun _ h=>.inl h))
 have n2:=hs0.cell hb c2
 have n3:b < w'.heap.size:=by have:=hC b hb;omega
 obtain ⟨hGl,hO⟩:=hN w' s G hs0 (Nat.le_trans hl hl') hP
 have HO:∀ w1,Below w'.heap.size w' w1→Calls Tryz.prog 22 #[.agg #[.pointer kn,.int .i64 d],.iface T2 (.pointer (some ⟨b2,0,none⟩)),spv s] w1 (MadeC Qs (fun k=>C k∨G k) w1):=fun w1 k=>hO w1 (fun j hj=>k.block j (hGl j hj)) k.size
 clear hO hP hN
 obtain ⟨⟨T,u⟩,q⟩:=s
 simp only [spv,iv] at HO ⊢
 obtain ⟨wA,hA⟩:∃ wA,wA=w'.alloc (.cells #[.iface T u,.pointer q] 75):=⟨_,rfl⟩
 have kW:Below w'.heap.size w' wA:=hA ▸ below_alloc w' _
 have wx:SpotB wA w'.heap.size ((T,u),q):=hA ▸ SpotB.new w' ((T,u),q)
 obtain ⟨x0,x1,_,_,x4⟩:=wx.facts
 have a0:=(kW.cell (p:=⟨pb,0,none⟩) p2).trans p0
 have a1:=(kW.cell (p:=⟨pb,1,none⟩) p2).trans p1
 have a2:=(kW.cell (p:=⟨fb,0,none⟩) f2).trans f0
 have a3:=(kW.cell (p:=⟨b,2,none⟩) n3).trans n2
 have s0:=six ((Below.refl _ wA).drew) a0 a1 a2 a3 x0 x1
 go_enter Tryz.func118,Tryz.ntmps118
 go_wp2_with fail
 rw [← hA]
 clear hA
 go_region_held3 (fun w2=>w2.cell? ⟨pb,0,none⟩=some (.pointer kn)∧w2.cell? ⟨pb,1,none⟩=some (.int .i64 d)∧w2.cell? ⟨fb,0,none⟩=some (.pointer (some ⟨b,0,none⟩))∧w2.cell? ⟨b,2,none⟩=some (.iface T2 (.pointer (some ⟨b2,0,none⟩)))∧w2.cell? ⟨w'.heap.size,0,none⟩=some (.iface T u)∧w2.cell? ⟨w'.heap.size,1,none⟩=some (.pointer q)) (first | exact s0 | exact e4 | go_keep)
  (first | (go_at_call 22;refine (HO _ kW.drew).mono ?_;rintro e w1 ⟨k1,K,cap,rfl,hM⟩;have kX:Below wA.heap.size wA w1:=(Below.refl _ _).drew.trans (k1.mono (by simp));have e4:=six kX a0 a1 a2 a3 x0 x1))
 all_goals
  go_wp2_with fail
  go_ret
  exact (MadeC.under (L:=Qs) (C:=fun k=>C k∨G k) ⟨k1,K,cap,rfl,hM⟩ kW.drew).more (by grind)
theorem three_boxes (w:World) (kn:Option Addr) (d:Int) (v:Value) (Tf:Nat) (s:Sp):∃ wA,wA=((w.alloc (.cells #[.pointer kn,.int .i64 d] 71)).alloc (.cells #[v] Tf)).alloc (.cells #[iv s.1,.pointer s.2] 75)∧Below w.heap.size w wA∧PlaceBox wA w.heap.size kn d∧Box wA (w.heap.size+1) v Tf∧SpotB wA (w.heap.size+2) s∧wA.heap.size=w.heap.size+3 :=
 ⟨_,rfl,below_alloc3 w _ _ _,heap_at1 w _ _ _,heap_at2 w _ _ _,heap_new3 w _ _ _,by simp⟩
theorem three_boxes2 (w:World) (kn:Option Addr) (d:Int) (v:Value) (Tf:Nat) (s:Sp):∃ wA,wA=((w.alloc (.cells #[.pointer kn,.int .i64 d] 71)).alloc (.cells #[iv s.1,.pointer s.2] 75)).alloc (.cells #[v] Tf)∧Below w.heap.size w wA∧PlaceBox wA w.heap.size kn d∧Box wA (w.heap.size+2) v Tf∧SpotB wA (w.heap.size+1) s∧wA.heap.size=w.heap.size+3 :=
 ⟨_,rfl,below_alloc3 w _ _ _,heap_at1 w _ _ _,heap_new3 w _ _ _,heap_at2 w _ _ _,by simp⟩
theorem opensG_pipe {C:Nat→Prop}{w0:World}{op:ByteArray}{b T1 b1 T2 b2:Nat}{kn:Option Addr}{d:Int}{s:Sp}{Lo:List (SP×List SP)} (hb:C b) (c0:w0.cell? ⟨b,0,none⟩=some (.iface T1 (.pointer (some ⟨b1,0,none⟩)))) (c1:w0.cell? ⟨b,1,none⟩=some (.string op)) (hop:(op.toList == [124])=true) (c2:w0.cell? ⟨b,2,none⟩=some (.iface T2 (.pointer (some ⟨b2,0,none⟩))))
  (hO:OpensG C w0 (.iface T1 (.pointer (some ⟨b1,0,none⟩))) kn d s (Lo.map (·.1))) (hN:∀ x∈Lo,NextG C w0 (.iface T2 (.pointer (some ⟨b2,0,none⟩))) kn d x.1 x.2) :
  OpensG C w0 (.iface 171 (.pointer (some ⟨b,0,none⟩))) kn d s (Lo.flatMap (·.2)):=by
 obtain ⟨hC,hO⟩:=hO
 refine ⟨hC,fun w0' hs0 hl0=>open_bing (fun w k0=>?_)⟩
 have hs:SameOn C w0 w:=hs0.trans (fun j hj=>k0.block j (Nat.lt_of_lt_of_le (hC j hj) hl0))
 have hl:w0.heap.size≤w.heap.size:=Nat.le_trans hl0 k0.size
 have n0:=hs.cell hb c0
 have n1:=hs.cell hb c1
 have n3:b < w.heap.size:=by have:=hC b hb;omega
 obtain ⟨⟨T,u⟩,q⟩:=s
 simp only [spv,iv]
 have wn1:=((below_alloc3 w (.cells #[.pointer kn,.int .i64 d] 71) (.cells #[.pointer (some ⟨b,0,none⟩)] 171) (.cells #[.iface T u,.pointer q] 75)).cell (p:=⟨b,1,none⟩) n3).trans n1
 go_enter Tryz.func64,Tryz.ntmps64
 go_wp2_with fail
 obtain ⟨wA,hA,kW,wp,wf,wx,wl⟩:=three_boxes w kn d (.pointer (some ⟨b,0,none⟩)) 171 ((T,u),q)
 have HO:Calls Tryz.prog 22 #[.agg #[.pointer kn,.int .i64 d],.iface T1 (.pointer (some ⟨b1,0,none⟩)),spv ((T,u),q)] wA.drew (MadeC (Lo.map (·.1)) C wA.drew):=hO _ (hs.trans (fun j hj=>kW.drew.block j (Nat.lt_of_lt_of_le (hC j hj) hl))) (Nat.le_trans hl kW.drew.size)
 have HT:∀ w1,Below wA.heap.size wA w1→∀ x∈Lo,ThenG (fun k=>C k∨k=w.heap.size∨k=w.heap.size+1) w1 (.func (.func 118) #[] #[.pointer (some ⟨w.heap.size,0,none⟩),.pointer (some ⟨w.heap.size+1,0,none⟩)]) x.1 x.2:=fun w1 k x hx=>then_pipe (wp.same (k.block _ wp.lt)) (wf.same (k.block _ wf.lt)) hC hb c2 (hs.trans (fun j hj=>(k.block j (by have:=hC j hj;omega)).trans (kW.block j (by have:=hC j hj;omega)))) (by have:=k.size;omega) (hN x hx)
 clear hO hN
 simp only [spv,iv] at HO hA
 obtain ⟨x0,x1,_,_,x4⟩:=wx.facts
 have a0:=wp.c0
 have a1:=wp.c1
 have a2:=wf.cell
 have a3:=(kW.cell (p:=⟨b,0,none⟩) n3).trans n0
 have a4:=(kW.cell (p:=⟨b,1,none⟩) n3).trans n1
 have s0:=six ((Below.refl _ wA).drew) a0 a1 a2 a3 x0 x1
 rw [← hA]
 clear hA
 go_region_held3 (fun w'=>w'.cell? ⟨w.heap.size,0,none⟩=some (.pointer kn)∧w'.cell? ⟨w.heap.size,1,none⟩=some (.int .i64 d)∧w'.cell? ⟨w.heap.size+1,0,none⟩=some (.pointer (some ⟨b,0,none⟩))∧w'.cell? ⟨b,0,none⟩=some (.iface T1 (.pointer (some ⟨b1,0,none⟩)))∧w'.cell? ⟨w.heap.size+2,0,none⟩=some (.iface T u)∧w'.cell? ⟨w.heap.size+2,1,none⟩=some (.pointer q)) (first | exact s0 | exact e4 | exact f4 | go_keep)
   (first
    | (go_at_call 22;refine HO.mono ?_;rintro e w1 ⟨k1,K,cap,rfl,F,D,hS,hF,hD⟩;have kX:Below wA.heap.size wA w1:=(Below.refl _ _).drew.trans (k1.mono (by simp));have e4:=six kX a0 a1 a2 a3 x0 x1;have hX:=kX.size;have hF':∀ k,F k→C k∨wA.heap.size≤k:=hF;have hD':∀ k,D k→wA.heap.size≤k:=hD)
    | (go_at_call 48;refine (each_okg hS ⟨_,_,rfl⟩ (by grind) (HT w1 kX) (by grind)).mono ?_;rintro e w2 ⟨k2,K2,cap2,F2,D2,rfl,hS2,hF2,hD2⟩;have f4:=six (kX.trans (k2.mono kX.size)) a0 a1 a2 a3 x0 x1))
 all_goals
  go_wp2_with fail
  go_ret
  exact .mk' (kW.trans ((kX.trans (k2.mono kX.size)).mono kW.size)) hS2 (by grind) (by grind)
end Go.Proofs.Tryz
