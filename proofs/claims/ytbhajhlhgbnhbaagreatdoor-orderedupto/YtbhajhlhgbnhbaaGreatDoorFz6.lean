import Derived.Test.YtbhajhlhgbnhbaaGreatDoorWj1
set_option linter.all false
namespace Go.Proofs.Tryz
set_option maxHeartbeats 16000000
open Go.RowKit
set_option maxRecDepth 10000
theorem enters_cond1:Enters Tryz.prog 102:=enters_of Tryz.func102 (by kernel_rfl) rfl
theorem then_cond {C:Nat→Prop}{pb fb sb b T2 b2 o:Nat}{w0 w:World}{kn:Option Addr}{d:Int}{x:IV}{c:Bool}{Qs:List SP} (hp:PlaceBox w pb kn d) (hf:Box w fb (.pointer (some ⟨b,0,none⟩)) 158) (hx:SpotB w sb (x,none)) (hb:C b) (ho:o=if c then 1 else 2) (c2:w0.cell? ⟨b,o,none⟩=some (.iface T2 (.pointer (some ⟨b2,0,none⟩)))) (hO:OpensG C w0 (.iface T2 (.pointer (some ⟨b2,0,none⟩))) kn d (x,none) Qs) (hs:SameOn C w0 w) (hl:w0.heap.size≤w.heap.size) :
  ThenG (fun k=>C k∨k=pb∨k=fb∨k=sb) w (.func (.func 102) #[] #[.pointer (some ⟨pb,0,none⟩),.pointer (some ⟨fb,0,none⟩),.pointer (some ⟨sb,0,none⟩)]) (Just (boolW c,none)) Qs:=by
 obtain ⟨hC,hO⟩:=hO
 have hpl:=hp.lt
 have hfl:=hf.lt
 have hxl:=hx.lt
 refine ⟨_,_,rfl,enters_cond1,by grind,?_⟩
 intro w' t G hs' hl' hP
 have ht:t=(boolW c,none):=hP.here
 subst ht
 have hGl:=hP.1
 clear hP
 have hs0:SameOn C w0 w':=hs.trans (hs'.mono (fun _ h=>.inl h))
 have hp':=hp.same (hs' pb (by simp))
 have hf':=hf.same (hs' fb (by simp))
 have hx':=hx.same (hs' sb (by simp))
 have n3:b < w'.heap.size:=by have:=hC b hb;omega
 obtain ⟨wA,hA⟩:∃ wA,wA=w'.alloc (.cells #[.iface 96 (.bool c),.pointer none] 75):=⟨_,rfl⟩
 have kW:Below w'.heap.size w' wA:=hA ▸ below_alloc w' _
 have HO:Calls Tryz.prog 22 #[.agg #[.pointer kn,.int .i64 d],.iface T2 (.pointer (some ⟨b2,0,none⟩)),spv (x,none)] wA.drew (MadeC Qs C wA.drew):=hO _ (hs0.trans (fun j hj=>kW.drew.block j (by have:=hC j hj;omega))) (by have:=kW.size;simp;omega)
 obtain ⟨T,u⟩:=x
 obtain ⟨x0,x1,_,_,x4⟩:=(hx'.same (kW.block _ hx'.lt)).facts
 simp only [spv,iv,boolW] at HO ⊢
 have a0:=(kW.cell (p:=⟨pb,0,none⟩) hp'.lt).trans hp'.c0
 have a1:=(kW.cell (p:=⟨pb,1,none⟩) hp'.lt).trans hp'.c1
 have a2:=(kW.cell (p:=⟨fb,0,none⟩) hf'.lt).trans hf'.cell
 have a3:=(kW.cell (p:=⟨b,o,none⟩) n3).trans (hs0.cell hb c2)
 have s0:=six ((Below.refl _ wA).drew) a0 a1 a2 a3 x0 x1
 clear hO c2
 cases c with
 | true =>
  simp only [if_true] at ho
  subst ho
  go_enter Tryz.func102,Tryz.ntmps102
  go_wp2_with (go_at_call 103;refine (isTrue_is _ _).mono ?_;rintro e w1 ⟨rfl,rfl⟩)
  rw [← hA]
  clear hA
  go_region_held3 (fun w1=>w1.cell? ⟨pb,0,none⟩=some (.pointer kn)∧w1.cell? ⟨pb,1,none⟩=some (.int .i64 d)∧w1.cell? ⟨fb,0,none⟩=some (.pointer (some ⟨b,0,none⟩))∧w1.cell? ⟨b,1,none⟩=some (.iface T2 (.pointer (some ⟨b2,0,none⟩)))∧w1.cell? ⟨sb,0,none⟩=some (.iface T u)∧w1.cell? ⟨sb,1,none⟩=some (.pointer none)) (first | exact s0 | exact e4 | go_keep)
   (first | (go_at_call 22;refine HO.mono ?_;rintro e w1 ⟨k1,K,cap,rfl,hM⟩;have kX:Below wA.heap.size wA w1:=(Below.refl _ _).drew.trans (k1.mono (by simp));have e4:=six kX a0 a1 a2 a3 x0 x1))
  all_goals
   go_wp2_with fail
   go_ret
   exact (MadeC.under (L:=Qs) (C:=C) ⟨k1,K,cap,rfl,hM⟩ kW.drew).more (by grind)
 | false =>
  simp only [Bool.false_eq_true,if_false] at ho
  subst ho
  go_enter Tryz.func102,Tryz.ntmps102
  go_wp2_with (go_at_call 103;refine (isTrue_is _ _).mono ?_;rintro e w1 ⟨rfl,rfl⟩)
  rw [← hA]
  clear hA
  go_region_held3 (fun w1=>w1.cell? ⟨pb,0,none⟩=some (.pointer kn)∧w1.cell? ⟨pb,1,none⟩=some (.int .i64 d)∧w1.cell? ⟨fb,0,none⟩=some (.pointer (some ⟨b,0,none⟩))∧w1.cell? ⟨b,2,none⟩=some (.iface T2 (.pointer (some ⟨b2,0,none⟩)))∧w1.cell? ⟨sb,0,none⟩=some (.iface T u)∧w1.cell? ⟨sb,1,none⟩=some (.pointer none)) (first | exact s0 | exact e4 | go_keep)
   (first | (go_at_call 22;refine HO.mono ?_;rintro e w1 ⟨k1,K,cap,rfl,hM⟩;have kX:Below wA.heap.size wA w1:=(Below.refl _ _).drew.trans (k1.mono (by simp));have e4:=six kX a0 a1 a2 a3 x0 x1))
  all_goals
   go_wp2_with fail
   go_ret
   exact (MadeC.under (L:=Qs) (C:=C) ⟨k1,K,cap,rfl,hM⟩ kW.drew).more (by grind)
theorem condition_g {C:Nat→Prop}{w0 w:World}{b T1 b1 T2 b2 o:Nat}{kn:Option Addr}{d:Int}{x:IV}{c:Bool}{Qs:List SP} (hb:C b) (c0:w0.cell? ⟨b,0,none⟩=some (.iface T1 (.pointer (some ⟨b1,0,none⟩)))) (ho:o=if c then 1 else 2) (c2:w0.cell? ⟨b,o,none⟩=some (.iface T2 (.pointer (some ⟨b2,0,none⟩))))
  (hO1:OpensG C w0 (.iface T1 (.pointer (some ⟨b1,0,none⟩))) kn d (x,none) [Just (boolW c,none)]) (hO2:OpensG C w0 (.iface T2 (.pointer (some ⟨b2,0,none⟩))) kn d (x,none) Qs) (hs:SameOn C w0 w) (hl:w0.heap.size≤w.heap.size) :
  Calls Tryz.prog 57 #[.agg #[.pointer kn,.int .i64 d],.pointer (some ⟨b,0,none⟩),.agg #[iv x,.pointer none]] w (MadeC Qs C w):=by
 have hC:=hO1.1
 have n0:=hs.cell hb c0
 have n3:b < w.heap.size:=by have:=hC b hb;omega
 obtain ⟨T,u⟩:=x
 simp only [iv]
 go_enter Tryz.func57,Tryz.ntmps57
 go_wp2_with fail
 obtain ⟨wA,hA,kW,wp,wf,wx,wl⟩:=three_boxes w kn d (.pointer (some ⟨b,0,none⟩)) 158 ((T,u),none)
 have HO:∀ w1,Below w.heap.size w w1→Calls Tryz.prog 22 #[.agg #[.pointer kn,.int .i64 d],.iface T1 (.pointer (some ⟨b1,0,none⟩)),.agg #[.iface T u,.pointer none]] w1 (MadeC [Just (boolW c,none)] C w1):=fun w1 k=>hO1.2 _ (hs.trans (fun j hj=>k.block j (Nat.lt_of_lt_of_le (hC j hj) hl))) (Nat.le_trans hl k.size)
 have HT:∀ w1,Below wA.heap.size wA w1→∀ y∈[(Just (boolW c,none),Qs)],ThenG (fun k=>C k∨k=w.heap.size∨k=w.heap.size+1∨k=w.heap.size+2) w1 (.func (.func 102) #[] #[.pointer (some ⟨w.heap.size,0,none⟩),.pointer (some ⟨w.heap.size+1,0,none⟩),.pointer (some ⟨w.heap.size+2,0,none⟩)]) y.1 y.2:=fun w1 k y hy=>by
  rw [List.mem_singleton] at hy
  subst hy
  exact then_cond (wp.same (k.block _ wp.lt)) (wf.same (k.block _ wf.lt)) (wx.same (k.block _ wx.lt)) hb ho c2 hO2 (hs.trans (fun j hj=>(k.block j (by have:=hC j hj;omega)).trans (kW.block j (by have:=hC j hj;omega)))) (by have:=k.size;omega)
 clear hO1 hO2
 simp only [iv] at hA
 obtain ⟨x0,x1,_,_,x4⟩:=wx.facts
 have a0:=wp.c0
 have a1:=wp.c1
 have a2:=wf.cell
 have a3:=(kW.cell (p:=⟨b,0,none⟩) n3).trans n0
 have s0:=six ((Below.refl _ wA).drew) a0 a1 a2 a3 x0 x1
 have e9:Hid ([(Just (boolW c,none),Qs)].flatMap (·.2)=Qs):=by show _=Qs;simp
 rw [← hA]
 clear hA
 go_region_held3 (fun w'=>w'.cell? ⟨w.heap.size,0,none⟩=some (.pointer kn)∧w'.cell? ⟨w.heap.size,1,none⟩=some (.int .i64 d)∧w'.cell? ⟨w.heap.size+1,0,none⟩=some (.pointer (some ⟨b,0,none⟩))∧w'.cell? ⟨b,0,none⟩=some (.iface T1 (.pointer (some ⟨b1,0,none⟩)))∧w'.cell? ⟨w.heap.size+2,0,none⟩=some (.iface T u)∧w'.cell? ⟨w.heap.size+2,1,none⟩=some (.pointer none)) (first | exact s0 | exact d4 | exact e4 | exact f4 | go_keep)
   (first
    | (go_at_call 50;refine plain_ok.mono ?_;rintro e w3 ⟨rfl,k3⟩;have kP:Below wA.heap.size wA w3:=(Below.refl _ _).drew.trans (k3.mono (by simp));have d4:=six kP a0 a1 a2 a3 x0 x1;have kQ:=kW.trans (kP.mono kW.size))
    | (go_at_call 22;refine (HO _ kQ).mono ?_;rintro e w1 ⟨k1,K,cap,rfl,F,D,hS,hF,hD⟩;have kX:Below wA.heap.size wA w1:=kP.trans (k1.mono kP.size);have e4:=six kX a0 a1 a2 a3 x0 x1;have hX:=kX.size;have hPs:=kP.size)
    | (go_at_call 48;refine (each_okg (Lo:=[(Just (boolW c,none),Qs)]) hS ⟨_,_,rfl⟩ (by grind) (HT w1 kX) (by grind)).mono ?_;rintro e w2 ⟨k2,K2,cap2,F2,D2,rfl,hS2,hF2,hD2⟩;have f4:=six (kX.trans (k2.mono kX.size)) a0 a1 a2 a3 x0 x1))
 all_goals
  go_wp2_with fail
  go_ret
  rw [e9.out] at hS2
  exact .mk' (kW.trans ((kX.trans (k2.mono kX.size)).mono kW.size)) hS2 (by grind) (by grind)
noncomputable def maskU (U:Nat→Prop) (w:World):World:={ w with heap:=w.heap.mapIdx fun k o=>open Classical in if U k then o else .deferred none }
theorem maskU_at (U:Nat→Prop) (w:World) (k:Nat):(maskU U w).heap[k]? = (w.heap[k]?).map fun o=>open Classical in if U k then o else .deferred none:=by
 unfold maskU
 simp [Array.getElem?_mapIdx]
theorem maskU_in {U:Nat→Prop}{w:World}{k:Nat} (h:U k):(maskU U w).heap[k]? = w.heap[k]?:=by
 rw [maskU_at]
 cases w.heap[k]? with
 | none=>rfl
 | some o=>simp [h]
theorem maskU_cells {U:Nat→Prop}{w:World}{k:Nat}{c:Array Value}{T:Nat}{fz:Nat×Nat} (h:(maskU U w).heap[k]? = some (.cells c T fz)):U k:=by
 refine Classical.byContradiction (fun hn=>?_)
 rw [maskU_at] at h
 cases hw:w.heap[k]? with
 | none=>rw [hw] at h;cases h
 | some o=>rw [hw] at h;simp [hn] at h
theorem maskU_size (U:Nat→Prop) (w:World):(maskU U w).heap.size=w.heap.size:=by simp [maskU]
theorem maskU_same (U:Nat→Prop) (w:World):SameOn U w (maskU U w):=fun _ hk=>maskU_in hk
theorem kept_mask {U:Nat→Prop}{w w':World} (h:SameOn U w w'):KeptV (maskU U w) w':=fun k c fz e=>by
 have hu:U k:=by rcases e with e | e <;> exact maskU_cells e
 rw [maskU_in hu]
 exact h k hu
theorem kept_masks {U U':Nat→Prop}{w w':World} (h:SameOn U w w') (hU:∀ k,U k→U' k):KeptV (maskU U w) (maskU U' w'):=fun k c fz e=>by
 have hu:U k:=by rcases e with e | e <;> exact maskU_cells e
 rw [maskU_in hu,maskU_in (hU k hu)]
 exact h k hu
theorem HoldsP.masked {P:SP}{G:Nat→Prop}{w:World}{s:Sp} (h:HoldsP P G w s):P (maskU G w) s:=h.2 _ (maskU_same G w) (Nat.le_of_eq (maskU_size G w).symm)
theorem HoldsP.ofMask {P:SP}{U:Nat→Prop}{w:World}{s:Sp} (hF:∀ w w' s,KeptV w w'→P w s→P w' s) (hU:∀ k,U k→k < w.heap.size) (h:P (maskU U w) s):HoldsP P U w s :=
 ⟨hU,fun w' hs _=>hF _ _ s (kept_mask hs) h⟩
def numI (n:Int):IV:=(98,.int .i64 n)
theorem enters_counted1:Enters Tryz.prog 249:=enters_of Tryz.func249 (by kernel_rfl) rfl
theorem counted1_done {w:World}{nb eb:Nat}{i e:Int} (hn:Box w nb (.int .i64 i) 98) (he:Box w eb (.int .i64 e) 98) (h:e≤i) :
  Calls Tryz.prog 249 #[.pointer (some ⟨nb,0,none⟩),.pointer (some ⟨eb,0,none⟩)] w fun r w'=>Below w.heap.size w w'∧r = .returned (.tuple #[.agg #[.nilIface,.pointer none],.bool false]):=by
 have n0:=hn.cell
 have n2:=hn.lt
 have e0:=he.cell
 have e2:=he.lt
 go_enter Tryz.func249,Tryz.ntmps249
 go_wp2_with (go_at_call 19;refine (none_calls _).mono ?_;rintro r w1 ⟨rfl,k1⟩;have q:SpotBox w1 w.heap.size .nilIface:=(SpotBox.new w .nilIface).same (k1.block _ (by simp));obtain ⟨q0,q1,q2,q3,q4⟩:=q.facts)
 exact bodyPost_ret (v:=.tuple #[.agg #[.nilIface,.pointer none],.bool false]) (by simp [results,Tryz.results249,go_sem,q4,q0,q1]) rfl ⟨((((below_alloc _ _).trans (k1.mono (by simp))).setCell (by simp) _).setCell (by simp) _),rfl⟩
theorem counted1_some {w:World}{nb eb:Nat}{i e:Int} (hn:Box w nb (.int .i64 i) 98) (he:Box w eb (.int .i64 e) 98) (h:i < e) (h0 : -1000000000≤i) (h1:e≤1000000000) (hne:nb≠eb) :
  Calls Tryz.prog 249 #[.pointer (some ⟨nb,0,none⟩),.pointer (some ⟨eb,0,none⟩)] w fun r w'=>Fr (· = nb) w w'∧Box w' nb (.int .i64 (i+1)) 98∧r = .returned (.tuple #[spv (numI i,none),.bool true]):=by
 have n0:=hn.cell
 have n1:=hn.free
 have n2:=hn.lt
 have e0:=he.cell
 have e2:=he.lt
 have z1:¬ e≤i:=by omega
 have z3:i+1 - 1=i:=by omega
 have z5:IntKind.i64.wrap (i+1 - 1)=i:=by rw [z3,IntKind.wrap_i64];omega
 have z6:IntKind.i64.wrap (i+1)=i+1:=by rw [IntKind.wrap_i64];omega
 have z7:IntKind.i64.wrap i=i:=by rw [IntKind.wrap_i64];omega
 go_enter Tryz.func249,Tryz.ntmps249
 go_wp2_with fail
 exact bodyPost_ret (v:=.tuple #[.agg #[.iface 98 (.int .i64 i),.pointer none],.bool true]) (by simp [results,Tryz.results249,go_sem]) rfl ⟨((Fr.refl (· = nb) w).setCell _ (.inl rfl)).alloc _,(hn.set _).same (Below.heap_alloc _ _ _ (by simpa using n2)),rfl⟩
def upNums:Int→Nat→List Int
 | _,0=>[]
 | i,m+1=>i :: upNums (i+1) m
theorem counted_g {nb eb:Nat}{e:Int} (hne:nb≠eb) (h1:e≤1000000000):∀ (m:Nat) (i:Int) {w:World},-1000000000≤i→(i+m=e∨(m=0∧e≤i))→Box w nb (.int .i64 i) 98→Box w eb (.int .i64 e) 98→
  StG ((upNums i m).map fun j=>Just (numI j,none)) (fun k=>k=nb∨k=eb) (· = nb) w (.func (.func 249) #[] #[.pointer (some ⟨nb,0,none⟩),.pointer (some ⟨eb,0,none⟩)])
 | 0,i,w,h0,hm,hn,he=>by
  have hnl:=hn.lt
  have hel:=he.lt
  refine ⟨_,_,rfl,enters_counted1,by grind,by grind,fun w1 hs1 hl1=>?_⟩
  exact (counted1_done (hn.same (hs1 nb (by simp))) (he.same (hs1 eb (by simp))) (by omega)).mono fun r w' h=>⟨.of_below h.1,h.2⟩
 | m+1,i,w,h0,hm,hn,he=>by
  have hnl:=hn.lt
  have hel:=he.lt
  refine ⟨_,_,rfl,enters_counted1,by grind,by grind,fun w1 hs1 hl1=>?_⟩
  have hn1:=hn.same (hs1 nb (by simp))
  have he1:=he.same (hs1 eb (by simp))
  refine (counted1_some hn1 he1 (by omega) h0 h1 hne).mono ?_
  rintro r w2 ⟨k2,hn2,rfl⟩
  have he2:=he1.same (k2.block _ he1.lt (fun e=>hne e.symm))
  exact ⟨k2,(numI i,none),fun _=>False,_,_,rfl,⟨fun _ h=>h.elim,fun _ _ _=>rfl⟩,counted_g hne h1 m (i+1) (by omega) (by omega) hn2 he2,by grind,by grind,fun _ h=>h.elim,fun _ h=>h.elim⟩
theorem counted_ok {w:World}{i e:Int}{m:Nat} (h0 : -1000000000≤i) (h1:e≤1000000000) (hm:i+m=e∨(m=0∧e≤i)) :
  Calls Tryz.prog 204 #[.int .i64 i,.int .i64 e] w (MadeC ((upNums i m).map fun j=>Just (numI j,none)) (fun _=>False) w):=by
 go_enter Tryz.func204,Tryz.ntmps204
 go_wp2_with fail
 go_ret
 have b1:Box ((w.alloc (.cells #[.int .i64 i] 98)).alloc (.cells #[.int .i64 e] 98)) w.heap.size (.int .i64 i) 98:=(Box.new w _ _).same ((below_alloc _ _).block _ (by simp))
 have b2:Box ((w.alloc (.cells #[.int .i64 i] 98)).alloc (.cells #[.int .i64 e] 98)) (w.heap.size+1) (.int .i64 e) 98:=by
  have:=Box.new (w.alloc (.cells #[.int .i64 i] 98)) (.int .i64 e) 98
  simpa using this
 exact .mk' (below_alloc2 w _ _) (counted_g (by omega) h1 m i h0 hm b1 b2) (by grind) (by grind)
theorem must_num (n:Int) (w:World):Calls Tryz.prog 114 #[.iface 98 (.int .i64 n)] w fun e w'=>e = .returned (.int .i64 n)∧w'=w:=by
 have m3:=hitVNumber
 go_enter Tryz.func114,Tryz.ntmps114
 go_wp2
 go_ret
 exact ⟨rfl,rfl⟩
theorem enters_numbers11:Enters Tryz.prog 203:=enters_of Tryz.func203 (by kernel_rfl) rfl
theorem enters_numbers1:Enters Tryz.prog 202:=enters_of Tryz.func202 (by kernel_rfl) rfl
def NumsP (i:Int) (m:Nat):List SP:=(upNums i m).map fun j=>Just (numI j,none)
theorem then_count {w:World}{ab:Nat}{i e:Int}{m:Nat} (ha:SpotB w ab (numI i,none)) (h0 : -1000000000≤i) (h1:e≤1000000000) (hm:i+m=e∨(m=0∧e≤i)) :
  ThenG (fun k=>k=ab) w (.func (.func 203) #[] #[.pointer (some ⟨ab,0,none⟩)]) (Just (numI e,none)) (NumsP i m):=by
 have hal:=ha.lt
 refine ⟨_,_,rfl,enters_numbers11,by grind,?_⟩
 intro w' t G hs' hl' hP
 have ht:t=(numI e,none):=hP.here
 subst ht
 have hGl:=hP.1
 clear hP
 have ha':=ha.same (hs' ab rfl)
 obtain ⟨a0,a1,_,_,a4⟩:=ha'.facts
 have HC:=fun w1=>counted_ok (w:=w1) h0 h1 hm
 obtain ⟨wA,hA⟩:∃ wA,wA=w'.alloc (.cells #[.iface 98 (.int .i64 e),.pointer none] 75):=⟨_,rfl⟩
 have kW:Below w'.heap.size w' wA:=hA ▸ below_alloc w' _
 have wx:SpotB wA w'.heap.size (numI e,none):=hA ▸ SpotB.new w' (numI e,none)
 obtain ⟨y0,y1,_,_,y4⟩:=wx.facts
 simp only [spv,iv,numI] at a0 a1 y0 y1 ⊢
 have g0:=(kW.cell (p:=⟨ab,0,none⟩) a4).trans a0
 have duo:∀ w1,Below wA.heap.size wA w1→w1.cell? ⟨ab,0,none⟩=some (.iface 98 (.int .i64 i))∧w1.cell? ⟨w'.heap.size,0,none⟩=some (.iface 98 (.int .i64 e)):=fun w1 k=>⟨(k.cell (lt_cell g0)).trans g0,(k.cell (lt_cell y0)).trans y0⟩
 have s0:=duo _ ((Below.refl _ wA).drew)
 go_enter Tryz.func203,Tryz.ntmps203
 go_wp2_with fail
 rw [← hA]
 clear hA
 go_region_held3 (fun w1=>w1.cell? ⟨ab,0,none⟩=some (.iface 98 (.int .i64 i))∧w1.cell? ⟨w'.heap.size,0,none⟩=some (.iface 98 (.int .i64 e))) (first | exact s0 | exact e4 | go_keep)
  (first
   | (go_at_call 114;refine (must_num _ _).mono ?_;rintro r w1 ⟨rfl,rfl⟩)
   | (go_at_call 204;refine (HC _).mono ?_;rintro r w1 ⟨k1,K,cap,rfl,hM⟩;have kX:Below wA.heap.size wA w1:=(Below.refl _ _).drew.trans (k1.mono (by simp));have e4:=duo _ kX))
 all_goals
  go_wp2_with fail
  go_ret
  refine MadeC.under (L:=NumsP i m) (C:=fun k=>k=ab∨G k) (w1:=wA.drew) (MadeC.more (C:=fun _=>False) ⟨k1,K,cap,rfl,hM⟩ (fun _ h=>h.elim)) (kW.drew)
theorem then_numbers {C:Nat→Prop}{pb bb sb T2 b2:Nat}{w0 w:World}{kn:Option Addr}{d:Int}{x:IV}{i e:Int}{m:Nat} (hp:PlaceBox w pb kn d) (hf:Box w bb (.iface T2 (.pointer (some ⟨b2,0,none⟩))) 37) (hx:SpotB w sb (x,none)) (hO:OpensG C w0 (.iface T2 (.pointer (some ⟨b2,0,none⟩))) kn d (x,none) [Just (numI e,none)]) (hs:SameOn C w0 w) (hl:w0.heap.size≤w.heap.size) (h0 : -1000000000≤i) (h1:e≤1000000000) (hm:i+m=e∨(m=0∧e≤i)) :
  ThenG (fun k=>C k∨k=pb∨k=bb∨k=sb) w (.func (.func 202) #[] #[.pointer (some ⟨pb,0,none⟩),.pointer (some ⟨bb,0,none⟩),.pointer (some ⟨sb,0,none⟩)]) (Just (numI i,none)) (NumsP i m):=by
 obtain ⟨hC,hO⟩:=hO
 have hpl:=hp.lt
 have hfl:=hf.lt
 have hxl:=hx.lt
 refine ⟨_,_,rfl,enters_numbers1,by grind,?_⟩
 intro w' t G hs' hl' hP
 have ht:t=(numI i,none):=hP.here
 subst ht
 have hGl:=hP.1
 clear hP
 have hs0:SameOn C w0 w':=hs.trans (hs'.mono (fun _ h=>.inl h))
 have hp':=hp.same (hs' pb (by simp))
 have hf':=hf.same (hs' bb (by simp))
 have hx':=hx.same (hs' sb (by simp))
 obtain ⟨wA,hA⟩:∃ wA,wA=w'.alloc (.cells #[.iface 98 (.int .i64 i),.pointer none] 75):=⟨_,rfl⟩
 have kW:Below w'.heap.size w' wA:=hA ▸ below_alloc w' _
 have wx:SpotB wA w'.heap.size (numI i,none):=hA ▸ SpotB.new w' (numI i,none)
 have wl:wA.heap.size=w'.heap.size+1:=by rw [hA];simp
 have HO:Calls Tryz.prog 22 #[.agg #[.pointer kn,.int .i64 d],.iface T2 (.pointer (some ⟨b2,0,none⟩)),spv (x,none)] wA (MadeC [Just (numI e,none)] C wA):=hO _ (hs0.trans (fun j hj=>kW.block j (by have:=hC j hj;omega))) (by have:=kW.size;omega)
 have HT:∀ w1,Below wA.heap.size wA w1→∀ y∈[(Just (numI e,none),NumsP i m)],ThenG (fun k=>k=w'.heap.size) w1 (.func (.func 203) #[] #[.pointer (some ⟨w'.heap.size,0,none⟩)]) y.1 y.2:=fun w1 k y hy=>by
  rw [List.mem_singleton] at hy
  subst hy
  exact then_count (wx.same (k.block _ wx.lt)) h0 h1 hm
 obtain ⟨T,u⟩:=x
 obtain ⟨x0,x1,_,_,x4⟩:=(hx'.same (kW.block _ hx'.lt)).facts
 simp only [spv,iv] at HO x0 x1
 have a0:=(kW.cell (p:=⟨pb,0,none⟩) hp'.lt).trans hp'.c0
 have a1:=(kW.cell (p:=⟨pb,1,none⟩) hp'.lt).trans hp'.c1
 have a2:=(kW.cell (p:=⟨bb,0,none⟩) hf'.lt).trans hf'.cell
 have hF0:∀ k,k=w'.heap.size→k < wA.heap.size:=by omega
 clear hO
 show Calls Tryz.prog 202 #[.agg #[.iface 98 (.int .i64 i),.pointer none],.pointer (some ⟨pb,0,none⟩),.pointer (some ⟨bb,0,none⟩),.pointer (some ⟨sb,0,none⟩)] w' _
 rw [hA] at a0 a1 a2 x0 x1
 go_enter Tryz.func202,Tryz.ntmps202
 go_wp2_with fail
 rw [← hA]
 refine Calls.mono HO ?_
 rintro e1 w1 ⟨k1,K,cap,rfl,F,D,hS,hF,hD⟩
 go_wp2_with fail
 refine Calls.mono (each_okg (C:=fun k=>k=w'.heap.size) (Lo:=[(Just (numI e,none),NumsP i m)]) hS ⟨_,_,rfl⟩ (by have:=k1.size;grind) (HT w1 k1) (by grind)) ?_
 rintro e2 w2 ⟨k2,K2,cap2,F2,D2,rfl,hS2,hF2,hD2⟩
 go_wp2_with fail
 go_ret
 have e9:[(Just (numI e,none),NumsP i m)].flatMap (·.2)=NumsP i m:=by simp
 rw [e9] at hS2
 exact .mk' (kW.trans ((k1.trans (k2.mono k1.size)).mono kW.size)) hS2 (by have:=k1.size;grind) (by have:=k1.size;grind)
theorem wbegin_leaf (hA:AppendsIntK) {w:World}{B W:Nat}{out:Bys}{fs:List Fm}{v:IV}{c:Bys} (hv:leafV v c) (h:WS w B W out fs) (ho:out.length≤10000000000) (ht:Lib.TabBelow Tryz.prog B w "internal/strconv.uint64pow10" .u64 Lib.pow10Tab) :
  Calls Tryz.prog 13 #[.pointer (some ⟨W,0,none⟩),iv v] w fun e w'=>e = .returned (.tuple #[])∧BegW B W out fs c w w':=by
 rcases hv with ⟨rfl,rfl⟩ | ⟨b,rfl,rfl⟩ | ⟨n,h0,h1,rfl,rfl⟩ | ⟨t,h0,rfl,rfl⟩
 ·exact wbegin_null h ho
 ·exact wbegin_bool b h ho
 ·exact wbegin_num hA n h0 h1 h ho ht
 ·exact wbegin_str t h0.1 h ho
theorem wbegin_any (hA:AppendsIntK) {w:World}{B W:Nat}{out:Bys}{fs:List Fm}{v:IV}{c:Bys} (hv:Vl w (· < W) v c) (h:WS w B W out fs) (ho:out.length≤10000000000) (hf:fs.length≤10000000000) (ht:Lib.TabBelow Tryz.prog B w "internal/strconv.uint64pow10" .u64 Lib.pow10Tab) :
  Calls Tryz.prog 13 #[.pointer (some ⟨W,0,none⟩),iv v] w fun e w'=>e = .returned (.tuple #[])∧BegW B W out fs c w w':=by
 obtain ⟨d,hd⟩:=hv
 cases d with
 | zero=>exact wbegin_leaf hA hd h ho ht
 | succ d =>
  rcases hd with hd | ⟨r,its,rfl,ow,hp,hi,rfl⟩ | ⟨r,ms,rfl,ow,hp,hi,rfl,_⟩
  ·exact wbegin_leaf hA hd h ho ht
  ·obtain ⟨ra,rl,rc,rfl⟩:=owns_shape2 ow
   exact wbegin_arr its ow hp (fun x hx=>⟨d,hi x hx⟩) h ho hf
  ·obtain ⟨ra,rl,rc,rfl⟩:=owns_shape2 ow
   exact wbegin_obj ms ow hp (fun x hx=>⟨d,hi x hx⟩) h ho hf
def StepW (B W:Nat) (out:Bys) (fs:List Fm) (w w':World):Prop:=(∃ out' fs',WS w' B W out' fs'∧out' ++ restAll fs'=out ++ restAll fs∧out.length < out'.length)∧Fr (fun k=>k=W∨B≤k) w w'
theorem fcells_len (fs:List Fm):(fs.flatMap Fm.cells).length=fs.length * 4:=by
 induction fs with
 | nil=>rfl
 | cons h t ih=>rw [List.flatMap_cons,List.length_append,ih];simp [Fm.cells];omega
theorem topF {w:World}{B:Nat}{pv:Value}{lo:List Fm}{f:Fm} (ow:w.ownsRow B 104 4 pv (lo ++ [f]).length ((lo ++ [f]).flatMap Fm.cells)):∃ g cap,pv = .slice (some ⟨g,0,none⟩) (lo.length+1) cap∧B≤g∧lo.length+1≤cap∧cap≤9223372036854775807∧(∀ i v,f.cells[i]? = some v→w.cell? ⟨g,lo.length * 4+i,none⟩=some v)∧(∀ q,w.frozen? ⟨g,q,none⟩=false)∧g < w.heap.size:=by
 rw [List.length_append,List.length_singleton] at ow
 rcases ow.2 with ⟨_,h0⟩ | ⟨g,cap,cur,e,hg,hb,hn,hm,hs,ht⟩
 ·omega
 ·refine ⟨g,cap,e,hg,hn,by simpa [maxLen] using hm,fun i v hi=>?_,fun q=>cells_free hb,lt_of_block hb⟩
  have hi4:i < 4:=by have:=(List.getElem?_eq_some_iff.1 hi).1;simpa [Fm.cells] using this
  have h2:cur.toList[lo.length * 4+i]? = some v:=by
   rw [← List.getElem?_take_of_lt (show lo.length * 4+i < (lo.length+1) * 4 by omega),ht,List.flatMap_append,List.getElem?_append_right (by rw [fcells_len];omega),fcells_len,Nat.add_sub_cancel_left]
   simpa using hi
  exact cells_cell hb (by simpa using h2)
theorem texts_len_arr {f:Fm} (ho:f.obj=false):f.texts.length=f.its.length:=by unfold Fm.texts;simp [ho]
theorem texts_len_obj {f:Fm} (ho:f.obj=true):f.texts.length=f.ms.length:=by unfold Fm.texts;simp [ho]
theorem rest_end {f:Fm} (h:f.next=f.texts.length):f.rest=[if f.obj then 125 else 93]:=by
 unfold Fm.rest
 rw [h,List.drop_length]
 simp [restI]
theorem popF {w:World}{B g cap:Nat}{lo:List Fm}{f:Fm} (ow:w.ownsRow B 104 4 (.slice (some ⟨g,0,none⟩) (lo.length+1) cap) (lo ++ [f]).length ((lo ++ [f]).flatMap Fm.cells)):w.ownsRow B 104 4 (.slice (some ⟨g,0,none⟩) lo.length cap) lo.length (lo.flatMap Fm.cells):=by
 rw [List.length_append,List.length_singleton] at ow
 rcases ow.2 with ⟨e,_⟩ | ⟨g',cap',cur,e,hg,hb,hn,hm,hs,ht⟩
 ·cases e
 ·cases e
  refine ⟨fcells_len lo,.inr ⟨g,cap,cur,rfl,hg,hb,by omega,hm,hs,?_⟩⟩
  have:cur.toList.take (lo.length * 4)=(cur.toList.take ((lo.length+1) * 4)).take (lo.length * 4):=by
   rw [List.take_take];congr 1;omega
  rw [this,ht,List.flatMap_append,← fcells_len lo,List.take_left]
theorem step_end_arr {w:World}{B W:Nat}{out:Bys}{lo:List Fm}{f:Fm} (h:WS w B W out (lo ++ [f])) (hn:f.next=f.texts.length) (hob:f.obj=false) (ho:out.length≤10000000000) (hlo:lo.length≤10000000000) (hcnt:f.texts.length≤9223372036854775807) :
  Calls Tryz.prog 14 #[.pointer (some ⟨W,0,none⟩)] w fun e w'=>e = .returned (.tuple #[])∧StepW B W out (lo ++ [f]) w w':=by
 obtain ⟨i0,hi0,hz0,hz1,hz2⟩:=info_parts (show (Tryz.prog.info? 5).map (fun i=>(i.zero,i.size,i.bytes))=some (some (.int .u8 0),1,1) by kernel_rfl)
 obtain ⟨hlt,hle,⟨ov,pv,hb,hown,hpv⟩,hfs⟩:=h
 obtain ⟨c0,c1,c2,c3,c4⟩:=two_c0 hb
 obtain ⟨oa,ol,oc,rfl⟩:=owns_shape hown
 obtain ⟨g,cap,rfl,hgB,hcap,hcm,hcell,hfz,hgl⟩:=topF hpv
 have e0:=hcell 0 _ rfl
 have e1:=hcell 1 _ rfl
 have e2:=hcell 2 _ rfl
 have e3:=hcell 3 _ rfl
 simp only [hob,Bool.false_eq_true,if_false,Nat.add_zero] at e0 e1 e2
 have hl:=texts_len_arr hob
 have hfo:=hfs f (by simp)
 have hfo':=hfo.1
 rw [if_neg (by simp [hob])] at hfo'
 obtain ⟨ra,rl,rc,hrow⟩:=owns_shape hfo'.1
 have hrl:rl=f.next:=by
  have:=hfo'.1.2
  rw [hrow] at this
  rcases this with ⟨e,h0⟩ | ⟨_,_,_,e,_⟩
  ·cases e;omega
  ·cases e;omega
 rw [hrow] at e1
 subst hrl
 obtain ⟨nx,hnx⟩:∃ nx,f.next=nx:=⟨_,rfl⟩
 have hre:=rest_end hn
 rw [hob] at hre
 have HRE:Hid _:=hre
 have hnl:nx≤9223372036854775807:=by omega
 have ngW:¬ g=W:=by omega
 have nWg:¬ W=g:=by omega
 have HFS:Aside (∀ x∈lo ++ [f],FOk w W x):=hfs
 have HPV:Aside (w.ownsRow B 104 4 (.slice (some ⟨g,0,none⟩) (lo.length+1) cap) (lo ++ [f]).length ((lo ++ [f]).flatMap Fm.cells)):=hpv
 have hgo:some g≠(Value.slice oa ol oc).ownBlock:=fun e=>by
  obtain ⟨x1,y1,z1⟩:=own_kind hown g e.symm
  obtain ⟨x2,y2,z2⟩:=own_kind hpv g rfl
  rw [z1] at z2
  simp at z2
 have HGO:Aside _:=hgo
 clear hcell hfs hfo hfo' hpv hre hl hn hgo
 simp only [hnx] at e1 e2 e3
 clear hnx hcnt hrow
 go_enter Tryz.func14,Tryz.ntmps14
 go_wp2_with fail
 go_quiet (fail)
 go_wp2_with fail
 go_quiet (fail)
 go_wp2_with fail
 have y0:∀ m o,((w.drewN m).alloc o).cell? ⟨W,0,none⟩=some (.slice oa ol oc):=fun m o=>((below_alloc (w.drewN m) o).cell (p:=⟨W,0,none⟩) (by simpa using c4)).trans c0
 have y1:∀ m o,((w.drewN m).alloc o).frozen? ⟨W,0,none⟩=false:=fun m o=>((below_alloc (w.drewN m) o).frozen (p:=⟨W,0,none⟩) (by simpa using c4)).trans c2
 go_region_law ((refine step_append_lies _ (by rfl) _ _ _ (by rfl) B 5 i0 _ 1 1 Tryz.underlying50 hi0 hz0 hz1 hz2 rfl (by omega) (.slice oa ol oc) out.length (Lib.byteCells out) (by rfl) (owns_same hown (fun k hk=>(below_alloc w _).block k (hown.lt k hk).2)) ⟨w.heap.size,0,none⟩ 1 1 [.int .u8 93] (by rfl) (by rfl) (World.news_of_block (cs:=#[.int .u8 93]) (t:=5) (fr:=(0,0)) (heap_new w _)) (by simp [Value.oneCell']) (by omega) (by unfold maxLen;omega) (by omega) (by simp;omega) (w.heap.size+1) (by simp) ?_;intro g1 cap1 w1 hown1 hgrow1 hat1 hlt1;have hbl:∀ k,k < w.heap.size→some k≠(Value.slice oa ol oc).ownBlock→w1.heap[k]? = w.heap[k]?:=(fun k hk hd=>(hgrow1.block k (by simp;omega) hd).trans ((below_alloc w (.cells #[.int .u8 93] 5)).block k hk));have hnb:∀ k,k < B→some k≠(Value.slice oa ol oc).ownBlock:=(fun k hk e=>by have:=(hown.lt k e.symm).1;omega);obtain ⟨d0,d1,d2,d3,d4⟩:=two_c0 ((hbl W (by omega) (hnb W hlt)).trans hb)))
 all_goals
  go_wp2_with fail
  go_region
  all_goals
   go_wp2_with fail
   have hgs:=hgrow1.size
   simp at hgs
   have hf1:Fr (fun k=>k=W∨B≤k) w w1:=⟨hgrow1.os,hgrow1.tape,hgrow1.output,by omega,fun k hk hd=>hbl k hk (hnb k (by omega))⟩
   have hpo:=popF HPV.out
   refine bodyPost_ret (v:=.tuple #[]) (by simp [results,Tryz.results14,go_sem]) rfl ⟨rfl,⟨⟨out ++ [93],lo,⟨hlt,by simp;omega,⟨_,_,two_set1 (two_set0 ((hbl W (by omega) (hnb W hlt)).trans hb)),?_,?_⟩,fun x hx=>?_⟩,?_,by simp⟩,((hf1.setCell _ (.inl (.inl rfl))).setCell _ (.inl (.inl rfl))).drewN 1⟩⟩
   ·rw [List.length_append,byteCells_append]
    exact owns_off (owns_off hown1 hlt) hlt
   ·refine owns_same (w:=w) hpo (fun k hk=>?_)
    cases hk
    show ((w1.setCell ⟨W,0,none⟩ _).setCell ⟨W,1,none⟩ _).heap[g]? = _
    rw [Below.heap_setCell _ _ _ _ (by simp;omega),Below.heap_setCell _ _ _ _ (by simp;omega)]
    exact hbl g hgl HGO.out
   ·refine (HFS.out x (by simp [hx])).keep (fun b hb2=>?_)
    show ((w1.setCell ⟨W,0,none⟩ _).setCell ⟨W,1,none⟩ _).heap[b]? = _
    rw [Below.heap_setCell _ _ _ _ (by simp;omega),Below.heap_setCell _ _ _ _ (by simp;omega)]
    exact hbl b (by omega) (hnb b (by omega))
   ·rw [restAll_app,HRE.out]
    simp
theorem step_end_obj {w:World}{B W:Nat}{out:Bys}{lo:List Fm}{f:Fm} (h:WS w B W out (lo ++ [f])) (hn:f.next=f.texts.length) (hob:f.obj=true) (ho:out.length≤10000000000) (hlo:lo.length≤10000000000) (hcnt:f.texts.length≤9223372036854775807) :
  Calls Tryz.prog 14 #[.pointer (some ⟨W,0,none⟩)] w fun e w'=>e = .returned (.tuple #[])∧StepW B W out (lo ++ [f]) w w':=by
 obtain ⟨i0,hi0,hz0,hz1,hz2⟩:=info_parts (show (Tryz.prog.info? 5).map (fun i=>(i.zero,i.size,i.bytes))=some (some (.int .u8 0),1,1) by kernel_rfl)
 obtain ⟨hlt,hle,⟨ov,pv,hb,hown,hpv⟩,hfs⟩:=h
 obtain ⟨c0,c1,c2,c3,c4⟩:=two_c0 hb
 obtain ⟨oa,ol,oc,rfl⟩:=owns_shape hown
 obtain ⟨g,cap,rfl,hgB,hcap,hcm,hcell,hfz,hgl⟩:=topF hpv
 have e0:=hcell 0 _ rfl
 have e1:=hcell 1 _ rfl
 have e2:=hcell 2 _ rfl
 have e3:=hcell 3 _ rfl
 simp only [hob,if_true,Nat.add_zero] at e0 e1 e2
 have hl:=texts_len_obj hob
 have hfo:=hfs f (by simp)
 have hfo':=hfo.1
 rw [if_pos (by simp [hob])] at hfo'
 obtain ⟨ra,rl,rc,hrow⟩:=owns_shape2 hfo'.1
 have hrl:rl=f.next:=by
  have:=hfo'.1.2
  rw [hrow] at this
  rcases this with ⟨e,h0⟩ | ⟨_,_,_,e,_⟩
  ·cases e;omega
  ·cases e;omega
 rw [hrow] at e2
 subst hrl
 obtain ⟨nx,hnx⟩:∃ nx,f.next=nx:=⟨_,rfl⟩
 have hre:=rest_end hn
 rw [hob] at hre
 have HRE:Hid _:=hre
 have hnl:nx≤9223372036854775807:=by omega
 have ngW:¬ g=W:=by omega
 have nWg:¬ W=g:=by omega
 have HFS:Aside (∀ x∈lo ++ [f],FOk w W x):=hfs
 have HPV:Aside (w.ownsRow B 104 4 (.slice (some ⟨g,0,none⟩) (lo.length+1) cap) (lo ++ [f]).length ((lo ++ [f]).flatMap Fm.cells)):=hpv
 have hgo:some g≠(Value.slice oa ol oc).ownBlock:=fun e=>by
  obtain ⟨x1,y1,z1⟩:=own_kind hown g e.symm
  obtain ⟨x2,y2,z2⟩:=own_kind hpv g rfl
  rw [z1] at z2
  simp at z2
 have HGO:Aside _:=hgo
 clear hcell hfs hfo hfo' hpv hre hl hn hgo
 simp only [hnx] at e1 e2 e3
 clear hnx hcnt hrow
 go_enter Tryz.func14,Tryz.ntmps14
 go_wp2_with fail
 go_quiet (fail)
 go_wp2_with fail
 go_quiet (fail)
 go_wp2_with fail
 have y0:∀ m o,((w.drewN m).alloc o).cell? ⟨W,0,none⟩=some (.slice oa ol oc):=fun m o=>((below_alloc (w.drewN m) o).cell (p:=⟨W,0,none⟩) (by simpa using c4)).trans c0
 have y1:∀ m o,((w.drewN m).alloc o).frozen? ⟨W,0,none⟩=false:=fun m o=>((below_alloc (w.drewN m) o).frozen (p:=⟨W,0,none⟩) (by simpa using c4)).trans c2
 go_region_law ((refine step_append_lies _ (by rfl) _ _ _ (by rfl) B 5 i0 _ 1 1 Tryz.underlying50 hi0 hz0 hz1 hz2 rfl (by omega) (.slice oa ol oc) out.length (Lib.byteCells out) (by rfl) (owns_same hown (fun k hk=>(below_alloc w _).block k (hown.lt k hk).2)) ⟨w.heap.size,0,none⟩ 1 1 [.int .u8 125] (by rfl) (by rfl) (World.news_of_block (cs:=#[.int .u8 125]) (t:=5) (fr:=(0,0)) (heap_new w _)) (by simp [Value.oneCell']) (by omega) (by unfold maxLen;omega) (by omega) (by simp;omega) (w.heap.size+1) (by simp) ?_;intro g1 cap1 w1 hown1 hgrow1 hat1 hlt1;have hbl:∀ k,k < w.heap.size→some k≠(Value.slice oa ol oc).ownBlock→w1.heap[k]? = w.heap[k]?:=(fun k hk hd=>(hgrow1.block k (by simp;omega) hd).trans ((below_alloc w (.cells #[.int .u8 125] 5)).block k hk));have hnb:∀ k,k < B→some k≠(Value.slice oa ol oc).ownBlock:=(fun k hk e=>by have:=(hown.lt k e.symm).1;omega);obtain ⟨d0,d1,d2,d3,d4⟩:=two_c0 ((hbl W (by omega) (hnb W hlt)).trans hb)))
 all_goals
  go_wp2_with fail
  go_region
  all_goals
   go_wp2_with fail
   have hgs:=hgrow1.size
   simp at hgs
   have hf1:Fr (fun k=>k=W∨B≤k) w w1:=⟨hgrow1.os,hgrow1.tape,hgrow1.output,by omega,fun k hk hd=>hbl k hk (hnb k (by omega))⟩
   have hpo:=popF HPV.out
   refine bodyPost_ret (v:=.tuple #[]) (by simp [results,Tryz.results14,go_sem]) rfl ⟨rfl,⟨⟨out ++ [125],lo,⟨hlt,by simp;omega,⟨_,_,two_set1 (two_set0 ((hbl W (by omega) (hnb W hlt)).trans hb)),?_,?_⟩,fun x hx=>?_⟩,?_,by simp⟩,((hf1.setCell _ (.inl (.inl rfl))).setCell _ (.inl (.inl rfl))).drewN 1⟩⟩
   ·rw [List.length_append,byteCells_append]
    exact owns_off (owns_off hown1 hlt) hlt
   ·refine owns_same (w:=w) hpo (fun k hk=>?_)
    cases hk
    show ((w1.setCell ⟨W,0,none⟩ _).setCell ⟨W,1,none⟩ _).heap[g]? = _
    rw [Below.heap_setCell _ _ _ _ (by simp;omega),Below.heap_setCell _ _ _ _ (by simp;omega)]
    exact hbl g hgl HGO.out
   ·refine (HFS.out x (by simp [hx])).keep (fun b hb2=>?_)
    show ((w1.setCell ⟨W,0,none⟩ _).setCell ⟨W,1,none⟩ _).heap[b]? = _
    rw [Below.heap_setCell _ _ _ _ (by simp;omega),Below.heap_setCell _ _ _ _ (by simp;omega)]
    exact hbl b (by omega) (hnb b (by omega))
   ·rw [restAll_app,HRE.out]
    simp
def Fm.up (f:Fm):Fm:={ f with next:=f.next+1 }
theorem rest_step {f:Fm}{t:Bys} (h:f.texts[f.next]? = some t):f.rest=(if f.next=0 then [] else [44]) ++ (t ++ f.up.rest):=by
 have hl:=(List.getElem?_eq_some_iff.1 h).1
 have hd:f.texts.drop f.next=t :: f.texts.drop (f.next+1):=by
  rw [List.drop_eq_getElem_cons hl,(List.getElem?_eq_some_iff.1 h).2]
 unfold Fm.rest Fm.up
 show restI (f.next == 0) (f.texts.drop f.next) ++ _=_ ++ (t ++ (restI (f.next+1 == 0) (f.texts.drop (f.next+1)) ++ _))
 rw [hd,show ((f.next+1 == 0)=false) by simp]
 by_cases h0:f.next=0
 ·rw [show ((f.next == 0)=true) by simpa using h0,if_pos h0,restI];simp
 ·rw [show ((f.next == 0)=false) by simpa using h0,if_neg h0,restI];simp
theorem WS.up {w:World}{B W g cap:Nat}{out:Bys}{lo:List Fm}{f:Fm}{ov:Value} (hlt:W < B) (hle:B≤w.heap.size) (hb:w.heap[W]? = some (.cells #[ov,.slice (some ⟨g,0,none⟩) (lo.length+1) cap] 53 (0,0))) (hown:w.ownsRow B 5 1 ov out.length (Lib.byteCells out)) (hpv:w.ownsRow B 104 4 (.slice (some ⟨g,0,none⟩) (lo.length+1) cap) (lo ++ [f]).length ((lo ++ [f]).flatMap Fm.cells)) (hfs:∀ x∈lo ++ [f],FOk w W x) (hn:f.next < f.texts.length) :
  (w.setCell ⟨g,lo.length * 4+3,none⟩ (.int .i64 ((f.next:Int)+1))).heap[W]? = some (.cells #[ov,.slice (some ⟨g,0,none⟩) (lo.length+1) cap] 53 (0,0))∧(w.setCell ⟨g,lo.length * 4+3,none⟩ (.int .i64 ((f.next:Int)+1))).ownsRow B 5 1 ov out.length (Lib.byteCells out)∧(w.setCell ⟨g,lo.length * 4+3,none⟩ (.int .i64 ((f.next:Int)+1))).ownsRow B 104 4 (.slice (some ⟨g,0,none⟩) (lo.length+1) cap) (lo ++ [f.up]).length ((lo ++ [f.up]).flatMap Fm.cells)∧∀ x∈lo ++ [f.up],FOk (w.setCell ⟨g,lo.length * 4+3,none⟩ (.int .i64 ((f.next:Int)+1))) W x:=by
 have hgB:B≤g:=(hpv.lt g rfl).1
 have hother:∀ b,b≠g→(w.setCell ⟨g,lo.length * 4+3,none⟩ (.int .i64 ((f.next:Int)+1))).heap[b]? = w.heap[b]?:=fun b hne=>Below.heap_setCell _ _ _ _ (by simpa using hne)
 have hk:=fun (x:Fm) (hx:FOk w W x)=>hx.keep (w':=w.setCell ⟨g,lo.length * 4+3,none⟩ (.int .i64 ((f.next:Int)+1))) (fun b hb=>hother b (by omega))
 refine ⟨(hother W (by omega)).trans hb,owns_same hown (fun k hkk=>hother k (fun e=>?_)),?_,fun x hx=>?_⟩
 ·subst e
  obtain ⟨x1,y1,z1⟩:=own_kind hown k hkk
  obtain ⟨x2,y2,z2⟩:=own_kind hpv k rfl
  rw [z1] at z2
  simp at z2
 ·rw [List.length_append,List.length_singleton] at hpv ⊢
  have:=(hpv.stored (lo.length * 4+3) (.int .i64 ((f.next:Int)+1))).1
  have e:((lo ++ [f]).flatMap Fm.cells).set (lo.length * 4+3) (.int .i64 ((f.next:Int)+1))=(lo ++ [f.up]).flatMap Fm.cells:=by
   rw [List.flatMap_append,List.flatMap_append,List.set_append_right _ _ (by rw [fcells_len];omega),fcells_len,Nat.add_sub_cancel_left]
   simp [Fm.cells,Fm.up]
  rw [e] at this
  exact this
 ·rcases List.mem_append.1 hx with hx | hx
  ·exact hk x (hfs x (by simp [hx]))
  ·rw [List.mem_singleton] at hx
   subst hx
   obtain ⟨h1,h2,h3⟩:=hk f (hfs f (by simp))
   exact ⟨h1,h2,by show f.next+1≤f.texts.length;omega⟩
theorem StepW.of_begin {w w1 w':World}{B W:Nat}{out out1:Bys}{lo:List Fm}{f:Fm}{t:Bys} (ht:f.texts[f.next]? = some t) (ho:out1=out ++ (if f.next=0 then [] else [44])) (hb:BegW B W out1 (lo ++ [f.up]) t w1 w') (hf:Fr (fun k=>k=W∨B≤k) w w1):StepW B W out (lo ++ [f]) w w':=by
 obtain ⟨⟨out',new,h1,h2,h3⟩,h4⟩:=hb
 refine ⟨⟨out',_,h1,?_,?_⟩,hf.trans h4 (fun _ _ e=>e)⟩
 ·rw [h2,restAll_app,restAll_app,ho,rest_step ht]
  simp
 ·rw [ho,List.length_append] at h3
  omega
theorem step_arr0 (hA:AppendsIntK) {w:World}{B W:Nat}{out:Bys}{lo:List Fm}{f:Fm} (h:WS w B W out (lo ++ [f])) (hn:f.next < f.texts.length) (hn0:f.next=0) (hob:f.obj=false) (ho:out.length≤9000000000) (hlo:lo.length≤1000000000) (hcnt:f.texts.length≤9223372036854775807) (ht:Lib.TabBelow Tryz.prog W w "internal/strconv.uint64pow10" .u64 Lib.pow10Tab) :
  Calls Tryz.prog 14 #[.pointer (some ⟨W,0,none⟩)] w fun e w'=>e = .returned (.tuple #[])∧StepW B W out (lo ++ [f]) w w':=by
 obtain ⟨hlt,hle,⟨ov,pv,hb,hown,hpv⟩,hfs⟩:=h
 obtain ⟨c0,c1,c2,c3,c4⟩:=two_c0 hb
 obtain ⟨g,cap,rfl,hgB,hcap,hcm,hcell,hfz,hgl⟩:=topF hpv
 have e0:=hcell 0 _ rfl
 have e1:=hcell 1 _ rfl
 have e2:=hcell 2 _ rfl
 have e3:=hcell 3 _ rfl
 simp only [hob,Bool.false_eq_true,if_false,Nat.add_zero] at e0 e1 e2
 have hl:=texts_len_arr hob
 have hfo:=hfs f (by simp)
 have hfo':=hfo.1
 rw [if_neg (by simp [hob])] at hfo'
 obtain ⟨⟨⟨T,u⟩,t⟩,hx⟩:∃ x,f.its[f.next]? = some x:=⟨_,List.getElem?_eq_getElem (by omega)⟩
 have htx:f.texts[f.next]? = some t:=by unfold Fm.texts;rw [hob];simp [hx]
 obtain ⟨a,ca,hrow⟩:∃ a ca,f.row = .slice (some ⟨a,0,none⟩) f.its.length ca:=by
  rcases hfo'.1.2 with ⟨_,h0⟩ | ⟨a,ca,cur,e,_⟩
  ·omega
  ·exact ⟨a,ca,e⟩
 have hrow':=hfo'.1
 rw [hrow] at hrow' e1
 have hit:w.cell? ⟨a,f.next,none⟩=some (.iface T u):=by
  rw [hrow'.cellAt f.next (by omega),List.getElem?_map,hx];rfl
 have haW:a < W:=hfo.2.1 a (by rw [hrow];rfl)
 have hvl:=hfo'.2 _ (List.mem_of_getElem? hx)
 have hup:=fun m=>WS.up (w:=w.drewN m) (out:=out) (f:=f) hlt hle hb hown hpv (fun x hx=>(hfs x hx).keep (fun _ _=>rfl)) hn
 obtain ⟨L,hL⟩:∃ L,f.its.length=L:=⟨_,rfl⟩
 rw [hL] at e1 hl
 have nag:¬ a=g:=by omega
 have nga:¬ g=a:=by omega
 have ngW:¬ g=W:=by omega
 have nWg:¬ W=g:=by omega
 have z0:¬ (0:Int)=(L:Int):=by omega
 have z1:(0:Int) < (L:Int):=by omega
 have z2:L≤9223372036854775807:=by omega
 have hbeg:∀ m,Calls Tryz.prog 13 #[.pointer (some ⟨W,0,none⟩),.iface T u] ((w.drewN m).setCell ⟨g,lo.length * 4+3,none⟩ (.int .i64 1)) fun e w'=>e = .returned (.tuple #[])∧StepW B W out (lo ++ [f]) w w':=fun m=>by
  obtain ⟨u1,u2,u3,u4⟩:=hup m
  rw [hn0] at u1 u2 u3 u4
  have hfr:Fr (fun k=>k=W∨B≤k) w ((w.drewN m).setCell ⟨g,lo.length * 4+3,none⟩ (.int .i64 1)):=((Fr.refl _ w).drewN m).setCell _ (.inl (.inr hgB))
  have hkeep:∀ b,b < W→((w.drewN m).setCell ⟨g,lo.length * 4+3,none⟩ (.int .i64 1)).heap[b]? = w.heap[b]?:=fun b hbl=>Below.heap_setCell _ _ _ _ (by simp;omega)
  refine (wbegin_any hA (v:=(T,u)) (c:=t) (out:=out) (fs:=lo ++ [f.up]) (hvl.mono (fun q hq=>⟨hq,hkeep q hq⟩)) ⟨hlt,by simpa using hle,⟨_,_,u1,u2,u3⟩,u4⟩ (by omega) (by simp;omega) (fun w' h'=>ht w' ?_)).mono ?_
  ·refine Below.trans ?_ (h'.mono (Nat.le_of_lt hlt))
   exact ⟨rfl,rfl,rfl,by simp,fun k hk=>Below.heap_setCell _ _ _ _ (by simp;omega)⟩
  ·rintro e w' ⟨rfl,hbw⟩
   exact ⟨rfl,StepW.of_begin htx (by simp [hn0]) hbw hfr⟩
 have HBEG:Aside (∀ m,Calls Tryz.prog 13 #[.pointer (some ⟨W,0,none⟩),.iface T u] ((w.drewN m).setCell ⟨g,lo.length * 4+3,none⟩ (.int .i64 1)) fun e w'=>e = .returned (.tuple #[])∧StepW B W out (lo ++ [f]) w w'):=hbeg
 rw [hn0] at e3 hit
 clear hbeg hup hcell hfs hfo hfo' hpv hl hn hrow' hvl htx hx hrow hcnt hL ht hown hn0
 go_enter Tryz.func14,Tryz.ntmps14
 go_wp2_with fail
 go_quiet (fail)
 go_wp2_with fail
 go_quiet (fail)
 go_wp2_with fail
 refine Calls.mono (HBEG.out _) ?_
 rintro e w1 ⟨rfl,hsw⟩
 go_wp2_with fail
 exact bodyPost_ret (v:=.tuple #[]) (by simp [results,Tryz.results14,go_sem]) rfl ⟨rfl,hsw⟩
theorem step_arrN (hA:AppendsIntK) {w:World}{B W:Nat}{out:Bys}{lo:List Fm}{f:Fm} (h:WS w B W out (lo ++ [f])) (hn:f.next < f.texts.length) (hn0:0 < f.next) (hob:f.obj=false) (ho:out.length≤9000000000) (hlo:lo.length≤1000000000) (hcnt:f.texts.length≤9223372036854775807) (ht:Lib.TabBelow Tryz.prog W w "internal/strconv.uint64pow10" .u64 Lib.pow10Tab) :
  Calls Tryz.prog 14 #[.pointer (some ⟨W,0,none⟩)] w fun e w'=>e = .returned (.tuple #[])∧StepW B W out (lo ++ [f]) w w':=by
 obtain ⟨i0,hi0,hz0,hz1,hz2⟩:=info_parts (show (Tryz.prog.info? 5).map (fun i=>(i.zero,i.size,i.bytes))=some (some (.int .u8 0),1,1) by kernel_rfl)
 obtain ⟨hlt,hle,⟨ov,pv,hb,hown,hpv⟩,hfs⟩:=h
 obtain ⟨oa,ol,oc,rfl⟩:=owns_shape hown
 obtain ⟨c0,c1,c2,c3,c4⟩:=two_c0 hb
 obtain ⟨g,cap,rfl,hgB,hcap,hcm,hcell,hfz,hgl⟩:=topF hpv
 have e0:=hcell 0 _ rfl
 have e1:=hcell 1 _ rfl
 have e2:=hcell 2 _ rfl
 have e3:=hcell 3 _ rfl
 simp only [hob,Bool.false_eq_true,if_false,Nat.add_zero] at e0 e1 e2
 have hl:=texts_len_arr hob
 have hfo:=hfs f (by simp)
 have hfo':=hfo.1
 rw [if_neg (by simp [hob])] at hfo'
 obtain ⟨⟨⟨T,u⟩,t⟩,hx⟩:∃ x,f.its[f.next]? = some x:=⟨_,List.getElem?_eq_getElem (by omega)⟩
 have htx:f.texts[f.next]? = some t:=by unfold Fm.texts;rw [hob];simp [hx]
 obtain ⟨a,ca,hrow⟩:∃ a ca,f.row = .slice (some ⟨a,0,none⟩) f.its.length ca:=by
  rcases hfo'.1.2 with ⟨_,h0⟩ | ⟨a,ca,cur,e,_⟩
  ·omega
  ·exact ⟨a,ca,e⟩
 have hrow':=hfo'.1
 rw [hrow] at hrow' e1
 have hit:w.cell? ⟨a,f.next,none⟩=some (.iface T u):=by
  rw [hrow'.cellAt f.next (by omega),List.getElem?_map,hx];rfl
 have haW:a < W:=hfo.2.1 a (by rw [hrow];rfl)
 have hvl:=hfo'.2 _ (List.mem_of_getElem? hx)
 have hup:=fun m=>WS.up (w:=w.drewN m) (out:=out) (f:=f) hlt hle hb hown hpv (fun x hx=>(hfs x hx).keep (fun _ _=>rfl)) hn
 obtain ⟨L,hL⟩:∃ L,f.its.length=L:=⟨_,rfl⟩
 rw [hL] at e1 hl
 have nag:¬ a=g:=by omega
 have nga:¬ g=a:=by omega
 have ngW:¬ g=W:=by omega
 have nWg:¬ W=g:=by omega
 obtain ⟨nx,hnx⟩:∃ nx,f.next=nx:=⟨_,rfl⟩
 have z0:¬ (nx:Int)=(L:Int):=by omega
 have z1:(nx:Int) < (L:Int):=by omega
 have z2:L≤9223372036854775807:=by omega
 have z3:(0:Int) < (nx:Int):=by omega
 have z4:(0:Int)≤(nx:Int):=by omega
 have hgo:some g≠(Value.slice oa ol oc).ownBlock:=fun e=>by
  obtain ⟨x1,y1,z1⟩:=own_kind hown g e.symm
  obtain ⟨x2,y2,z2⟩:=own_kind hpv g rfl
  rw [z1] at z2
  simp at z2
 have hnb:∀ k,k < B→some k≠(Value.slice oa ol oc).ownBlock:=fun k hk e=>by have:=(hown.lt k e.symm).1;omega
 have hoX:∀ m,((w.drewN m).setCell ⟨g,lo.length * 4+3,none⟩ (.int .i64 ((nx:Int)+1))).ownsRow B 5 1 (.slice oa ol oc) out.length (Lib.byteCells out):=fun m=>by
  have:=(hup m).2.1
  rw [hnx] at this
  exact this
 have hX0:∀ m k,k≠g→((w.drewN m).setCell ⟨g,lo.length * 4+3,none⟩ (.int .i64 ((nx:Int)+1))).heap[k]? = w.heap[k]?:=fun m k hne=>Below.heap_setCell _ _ _ _ (by simpa using hne)
 have hgX:∀ m i v,i≠3→w.cell? ⟨g,lo.length * 4+i,none⟩=some v→((w.drewN m).setCell ⟨g,lo.length * 4+3,none⟩ (.int .i64 ((nx:Int)+1))).cell? ⟨g,lo.length * 4+i,none⟩=some v:=fun m i v hi hc=>by
  exact (World.cell?_setCell_other _ _ _ _ (by simp <;> omega)).trans hc
 have hbeg:∀ m w1 g1 cap1,(((w.drewN m).setCell ⟨g,lo.length * 4+3,none⟩ (.int .i64 ((nx:Int)+1))).alloc (.cells #[.int .u8 44] 5)).grownBy w1 (Value.slice oa ol oc).ownBlock→w1.ownsRow B 5 1 (.slice (some ⟨g1,0,none⟩) (out.length+1) cap1) (out.length+1) (Lib.byteCells out ++ [.int .u8 44])→Calls Tryz.prog 13 #[.pointer (some ⟨W,0,none⟩),.iface T u] (w1.setCell ⟨W,0,none⟩ (.slice (some ⟨g1,0,none⟩) (out.length+1) cap1)) fun e w'=>e = .returned (.tuple #[])∧StepW B W out (lo ++ [f]) w w':=fun m w1 g1 cap1 hgr hown1=>by
  obtain ⟨u1,u2,u3,u4⟩:=hup m
  rw [hnx] at u1 u2 u3 u4
  have hfr:Fr (fun k=>k=W∨B≤k) w ((w.drewN m).setCell ⟨g,lo.length * 4+3,none⟩ (.int .i64 ((nx:Int)+1))):=((Fr.refl _ w).drewN m).setCell _ (.inl (.inr hgB))
  have k1:Below B ((w.drewN m).setCell ⟨g,lo.length * 4+3,none⟩ (.int .i64 ((nx:Int)+1))) w1:=((Below.refl B _).alloc (by simp;omega) _).grown hgr (by simp;omega) (fun q hq=>(u2.lt q hq).1)
  have hok1:Lib.OthersKept 5 none ((w.drewN m).setCell ⟨g,lo.length * 4+3,none⟩ (.int .i64 ((nx:Int)+1))) w1:=((Lib.OthersKept.refl _ _ _).alloc _).grown hgr (own_kind (u2.alloc _))
  obtain ⟨hws,hf2⟩:=WS.wrote (out:=out) (more:=[44]) (fs:=lo ++ [f.up]) hlt (by simpa using hle) u1 u3 u4 k1 hok1 (by simpa [Lib.byteCells] using hown1)
  have hk2:∀ b,b < W→(w1.setCell ⟨W,0,none⟩ (.slice (some ⟨g1,0,none⟩) (out.length+1) cap1)).heap[b]? = w.heap[b]?:=fun b hbl=>by
   rw [Below.heap_setCell _ _ _ _ (by simp;omega),k1.block b (by omega)]
   exact hX0 m b (by omega)
  refine (wbegin_any hA (v:=(T,u)) (c:=t) (out:=out ++ [44]) (fs:=lo ++ [f.up]) (hvl.mono (fun q hq=>⟨hq,hk2 q hq⟩)) hws (by simp;omega) (by simp;omega) (fun w' h'=>ht w' ?_)).mono ?_
  ·have hbw2:Below W w (w1.setCell ⟨W,0,none⟩ (.slice (some ⟨g1,0,none⟩) (out.length+1) cap1)):=⟨k1.os,k1.tape,k1.output,by have:=k1.size;simp at this ⊢;omega,fun k hk=>hk2 k hk⟩
   exact Below.trans hbw2 (h'.mono (Nat.le_of_lt hlt))
  ·rintro e w' ⟨rfl,hbw⟩
   exact ⟨rfl,StepW.of_begin htx (by rw [if_neg (by omega)]) hbw (hfr.trans hf2 (fun _ _ e=>e))⟩
 have hpost:∀ m w1,(((w.drewN m).setCell ⟨g,lo.length * 4+3,none⟩ (.int .i64 ((nx:Int)+1))).alloc (.cells #[.int .u8 44] 5)).grownBy w1 (Value.slice oa ol oc).ownBlock→w1.heap[W]? = some (.cells #[.slice oa ol oc,.slice (some ⟨g,0,none⟩) (lo.length+1) cap] 53 (0,0))∧w1.cell? ⟨g,lo.length * 4,none⟩=some (.int .u8 93)∧w1.cell? ⟨g,lo.length * 4+1,none⟩=some (.slice (some ⟨a,0,none⟩) L ca)∧w1.cell? ⟨a,nx,none⟩=some (.iface T u):=fun m w1 hgr=>by
  have hs:∀ k,k < w.heap.size→some k≠(Value.slice oa ol oc).ownBlock→w1.heap[k]? = ((w.drewN m).setCell ⟨g,lo.length * 4+3,none⟩ (.int .i64 ((nx:Int)+1))).heap[k]?:=fun k hk hd=>(hgr.block k (by simp;omega) hd).trans ((below_alloc _ _).block k (by simpa using hk))
  refine ⟨(hs W (by omega) (hnb W hlt)).trans ((hX0 m W (by omega)).trans hb),?_,?_,?_⟩
  ·exact (World.cell?_of_block (hs g hgl hgo)).trans (hgX m 0 _ (by omega) e0)
  ·exact (World.cell?_of_block (hs g hgl hgo)).trans (hgX m 1 _ (by omega) e1)
  ·rw [hnx] at hit
   exact (World.cell?_of_block ((hs a (by omega) (hnb a (by omega))).trans (hX0 m a (by omega)))).trans hit
 have HBEG:Aside (∀ m w1 g1 cap1,(((w.drewN m).setCell ⟨g,lo.length * 4+3,none⟩ (.int .i64 ((nx:Int)+1))).alloc (.cells #[.int .u8 44] 5)).grownBy w1 (Value.slice oa ol oc).ownBlock→w1.ownsRow B 5 1 (.slice (some ⟨g1,0,none⟩) (out.length+1) cap1) (out.length+1) (Lib.byteCells out ++ [.int .u8 44])→Calls Tryz.prog 13 #[.pointer (some ⟨W,0,none⟩),.iface T u] (w1.setCell ⟨W,0,none⟩ (.slice (some ⟨g1,0,none⟩) (out.length+1) cap1)) fun e w'=>e = .returned (.tuple #[])∧StepW B W out (lo ++ [f]) w w'):=hbeg
 have HPOST:Aside _:=hpost
 have HOX:Aside (∀ m,((w.drewN m).setCell ⟨g,lo.length * 4+3,none⟩ (.int .i64 ((nx:Int)+1))).ownsRow B 5 1 (.slice oa ol oc) out.length (Lib.byteCells out)):=hoX
 clear hpost hoX hX0 hgX hgo hnb
 rw [hnx] at e3 hit
 clear hbeg hup hcell hfs hfo hfo' hpv hl hn hrow' hvl htx hx hrow hcnt hL ht hown hn0 hnx
 go_enter Tryz.func14,Tryz.ntmps14
 go_wp2_with fail
 go_quiet (fail)
 go_wp2_with fail
 go_quiet (fail)
 go_wp2_with (refine wpList_append_lies _ (by rfl) _ _ _ (by rfl) B 5 i0 _ 1 1 Tryz.underlying50 hi0 hz0 hz1 hz2 rfl (by omega) (.slice oa ol oc) out.length (Lib.byteCells out) (by rfl) ((HOX.out _).alloc _) ⟨w.heap.size,0,none⟩ 1 1 [.int .u8 44] (by rfl) (by rfl) (World.news_of_block (cs:=#[.int .u8 44]) (t:=5) (fr:=(0,0)) (heap_news _ _ (by simp))) (by simp [Value.oneCell']) (by omega) (by unfold maxLen;omega) (by omega) (by simp;omega) (w.heap.size+1) (by simp) ?_;intro g1 cap1 w1 hown1 hgrow1 hat1 hlt1;obtain ⟨hb1,f0,f1,f2⟩:=HPOST.out _ _ hgrow1;obtain ⟨d0,d1,d2,d3,d4⟩:=two_c0 hb1)
 refine Calls.mono (HBEG.out _ _ _ _ hgrow1 hown1) ?_
 rintro e w2 ⟨rfl,hsw⟩
 go_wp2_with fail
 exact bodyPost_ret (v:=.tuple #[]) (by simp [results,Tryz.results14,go_sem]) rfl ⟨rfl,hsw⟩
end Go.Proofs.Tryz
