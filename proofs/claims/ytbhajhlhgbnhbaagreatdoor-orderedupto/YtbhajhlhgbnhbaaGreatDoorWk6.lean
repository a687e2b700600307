import Derived.Test.YtbhajhlhgbnhbaaGreatDoorWk1
set_option linter.all false
namespace Go.Proofs.Tryz
set_option maxHeartbeats 16000000
open Go.RowKit
set_option maxRecDepth 10000
def KnB (w:World) (b:Nat) (use:Int) (name:ByteArray) (params:Int) (val df handed wh around:Value):Prop:=w.heap[b]? = some (.cells #[.int .u8 use,.string name,.int .i64 params,val,df,handed,wh,around] 198 (0,0))
theorem KnB.lt {w:World}{b:Nat}{use:Int}{name:ByteArray}{params:Int}{val df handed wh around:Value} (h:KnB w b use name params val df handed wh around):b < w.heap.size:=lt_of_block h
theorem KnB.same {w w':World}{b:Nat}{use:Int}{name:ByteArray}{params:Int}{val df handed wh around:Value} (h:KnB w b use name params val df handed wh around) (e:w'.heap[b]? = w.heap[b]?):KnB w' b use name params val df handed wh around:=e.trans h
theorem KnB.facts {w:World}{b:Nat}{use:Int}{name:ByteArray}{params:Int}{val df handed wh around:Value} (h:KnB w b use name params val df handed wh around) :
  w.cell? ⟨b,0,none⟩=some (.int .u8 use)∧w.cell? ⟨b,1,none⟩=some (.string name)∧w.cell? ⟨b,2,none⟩=some (.int .i64 params)∧w.cell? ⟨b,3,none⟩=some val∧w.cell? ⟨b,4,none⟩=some df∧w.cell? ⟨b,5,none⟩=some handed∧w.cell? ⟨b,6,none⟩=some wh∧w.cell? ⟨b,7,none⟩=some around:=by
 have h':w.heap[b]? = _:=h
 refine ⟨?_,?_,?_,?_,?_,?_,?_,?_⟩ <;> simp [World.cell?,h']
theorem withVariable_ok {w:World}{kn:Option Addr}{d:Int}{name:ByteArray}{x:IV}:Calls Tryz.prog 59 #[.agg #[.pointer kn,.int .i64 d],.string name,iv x] w fun e w'=>∃ nb,e = .returned (.agg #[.pointer (some ⟨nb,0,none⟩),.int .i64 d])∧Below w.heap.size w w'∧w.heap.size≤nb∧KnB w' nb 0 name 0 (iv x) (.pointer none) .nilIface (.pointer none) (.pointer kn):=by
 obtain ⟨T,u⟩:=x
 simp only [iv]
 go_enter Tryz.func59,Tryz.ntmps59
 go_wp2_with fail
 exact bodyPost_ret (v:=.agg #[.pointer (some ⟨w.heap.size+2,0,none⟩),.int .i64 d]) (by simp [results,Tryz.results59,go_sem]) rfl ⟨w.heap.size+2,rfl,below_alloc3 w _ _ _,by omega,heap_new3 w _ _ _⟩
theorem eight {w w1:World} (k:Below w.heap.size w w1) {a b c d e f g h:Addr}{va vb vc vd ve vf vg vh:Value} (ha:w.cell? a=some va) (hb:w.cell? b=some vb) (hc:w.cell? c=some vc) (hd:w.cell? d=some vd) (he:w.cell? e=some ve) (hf:w.cell? f=some vf) (hg:w.cell? g=some vg) (hh:w.cell? h=some vh) :
  w1.cell? a=some va∧w1.cell? b=some vb∧w1.cell? c=some vc∧w1.cell? d=some vd∧w1.cell? e=some ve∧w1.cell? f=some vf∧w1.cell? g=some vg∧w1.cell? h=some vh :=
 ⟨(k.cell (lt_cell ha)).trans ha,(k.cell (lt_cell hb)).trans hb,(k.cell (lt_cell hc)).trans hc,(k.cell (lt_cell hd)).trans hd,(k.cell (lt_cell he)).trans he,(k.cell (lt_cell hf)).trans hf,(k.cell (lt_cell hg)).trans hg,(k.cell (lt_cell hh)).trans hh⟩
def NextB (C:Nat→Prop) (w0:World) (fv:Value) (kn:Option Addr) (d:Int) (name:ByteArray) (s:Sp) (P:SP) (Qs:List SP):Prop:=∀ w t G nb,SameOn C w0 w→w0.heap.size≤w.heap.size→HoldsP P G w t→KnB w nb 0 name 0 (iv t.1) (.pointer none) .nilIface (.pointer none) (.pointer kn)→OpensG (fun k=>C k∨G k∨k=nb) w fv (some ⟨nb,0,none⟩) d s Qs
theorem enters_open4:Enters Tryz.prog 58:=enters_of Tryz.func58 (by kernel_rfl) rfl
theorem then_bind {C:Nat→Prop}{w0 w:World}{pb fb sb b T2 b2:Nat}{kn:Option Addr}{d:Int}{name:ByteArray}{s:Sp}{P:SP}{Qs:List SP} (hp:PlaceBox w pb kn d) (hf:Box w fb (.pointer (some ⟨b,0,none⟩)) 160) (hx:SpotB w sb s) (hC:∀ k,C k→k < w0.heap.size) (hb:C b) (c1:w0.cell? ⟨b,1,none⟩=some (.string name)) (c2:w0.cell? ⟨b,2,none⟩=some (.iface T2 (.pointer (some ⟨b2,0,none⟩)))) (hs:SameOn C w0 w) (hl:w0.heap.size≤w.heap.size) (hN:NextB C w0 (.iface T2 (.pointer (some ⟨b2,0,none⟩))) kn d name s P Qs) :
  ThenG (fun k=>C k∨k=pb∨k=fb∨k=sb) w (.func (.func 58) #[] #[.pointer (some ⟨pb,0,none⟩),.pointer (some ⟨fb,0,none⟩),.pointer (some ⟨sb,0,none⟩)]) P Qs:=by
 have hpl:=hp.lt
 have hfl:=hf.lt
 have hxl:=hx.lt
 refine ⟨_,_,rfl,enters_open4,by grind,?_⟩
 intro w' t G hs' hl' hP
 have hp':=hp.same (hs' pb (by simp))
 have hf':=hf.same (hs' fb (by simp))
 have hx':=hx.same (hs' sb (by simp))
 have p0:=hp'.c0
 have p1:=hp'.c1
 have p2:=hp'.lt
 have f0:=hf'.cell
 have f2:=hf'.lt
 have hs0:SameOn C w0 w':=hs.trans (hs'.mono (fun _ h=>.inl h))
 have n1:=hs0.cell hb c1
 have n2:=hs0.cell hb c2
 have n3:b < w'.heap.size:=by have:=hC b hb;omega
 have HO:∀ w1 nb,Below w'.heap.size w' w1→KnB w1 nb 0 name 0 (iv t.1) (.pointer none) .nilIface (.pointer none) (.pointer kn)→Calls Tryz.prog 22 #[.agg #[.pointer (some ⟨nb,0,none⟩),.int .i64 d],.iface T2 (.pointer (some ⟨b2,0,none⟩)),spv s] w1 (MadeC Qs (fun k=>C k∨G k∨k=nb) w1):=fun w1 nb k hk=>(hN w1 t G nb (hs0.trans (fun j hj=>k.block j (by have:=hC j hj;omega))) (by have:=k.size;omega) (hP.move (fun j hj=>k.block j (hP.1 j hj)) k.size) hk).2 w1 (SameOn.refl _ _) (Nat.le_refl _)
 clear hP hN
 obtain ⟨⟨T,u⟩,q⟩:=s
 obtain ⟨⟨Tx,ux⟩,qx⟩:=t
 simp only [spv,iv] at HO ⊢
 obtain ⟨wA,hA⟩:∃ wA,wA=w'.alloc (.cells #[.iface Tx ux,.pointer qx] 75):=⟨_,rfl⟩
 have kW:Below w'.heap.size w' wA:=hA ▸ below_alloc w' _
 have wx:SpotB wA w'.heap.size ((Tx,ux),qx):=hA ▸ SpotB.new w' ((Tx,ux),qx)
 obtain ⟨y0,y1,_,_,y4⟩:=wx.facts
 obtain ⟨x0,x1,_,_,x4⟩:=(hx'.same (kW.block _ hx'.lt)).facts
 have a0:=(kW.cell (p:=⟨pb,0,none⟩) p2).trans p0
 have a1:=(kW.cell (p:=⟨pb,1,none⟩) p2).trans p1
 have a2:=(kW.cell (p:=⟨fb,0,none⟩) f2).trans f0
 have a3:=(kW.cell (p:=⟨b,2,none⟩) n3).trans n2
 have a4:=(kW.cell (p:=⟨b,1,none⟩) n3).trans n1
 have s0:=eight ((Below.refl _ wA).drew) a0 a1 a2 a3 a4 x0 x1 y0
 have HV:∀ w1,Calls Tryz.prog 59 #[.agg #[.pointer kn,.int .i64 d],.string name,.iface Tx ux] w1 fun e w'=>∃ nb,e = .returned (.agg #[.pointer (some ⟨nb,0,none⟩),.int .i64 d])∧Below w1.heap.size w1 w'∧w1.heap.size≤nb∧KnB w' nb 0 name 0 (.iface Tx ux) (.pointer none) .nilIface (.pointer none) (.pointer kn):=fun w1=>withVariable_ok (x:=(Tx,ux))
 go_enter Tryz.func58,Tryz.ntmps58
 go_wp2_with fail
 rw [← hA]
 clear hA
 go_region_held3 (fun w2=>w2.cell? ⟨pb,0,none⟩=some (.pointer kn)∧w2.cell? ⟨pb,1,none⟩=some (.int .i64 d)∧w2.cell? ⟨fb,0,none⟩=some (.pointer (some ⟨b,0,none⟩))∧w2.cell? ⟨b,2,none⟩=some (.iface T2 (.pointer (some ⟨b2,0,none⟩)))∧w2.cell? ⟨b,1,none⟩=some (.string name)∧w2.cell? ⟨sb,0,none⟩=some (.iface T u)∧w2.cell? ⟨sb,1,none⟩=some (.pointer q)∧w2.cell? ⟨w'.heap.size,0,none⟩=some (.iface Tx ux)) (first | exact s0 | exact e4 | exact f4 | go_keep)
  (first
   | (go_at_call 59;refine (HV _).mono ?_;rintro e w1 ⟨nb,rfl,k1,hnb,hkn⟩;have kX:Below wA.heap.size wA w1:=(Below.refl _ _).drew.trans (k1.mono (by simp));have e4:=eight kX a0 a1 a2 a3 a4 x0 x1 y0;have kY:=kW.trans (kX.mono kW.size);have hnb':wA.heap.size≤nb:=hnb)
   | (go_at_call 22;refine (HO _ nb kY hkn).mono ?_;rintro e w2 ⟨k2,K,cap,rfl,hM⟩;have f4:=eight (kX.trans (k2.mono kX.size)) a0 a1 a2 a3 a4 x0 x1 y0))
 all_goals
  go_wp2_with fail
  go_ret
  have hWs:=kW.size
  exact (MadeC.under (L:=Qs) (C:=fun k=>C k∨G k∨k=nb) ⟨k2,K,cap,rfl,hM⟩ kY).more (by grind)
theorem opensG_bind {C:Nat→Prop}{w0:World}{b T1 b1 T2 b2:Nat}{kn:Option Addr}{d:Int}{name:ByteArray}{x:IV}{Lo:List (SP×List SP)} (hb:C b) (c0:w0.cell? ⟨b,0,none⟩=some (.iface T1 (.pointer (some ⟨b1,0,none⟩)))) (c1:w0.cell? ⟨b,1,none⟩=some (.string name)) (c2:w0.cell? ⟨b,2,none⟩=some (.iface T2 (.pointer (some ⟨b2,0,none⟩))))
  (hO:OpensG C w0 (.iface T1 (.pointer (some ⟨b1,0,none⟩))) kn d (x,none) (Lo.map (·.1))) (hN:∀ y∈Lo,NextB C w0 (.iface T2 (.pointer (some ⟨b2,0,none⟩))) kn d name (x,none) y.1 y.2) :
  OpensG C w0 (.iface 160 (.pointer (some ⟨b,0,none⟩))) kn d (x,none) (Lo.flatMap (·.2)):=by
 obtain ⟨hC,hO⟩:=hO
 refine ⟨hC,fun w hs hl=>?_⟩
 have n0:=hs.cell hb c0
 have n3:b < w.heap.size:=by have:=hC b hb;omega
 have m0:=missIdentity;have m1:=missDescent;have m2:=missField;have m3:=missIndex;have m4:=missEach;have m5:=missOptional;have m6:=missTry;have m7:=missLabel;have m8:=missBreak;have m9:=missIf;have m10:=hitBind
 obtain ⟨T,u⟩:=x
 simp only [spv,iv]
 go_enter Tryz.func22,Tryz.ntmps22
 go_wp2_with fail
 obtain ⟨wA,hA,kW,wp,wf,wx,wl⟩:=three_boxes2 w kn d (.pointer (some ⟨b,0,none⟩)) 160 ((T,u),none)
 have HO:∀ w1,Below w.heap.size w w1→Calls Tryz.prog 22 #[.agg #[.pointer kn,.int .i64 d],.iface T1 (.pointer (some ⟨b1,0,none⟩)),.agg #[.iface T u,.pointer none]] w1 (MadeC (Lo.map (·.1)) C w1):=fun w1 k=>hO _ (hs.trans (fun j hj=>k.block j (Nat.lt_of_lt_of_le (hC j hj) hl))) (Nat.le_trans hl k.size)
 have HT:∀ w1,Below wA.heap.size wA w1→∀ y∈Lo,ThenG (fun k=>C k∨k=w.heap.size∨k=w.heap.size+2∨k=w.heap.size+1) w1 (.func (.func 58) #[] #[.pointer (some ⟨w.heap.size,0,none⟩),.pointer (some ⟨w.heap.size+2,0,none⟩),.pointer (some ⟨w.heap.size+1,0,none⟩)]) y.1 y.2:=fun w1 k y hy=>then_bind (wp.same (k.block _ wp.lt)) (wf.same (k.block _ wf.lt)) (wx.same (k.block _ wx.lt)) hC hb c1 c2 (hs.trans (fun j hj=>(k.block j (by have:=hC j hj;omega)).trans (kW.block j (by have:=hC j hj;omega)))) (by have:=k.size;omega) (hN y hy)
 clear hO hN
 simp only [iv] at hA
 obtain ⟨x0,x1,_,_,x4⟩:=wx.facts
 have a0:=wp.c0
 have a1:=wp.c1
 have a2:=wf.cell
 have a3:=(kW.cell (p:=⟨b,0,none⟩) n3).trans n0
 have s0:=six ((Below.refl _ wA).drew) a0 a1 a2 a3 x0 x1
 rw [← hA]
 clear hA
 go_region_held3 (fun w'=>w'.cell? ⟨w.heap.size,0,none⟩=some (.pointer kn)∧w'.cell? ⟨w.heap.size,1,none⟩=some (.int .i64 d)∧w'.cell? ⟨w.heap.size+2,0,none⟩=some (.pointer (some ⟨b,0,none⟩))∧w'.cell? ⟨b,0,none⟩=some (.iface T1 (.pointer (some ⟨b1,0,none⟩)))∧w'.cell? ⟨w.heap.size+1,0,none⟩=some (.iface T u)∧w'.cell? ⟨w.heap.size+1,1,none⟩=some (.pointer none)) (first | exact s0 | exact d4 | exact e4 | exact f4 | go_keep)
   (first
    | (go_at_call 50;refine plain_ok.mono ?_;rintro e w3 ⟨rfl,k3⟩;have kP:Below wA.heap.size wA w3:=(Below.refl _ _).drew.trans (k3.mono (by simp));have d4:=six kP a0 a1 a2 a3 x0 x1;have kQ:=kW.trans (kP.mono kW.size))
    | (go_at_call 22;refine (HO _ kQ).mono ?_;rintro e w1 ⟨k1,K,cap,rfl,F,D,hS,hF,hD⟩;have kX:Below wA.heap.size wA w1:=kP.trans (k1.mono kP.size);have e4:=six kX a0 a1 a2 a3 x0 x1;have hX:=kX.size;have hPs:=kP.size)
    | (go_at_call 48;refine (each_okg hS ⟨_,_,rfl⟩ (by grind) (HT w1 kX) (by grind)).mono ?_;rintro e w2 ⟨k2,K2,cap2,F2,D2,rfl,hS2,hF2,hD2⟩;have f4:=six (kX.trans (k2.mono kX.size)) a0 a1 a2 a3 x0 x1))
 all_goals
  go_wp2_with fail
  go_ret
  exact .mk' (kW.trans ((kX.trans (k2.mono kX.size)).mono kW.size)) hS2 (by grind) (by grind)
def FindIs (C:Nat→Prop) (w:World) (use:Int) (name:ByteArray) (params:Int):Nat→Option Addr→Option Addr→Prop
 | 0,kn,r=>kn=none∧r=none
 | n+1,kn,r=>∃ (b:Nat) (u:Int) (nm:ByteArray) (ps:Int) (val df hd wh:Value) (around:Option Addr),kn=some ⟨b,0,none⟩∧C b∧KnB w b u nm ps val df hd wh (.pointer around)∧
   (((u=use∧nm=name∧ps=params)∧r=kn)∨(((u == use)=false∨(u=use∧(nm.toList == name.toList)=false)∨(u=use∧nm=name∧(ps == params)=false))∧FindIs C w use name params n around r))
theorem FindIs.move {C C':Nat→Prop}{w w':World}{use:Int}{name:ByteArray}{params:Int} (hs:SameOn C w w') (hC:∀ k,C k→C' k):∀ {n:Nat}{kn r:Option Addr},FindIs C w use name params n kn r→FindIs C' w' use name params n kn r
 | 0,_,_,h=>h
 | n+1,kn,r,⟨b,u,nm,ps,val,df,hd,wh,around,e,hb,hk,h⟩=>⟨b,u,nm,ps,val,df,hd,wh,around,e,hC b hb,hk.same (hs b hb),h.imp id (fun h=>⟨h.1,FindIs.move hs hC h.2⟩)⟩
theorem kfind_ok {C:Nat→Prop}{w:World}{use:Int}{name:ByteArray}{params:Int}{n:Nat}{kn r:Option Addr} (h:FindIs C w use name params n kn r):Calls Tryz.prog 55 #[.pointer kn,.int .u8 use,.string name,.int .i64 params] w fun e w'=>e = .returned (.pointer r)∧Below w.heap.size w w':=by
 have H:Aside (FindIs C w use name params n kn r):=h
 clear h
 go_enter Tryz.func55,Tryz.ntmps55
 go_wp2_with fail
 go_loopg [0] n (fun k v0 wr=>∃ kn',v0 = .pointer kn'∧wr=w∧Aside (FindIs C w use name params k kn' r))
 case atStart=>exact ⟨kn,rfl,rfl,H.out⟩
 case round =>
  obtain ⟨kn',rfl,rfl,HF⟩:=hrel
  match gk,HF with
  | 0,HF =>
   obtain ⟨rfl,rfl⟩:=HF.out
   go_wp2_with fail
   go_ret
   exact ⟨rfl,Below.refl _ _⟩
  | K+1,HF =>
   obtain ⟨b,u,nm,ps,val,df,hd,wh,around,rfl,hb,hk,h⟩:=HF.out
   obtain ⟨c0,c1,c2,c3,c4,c5,c6,c7⟩:=hk.facts
   have hlt:=hk.lt
   clear hk
   rcases h with ⟨⟨rfl,rfl,rfl⟩,rfl⟩ | ⟨h,hn⟩
   ·have e1:(nm.toList == nm.toList)=true:=by simp
    go_wp2_with fail
    go_ret
    exact ⟨rfl,Below.refl _ _⟩
   ·have HN:Aside (FindIs C wr use name params K around r):=hn
    clear hn
    rcases h with h | ⟨rfl,h⟩ | ⟨rfl,rfl,h⟩
    ·have h':(u != use)=true:=by simpa using h
     go_wp2_with fail
     go_roundg K
     case measure=>omega
     case rel=>exact ⟨around,rfl,rfl,HN.out⟩
    ·go_wp2_with fail
     go_roundg K
     case measure=>omega
     case rel=>exact ⟨around,rfl,rfl,HN.out⟩
    ·have e1:(nm.toList == nm.toList)=true:=by simp
     have h':(ps != params)=true:=by simpa using h
     go_wp2_with fail
     go_roundg K
     case measure=>omega
     case rel=>exact ⟨around,rfl,rfl,HN.out⟩
theorem tri {w w1:World} (k:Below w.heap.size w w1) {a b c:Addr}{va vb vc:Value} (ha:w.cell? a=some va) (hb:w.cell? b=some vb) (hc:w.cell? c=some vc):w1.cell? a=some va∧w1.cell? b=some vb∧w1.cell? c=some vc :=
 ⟨(k.cell (lt_cell ha)).trans ha,(k.cell (lt_cell hb)).trans hb,(k.cell (lt_cell hc)).trans hc⟩
theorem two_boxes (w:World) (kn:Option Addr) (d:Int) (s:Sp):∃ wA,wA=(w.alloc (.cells #[.pointer kn,.int .i64 d] 71)).alloc (.cells #[iv s.1,.pointer s.2] 75)∧Below w.heap.size w wA∧PlaceBox wA w.heap.size kn d∧SpotB wA (w.heap.size+1) s∧wA.heap.size=w.heap.size+2 :=
 ⟨_,rfl,below_alloc2 w _ _,(Below.heap_alloc _ _ _ (by simp)).trans (heap_new w _),heap_new2' w _ _,by simp⟩
theorem open_defg {C:Nat→Prop}{Ls:List SP}{w:World}{kn:Option Addr}{d:Int}{U b:Nat}{x:IV} (hU:U=224∨U=230∨U=227) (h:∀ w1,Below w.heap.size w w1→Calls Tryz.prog 66 #[.agg #[.pointer kn,.int .i64 d],.iface U (.pointer (some ⟨b,0,none⟩)),.agg #[iv x,.pointer none]] w1 (MadeC Ls C w1)) :
  Calls Tryz.prog 22 #[.agg #[.pointer kn,.int .i64 d],.iface U (.pointer (some ⟨b,0,none⟩)),.agg #[iv x,.pointer none]] w (MadeC Ls C w):=by
 have m0:=missIdentity;have m1:=missDescent;have m2:=missField;have m3:=missIndex;have m4:=missEach;have m5:=missOptional;have m6:=missTry;have m7:=missLabel;have m8:=missBreak;have m9:=missIf;have m10:=missBind;have m11:=missReduce;have m12:=missForeach;have m13:=missDef;have m14:=missCall;have m15:=missBinary
 obtain ⟨T,u⟩:=x
 simp only [iv] at h ⊢
 rcases hU with rfl | rfl | rfl
 all_goals
  go_enter Tryz.func22,Tryz.ntmps22
  go_wp2_with fail
  go_region_held3 (fun w'=>w'.cell? ⟨w.heap.size,0,none⟩=some (.pointer kn)∧w'.cell? ⟨w.heap.size,1,none⟩=some (.int .i64 d)∧w'.cell? ⟨w.heap.size+1,0,none⟩=some (.iface T u)∧w'.cell? ⟨w.heap.size+1,1,none⟩=some (.pointer none)) (first | exact e4 | exact f4 | exact g4 | go_keep)
   (first
    | (go_at_call 50;refine plain_ok.mono ?_;rintro e w1 ⟨rfl,k1⟩;have kA:Below (w.heap.size+2) ((w.alloc (.cells #[.pointer kn,.int .i64 d] 71)).alloc (.cells #[.iface T u,.pointer none] 75)) w1:=(Below.refl _ _).drew.trans (k1.mono (by simp));have e4:=four kA;have kA':Below w.heap.size w w1:=(below_alloc2 w _ _).trans (kA.mono (by omega)))
    | (go_at_call 66;refine (h _ kA').mono ?_;rintro e w2 ⟨k2,K,cap,rfl,hM⟩;have kB:=kA.trans (k2.mono (by have:=kA.size;simp at this;omega));have f4:=four kB)
    | (go_at_call 65;refine pathless_ok.mono ?_;rintro e w3 ⟨rfl,k3⟩;have kC:=kB.trans (k3.mono (by have:=kB.size;simp at this;omega));have g4:=four kC))
  go_wp2_with fail
  go_ret
  exact (MadeC.under (L:=Ls) (C:=C) ⟨k2,K,cap,rfl,hM⟩ kA').same k3
theorem opensG_lit {C:Nat→Prop}{w0:World}{b:Nat}{kn:Option Addr}{d:Int}{x y:IV} (hC:∀ k,C k→k < w0.heap.size) (hb:C b) (c0:w0.cell? ⟨b,0,none⟩=some (iv y)):OpensG C w0 (.iface 224 (.pointer (some ⟨b,0,none⟩))) kn d (x,none) [Just (y,none)]:=by
 refine ⟨hC,fun w0' hs0 hl0=>open_defg (.inl rfl) (fun w k=>?_)⟩
 have hs:SameOn C w0 w:=hs0.trans (fun j hj=>k.block j (Nat.lt_of_lt_of_le (hC j hj) hl0))
 have n0:=hs.cell hb c0
 have n2:=lt_cell n0
 have hO:∀ w1,Calls Tryz.prog 43 #[spv (y,none)] w1 (MadeC [Just (y,none)] C w1):=fun w1=>one_okg (G:=fun _=>False) ⟨fun _ h=>h.elim,fun _ _ _=>rfl⟩ (fun _ h=>h.elim)
 obtain ⟨T,u⟩:=x
 obtain ⟨Ty,uy⟩:=y
 simp only [spv,iv] at hO n0 ⊢
 have m0:=hitLiteral
 go_enter Tryz.func66,Tryz.ntmps66
 go_wp2_with (go_at_call 43;refine (hO _).mono ?_;rintro e w1 ⟨k1,K,cap,rfl,hM⟩)
 go_ret
 exact MadeC.under ⟨k1,K,cap,rfl,hM⟩ (below_alloc2 w _ _)
theorem opensG_var {C G:Nat→Prop}{w0:World}{b n vb:Nat}{kn:Option Addr}{d:Int}{name nm:ByteArray}{u0 ps:Int}{df hd wh ar:Value}{x y:IV}{P:SP} (hC:∀ k,C k→k < w0.heap.size) (hb:C b) (c0:w0.cell? ⟨b,0,none⟩=some (.string name)) (hF:FindIs C w0 0 name 0 n kn (some ⟨vb,0,none⟩)) (hv:C vb) (hk:KnB w0 vb u0 nm ps (iv y) df hd wh ar) (hP:HoldsP P G w0 (y,none)) (hG:∀ k,G k→C k):OpensG C w0 (.iface 227 (.pointer (some ⟨b,0,none⟩))) kn d (x,none) [P]:=by
 refine ⟨hC,fun w0' hs0 hl0=>open_defg (.inr (.inr rfl)) (fun w k=>?_)⟩
 have hs:SameOn C w0 w:=hs0.trans (fun j hj=>k.block j (Nat.lt_of_lt_of_le (hC j hj) hl0))
 have hl:w0.heap.size≤w.heap.size:=Nat.le_trans hl0 k.size
 have n0:=hs.cell hb c0
 have n2:=lt_cell n0
 have hP1:=hP.move (hs.mono hG) hl
 have hO:∀ w1,Below w.heap.size w w1→Calls Tryz.prog 43 #[spv (y,none)] w1 (MadeC [P] C w1):=fun w1 k=>one_okg (hP1.move (fun b hb=>k.block b (hP1.1 b hb)) k.size) hG
 have hf:∀ w1,Below w.heap.size w w1→Calls Tryz.prog 55 #[.pointer kn,.int .u8 0,.string name,.int .i64 0] w1 fun e w'=>e = .returned (.pointer (some ⟨vb,0,none⟩))∧Below w1.heap.size w1 w':=fun w1 k=>kfind_ok (hF.move (C':=C) (hs.trans (fun j hj=>k.block j (by have:=hC j hj;omega))) (fun _ h=>h))
 have hk1:=hk.same (hs vb hv)
 obtain ⟨_,_,_,v0,_⟩:=hk1.facts
 have v1:=hk1.lt
 obtain ⟨T,u⟩:=x
 obtain ⟨Ty,uy⟩:=y
 simp only [spv,iv] at hO v0 ⊢
 have m0:=missLiteral
 have m1:=hitVariable
 clear hP hP1 hk hk1 hF
 go_enter Tryz.func66,Tryz.ntmps66
 go_wp2_with fail
 obtain ⟨wA,hA,kW,wp,wx,wl⟩:=two_boxes w kn d ((T,u),none)
 simp only [iv] at hA
 have a0:=wp.c0
 have a1:=(kW.cell (p:=⟨b,0,none⟩) n2).trans n0
 have a2:=(kW.cell (p:=⟨vb,3,none⟩) v1).trans v0
 have s0:=tri ((Below.refl _ wA).drew) a0 a1 a2
 rw [← hA]
 clear hA
 go_region_held3 (fun w'=>w'.cell? ⟨w.heap.size,0,none⟩=some (.pointer kn)∧w'.cell? ⟨b,0,none⟩=some (.string name)∧w'.cell? ⟨vb,3,none⟩=some (.iface Ty uy)) (first | exact s0 | exact e4 | exact f4 | go_keep)
  (first
   | (go_at_call 55;refine (hf _ kW.drew).mono ?_;rintro e w2 ⟨rfl,k2⟩;have kX:Below wA.heap.size wA w2:=(Below.refl _ _).drew.trans (k2.mono (by simp));have e4:=tri kX a0 a1 a2;have kY:=kW.trans (kX.mono kW.size))
   | (go_at_call 43;refine (hO _ kY).mono ?_;rintro e w1 ⟨k1,K,cap,rfl,hM⟩;have f4:=tri (kX.trans (k1.mono kX.size)) a0 a1 a2))
 all_goals
  go_wp2_with fail
  go_ret
  exact MadeC.under ⟨k1,K,cap,rfl,hM⟩ kY
def OperG (C:Nat→Prop) (w0:World) (op:ByteArray) (P Q R:SP):Prop:=∀ w t s G G',SameOn C w0 w→w0.heap.size≤w.heap.size→HoldsP P G w t→HoldsP Q G' w s→
 Calls Tryz.prog 183 #[iv t.1,.string op,iv s.1] w fun e w'=>Below w.heap.size w w'∧∃ z G'',e = .returned (iv z)∧HoldsP R G'' w' (z,none)∧∀ k,G'' k→C k∨G k∨G' k∨w.heap.size≤k
theorem vg_oper {C G:Nat→Prop}{xb fb b:Nat}{w0 w:World}{t:Sp}{op:ByteArray}{P Q R:SP} (h:OperG C w0 op P Q R) (hP:HoldsP P G w t) (hx:SpotB w xb t) (hf:Box w fb (.pointer (some ⟨b,0,none⟩)) 171) (hC:∀ k,C k→k < w0.heap.size) (hb:C b) (c1:w0.cell? ⟨b,1,none⟩=some (.string op)) (hs:SameOn C w0 w) (hl:w0.heap.size≤w.heap.size) :
  VG (fun k=>C k∨G k∨k=xb∨k=fb) w (.func (.func 182) #[] #[.pointer (some ⟨xb,0,none⟩),.pointer (some ⟨fb,0,none⟩)]) Q R:=by
 have hxl:=hx.lt
 have hfl:=hf.lt
 have hPl:=hP.1
 refine ⟨_,_,rfl,enters_op31,by grind,?_⟩
 intro w' s G' hs' hl' hQ
 have hs0:SameOn C w0 w':=hs.trans (hs'.mono (fun _ h=>.inl h))
 have hx':=hx.same (hs' xb (by simp))
 have hf':=hf.same (hs' fb (by simp))
 have f0:=hf'.cell
 have f2:=hf'.lt
 have n1:=hs0.cell hb c1
 have n2:b < w'.heap.size:=by have:=hC b hb;omega
 have hP':=hP.move (hs'.mono (fun _ h=>.inr (.inl h))) hl'
 have H:∀ w1,Below w'.heap.size w' w1→Calls Tryz.prog 183 #[iv t.1,.string op,iv s.1] w1 fun e w2=>Below w1.heap.size w1 w2∧∃ z G'',e = .returned (iv z)∧HoldsP R G'' w2 (z,none)∧∀ k,G'' k→C k∨G k∨G' k∨w1.heap.size≤k:=fun w1 k=>h w1 t s G G' (hs0.trans (fun j hj=>k.block j (by have:=hC j hj;omega))) (by have:=k.size;omega) (hP'.move (fun j hj=>k.block j (hP'.1 j hj)) k.size) (hQ.move (fun j hj=>k.block j (hQ.1 j hj)) k.size)
 clear hP hP' hQ h
 obtain ⟨⟨T,u⟩,q⟩:=t
 obtain ⟨⟨T1,u1⟩,q1⟩:=s
 obtain ⟨x0,x1,_,_,x4⟩:=hx'.facts
 simp only [iv] at H ⊢
 have s0:=tri ((Below.refl _ w').drew) x0 f0 n1
 go_enter Tryz.func182,Tryz.ntmps182
 go_wp2_with fail
 go_region_held3 (fun w1=>w1.cell? ⟨xb,0,none⟩=some (.iface T u)∧w1.cell? ⟨fb,0,none⟩=some (.pointer (some ⟨b,0,none⟩))∧w1.cell? ⟨b,1,none⟩=some (.string op)) (first | exact s0 | exact e4 | go_keep)
  (first | (go_at_call 183;refine (H _ (Below.refl _ _).drew).mono ?_;rintro e w1 ⟨k1,⟨T2,u2⟩,G'',rfl,hR,hG''⟩;have kX:Below w'.heap.size w' w1:=(Below.refl _ _).drew.trans (k1.mono (by simp));have e4:=tri kX x0 f0 n1;have hG':∀ k,G'' k→C k∨G k∨G' k∨w'.heap.size≤k:=hG''))
 all_goals
  go_wp2_with fail
  go_ret
  exact ⟨kX,(T2,u2),G'',rfl,hR,by grind⟩
theorem then_operg {C:Nat→Prop}{pb fb sb b T1 b1:Nat}{w0 w:World}{kn:Option Addr}{d:Int}{x:IV}{op:ByteArray}{P Q R:SP} (hp:PlaceBox w pb kn d) (hf:Box w fb (.pointer (some ⟨b,0,none⟩)) 171) (hx:SpotB w sb (x,none)) (hb:C b) (c1:w0.cell? ⟨b,1,none⟩=some (.string op)) (c2:w0.cell? ⟨b,2,none⟩=some (.iface T1 (.pointer (some ⟨b1,0,none⟩)))) (hO:OpensG C w0 (.iface T1 (.pointer (some ⟨b1,0,none⟩))) kn d (x,none) [Q]) (h:OperG C w0 op P Q R) (hs:SameOn C w0 w) (hl:w0.heap.size≤w.heap.size) :
  ThenG (fun k=>C k∨k=pb∨k=fb∨k=sb) w (.func (.func 181) #[] #[.pointer (some ⟨pb,0,none⟩),.pointer (some ⟨fb,0,none⟩),.pointer (some ⟨sb,0,none⟩)]) P [R]:=by
 obtain ⟨hC,hO⟩:=hO
 have hpl:=hp.lt
 have hfl:=hf.lt
 have hxl:=hx.lt
 refine ⟨_,_,rfl,enters_op3,by grind,?_⟩
 intro w' t G hs' hl' hP
 have hs0:SameOn C w0 w':=hs.trans (hs'.mono (fun _ h=>.inl h))
 have hp':=hp.same (hs' pb (by simp))
 have hf':=hf.same (hs' fb (by simp))
 have hx':=hx.same (hs' sb (by simp))
 have p0:=hp'.c0
 have p1:=hp'.c1
 have p2:=hp'.lt
 have f0:=hf'.cell
 have f2:=hf'.lt
 have n2:=hs0.cell hb c2
 have n3:b < w'.heap.size:=by have:=hC b hb;omega
 have hGl:=hP.1
 obtain ⟨⟨Tx,ux⟩,qx⟩:=t
 obtain ⟨wA,hA⟩:∃ wA,wA=w'.alloc (.cells #[.iface Tx ux,.pointer qx] 75):=⟨_,rfl⟩
 have kW:Below w'.heap.size w' wA:=hA ▸ below_alloc w' _
 have wx:SpotB wA w'.heap.size ((Tx,ux),qx):=hA ▸ SpotB.new w' ((Tx,ux),qx)
 have wl:wA.heap.size=w'.heap.size+1:=by rw [hA];simp
 have HO:Calls Tryz.prog 22 #[.agg #[.pointer kn,.int .i64 d],.iface T1 (.pointer (some ⟨b1,0,none⟩)),spv (x,none)] wA.drew (MadeC [Q] C wA.drew):=hO _ (hs0.trans (fun j hj=>kW.drew.block j (by have:=hC j hj;omega))) (by have:=kW.size;simp;omega)
 have HV:∀ w1,Below wA.heap.size wA w1→VG (fun k=>C k∨G k∨k=w'.heap.size∨k=fb) w1 (.func (.func 182) #[] #[.pointer (some ⟨w'.heap.size,0,none⟩),.pointer (some ⟨fb,0,none⟩)]) Q R:=fun w1 k=>by
  have k2:=kW.trans (k.mono kW.size)
  exact vg_oper h (hP.move (fun j hj=>k2.block j (hGl j hj)) k2.size) (wx.same (k.block _ wx.lt)) (hf'.same (k2.block _ f2)) hC hb c1 (hs0.trans (fun j hj=>k2.block j (by have:=hC j hj;omega))) (by have:=k2.size;omega)
 obtain ⟨T,u⟩:=x
 obtain ⟨x0,x1,_,_,x4⟩:=(hx'.same (kW.block _ hx'.lt)).facts
 simp only [spv,iv] at HO ⊢
 have a0:=(kW.cell (p:=⟨pb,0,none⟩) p2).trans p0
 have a1:=(kW.cell (p:=⟨pb,1,none⟩) p2).trans p1
 have a2:=(kW.cell (p:=⟨fb,0,none⟩) f2).trans f0
 have a3:=(kW.cell (p:=⟨b,2,none⟩) n3).trans n2
 have s0:=six ((Below.refl _ wA).drew) a0 a1 a2 a3 x0 x1
 clear hO hP h
 go_enter Tryz.func181,Tryz.ntmps181
 go_wp2_with fail
 rw [← hA]
 clear hA
 go_region_held3 (fun w1=>w1.cell? ⟨pb,0,none⟩=some (.pointer kn)∧w1.cell? ⟨pb,1,none⟩=some (.int .i64 d)∧w1.cell? ⟨fb,0,none⟩=some (.pointer (some ⟨b,0,none⟩))∧w1.cell? ⟨b,2,none⟩=some (.iface T1 (.pointer (some ⟨b1,0,none⟩)))∧w1.cell? ⟨sb,0,none⟩=some (.iface T u)∧w1.cell? ⟨sb,1,none⟩=some (.pointer none)) (first | exact s0 | exact e4 | exact f4 | go_keep)
   (first
    | (go_at_call 22;refine HO.mono ?_;rintro e w1 ⟨k1,K,cap,rfl,F,D,hS,hF,hD⟩;have kX:Below wA.heap.size wA w1:=(Below.refl _ _).drew.trans (k1.mono (by simp));have e4:=six kX a0 a1 a2 a3 x0 x1;have hX:=kX.size;have hF':∀ k,F k→C k∨wA.heap.size≤k:=hF;have hD':∀ k,D k→wA.heap.size≤k:=hD)
    | (go_at_call 126;refine (valued_okg (C:=fun k=>C k∨G k∨k=w'.heap.size∨k=fb) (L:=[(Q,R)]) hS ⟨_,_,rfl⟩ (by grind) (fun y hy=>by rw [List.mem_singleton] at hy;subst hy;exact HV w1 kX) (by grind)).mono ?_;rintro e w2 ⟨k2,K2,cap2,F2,rfl,hS2,hF2⟩;have f4:=six (kX.trans (k2.mono kX.size)) a0 a1 a2 a3 x0 x1))
 all_goals
  go_wp2_with fail
  go_ret
  exact .mk' (kW.trans ((kX.trans (k2.mono kX.size)).mono kW.size)) hS2 (by grind) (by grind)
theorem flat_one:∀ (Lo:List (SP×SP)),(Lo.map (fun y:SP×SP=>(y.1,[y.2]))).flatMap (·.2)=Lo.map (·.2)
 | []=>rfl
 | y :: l=>by
  have:=flat_one l
  simp only [List.map_cons,List.flatMap_cons,this]
  rfl
theorem operation_g {C:Nat→Prop}{b T1 b1 T2 b2:Nat}{w0 w:World}{kn:Option Addr}{d:Int}{x:IV}{op:ByteArray}{Lo:List (SP×SP)}{Q:SP} (hop:Plainly op) (hb:C b) (c0:w0.cell? ⟨b,0,none⟩=some (.iface T1 (.pointer (some ⟨b1,0,none⟩)))) (c1:w0.cell? ⟨b,1,none⟩=some (.string op)) (c2:w0.cell? ⟨b,2,none⟩=some (.iface T2 (.pointer (some ⟨b2,0,none⟩))))
  (hO1:OpensG C w0 (.iface T1 (.pointer (some ⟨b1,0,none⟩))) kn d (x,none) (Lo.map (·.1))) (hO2:OpensG C w0 (.iface T2 (.pointer (some ⟨b2,0,none⟩))) kn d (x,none) [Q]) (h:∀ y∈Lo,OperG C w0 op y.1 Q y.2) (hs:SameOn C w0 w) (hl:w0.heap.size≤w.heap.size) :
  Calls Tryz.prog 129 #[.agg #[.pointer kn,.int .i64 d],.pointer (some ⟨b,0,none⟩),.agg #[iv x,.pointer none]] w (MadeC (Lo.map (·.2)) C w):=by
 obtain ⟨o1,o2,o3,o4,_,_,_⟩:=hop
 have hC:=hO1.1
 have n0:=hs.cell hb c0
 have n1:=hs.cell hb c1
 have n3:b < w.heap.size:=by have:=hC b hb;omega
 obtain ⟨T,u⟩:=x
 simp only [iv]
 have wn1:=((below_alloc3 w (.cells #[.pointer kn,.int .i64 d] 71) (.cells #[.pointer (some ⟨b,0,none⟩)] 171) (.cells #[.iface T u,.pointer none] 75)).cell (p:=⟨b,1,none⟩) n3).trans n1
 go_enter Tryz.func129,Tryz.ntmps129
 go_wp2_with fail
 obtain ⟨wA,hA,kW,wp,wf,wx,wl⟩:=three_boxes w kn d (.pointer (some ⟨b,0,none⟩)) 171 ((T,u),none)
 have HO:Calls Tryz.prog 22 #[.agg #[.pointer kn,.int .i64 d],.iface T1 (.pointer (some ⟨b1,0,none⟩)),spv ((T,u),none)] wA.drew (MadeC (Lo.map (·.1)) C wA.drew):=hO1.2 _ (hs.trans (fun j hj=>kW.drew.block j (Nat.lt_of_lt_of_le (hC j hj) hl))) (Nat.le_trans hl kW.drew.size)
 have HT:∀ w1,Below wA.heap.size wA w1→∀ y∈Lo.map (fun y=>(y.1,[y.2])),ThenG (fun k=>C k∨k=w.heap.size∨k=w.heap.size+1∨k=w.heap.size+2) w1 (.func (.func 181) #[] #[.pointer (some ⟨w.heap.size,0,none⟩),.pointer (some ⟨w.heap.size+1,0,none⟩),.pointer (some ⟨w.heap.size+2,0,none⟩)]) y.1 y.2:=fun w1 k y hy=>by
  obtain ⟨z,hz,rfl⟩:=List.mem_map.1 hy
  exact then_operg (wp.same (k.block _ wp.lt)) (wf.same (k.block _ wf.lt)) (wx.same (k.block _ wx.lt)) hb c1 c2 hO2 (h z hz) (hs.trans (fun j hj=>(k.block j (by have:=hC j hj;omega)).trans (kW.block j (by have:=hC j hj;omega)))) (by have:=k.size;omega)
 have e1:(Lo.map (fun y:SP×SP=>(y.1,[y.2]))).map (·.1)=Lo.map (·.1):=by simp
 have e2:(Lo.map (fun y:SP×SP=>(y.1,[y.2]))).flatMap (·.2)=Lo.map (·.2):=flat_one Lo
 rw [← e1] at HO
 clear hO1 hO2 h
 simp only [spv,iv] at HO hA
 obtain ⟨x0,x1,_,_,x4⟩:=wx.facts
 have a0:=wp.c0
 have a1:=wp.c1
 have a2:=wf.cell
 have a3:=(kW.cell (p:=⟨b,0,none⟩) n3).trans n0
 have s0:=six ((Below.refl _ wA).drew) a0 a1 a2 a3 x0 x1
 rw [← hA]
 clear hA
 have E1:Hid (_=_):=e1
 have E2:Hid (_=_):=e2
 clear e1 e2
 go_region_held3 (fun w'=>w'.cell? ⟨w.heap.size,0,none⟩=some (.pointer kn)∧w'.cell? ⟨w.heap.size,1,none⟩=some (.int .i64 d)∧w'.cell? ⟨w.heap.size+1,0,none⟩=some (.pointer (some ⟨b,0,none⟩))∧w'.cell? ⟨b,0,none⟩=some (.iface T1 (.pointer (some ⟨b1,0,none⟩)))∧w'.cell? ⟨w.heap.size+2,0,none⟩=some (.iface T u)∧w'.cell? ⟨w.heap.size+2,1,none⟩=some (.pointer none)) (first | exact s0 | exact e4 | exact f4 | go_keep)
   (first
    | (go_at_call 22;refine HO.mono ?_;rintro e w1 ⟨k1,K,cap,rfl,F,D,hS,hF,hD⟩;have kX:Below wA.heap.size wA w1:=(Below.refl _ _).drew.trans (k1.mono (by simp));have e4:=six kX a0 a1 a2 a3 x0 x1;have hX:=kX.size;have hF':∀ k,F k→C k∨wA.heap.size≤k:=hF;have hD':∀ k,D k→wA.heap.size≤k:=hD)
    | (go_at_call 48;refine (each_okg hS ⟨_,_,rfl⟩ (by grind) (HT w1 kX) (by grind)).mono ?_;rintro e w2 ⟨k2,K2,cap2,F2,D2,rfl,hS2,hF2,hD2⟩;have f4:=six (kX.trans (k2.mono kX.size)) a0 a1 a2 a3 x0 x1))
 all_goals
  go_wp2_with fail
  go_ret
  rw [E2.out] at hS2
  exact .mk' (kW.trans ((kX.trans (k2.mono kX.size)).mono kW.size)) hS2 (by grind) (by grind)
end Go.Proofs.Tryz
