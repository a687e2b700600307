import Derived.Test.YtbhajhlhgbnhbaaGreatDoorOk4
set_option linter.all false
namespace Go.Proofs.Tryz
set_option maxHeartbeats 16000000
open Go.RowKit
set_option maxRecDepth 10000
theorem logic_g {C:Nat→Prop}{b T1 b1 T2 b2:Nat}{w0 w:World}{kn:Option Addr}{d:Int}{x:IV}{c:Bool} (hb:C b) (c0:w0.cell? ⟨b,0,none⟩=some (.iface T1 (.pointer (some ⟨b1,0,none⟩)))) (c1:w0.cell? ⟨b,1,none⟩=some (.string ⟨#[97,110,100]⟩)) (c2:w0.cell? ⟨b,2,none⟩=some (.iface T2 (.pointer (some ⟨b2,0,none⟩))))
  (hO1:OpensG C w0 (.iface T1 (.pointer (some ⟨b1,0,none⟩))) kn d (x,none) [Just (boolW true,none)]) (hO2:OpensG C w0 (.iface T2 (.pointer (some ⟨b2,0,none⟩))) kn d (x,none) [Just (boolW c,none)]) (hs:SameOn C w0 w) (hl:w0.heap.size≤w.heap.size) :
  Calls Tryz.prog 180 #[.agg #[.pointer kn,.int .i64 d],.pointer (some ⟨b,0,none⟩),.agg #[iv x,.pointer none]] w (MadeC [Just (boolW c,none)] C w):=by
 have hC:=hO1.1
 have n0:=hs.cell hb c0
 have n1:=hs.cell hb c1
 have n3:b < w.heap.size:=by have:=hC b hb;omega
 obtain ⟨T,u⟩:=x
 simp only [iv]
 have wn1:=((below_alloc3 w (.cells #[.pointer kn,.int .i64 d] 71) (.cells #[.pointer (some ⟨b,0,none⟩)] 171) (.cells #[.iface T u,.pointer none] 75)).cell (p:=⟨b,1,none⟩) n3).trans n1
 go_enter Tryz.func180,Tryz.ntmps180
 go_wp2_with fail
 obtain ⟨w3,hA3,kW3,wp3,wf3,wx3,wl3⟩:=three_boxes w kn d (.pointer (some ⟨b,0,none⟩)) 171 ((T,u),none)
 obtain ⟨wA,hA⟩:∃ wA,wA=w3.alloc (.cells #[.bool false] 4):=⟨_,rfl⟩
 have kA:Below w3.heap.size w3 wA:=hA ▸ below_alloc w3 _
 have kW:Below w.heap.size w wA:=kW3.trans (kA.mono kW3.size)
 have we:Box wA (w.heap.size+3) (.bool false) 4:=by rw [hA,← wl3];exact Box.new w3 _ _
 have wp:=wp3.same (kA.block _ wp3.lt)
 have wf:=wf3.same (kA.block _ wf3.lt)
 have wx:=wx3.same (kA.block _ wx3.lt)
 have wl:wA.heap.size=w.heap.size+4:=by rw [hA];simp [wl3]
 have HO:Calls Tryz.prog 22 #[.agg #[.pointer kn,.int .i64 d],.iface T1 (.pointer (some ⟨b1,0,none⟩)),spv ((T,u),none)] wA.drew (MadeC [Just (boolW true,none)] C wA.drew):=hO1.2 _ (hs.trans (fun j hj=>kW.drew.block j (Nat.lt_of_lt_of_le (hC j hj) hl))) (Nat.le_trans hl kW.drew.size)
 have HT:∀ w1,Below wA.heap.size wA w1→∀ y∈[(Just (boolW true,none),[Just (boolW c,none)])],ThenG (fun k=>C k∨k=w.heap.size+3∨k=w.heap.size∨k=w.heap.size+1∨k=w.heap.size+2) w1 (.func (.func 225) #[] #[.pointer (some ⟨w.heap.size+3,0,none⟩),.pointer (some ⟨w.heap.size,0,none⟩),.pointer (some ⟨w.heap.size+1,0,none⟩),.pointer (some ⟨w.heap.size+2,0,none⟩)]) y.1 y.2:=fun w1 k y hy=>by
  rw [List.mem_singleton] at hy
  subst hy
  exact then_logic (we.same (k.block _ we.lt)) (wp.same (k.block _ wp.lt)) (wf.same (k.block _ wf.lt)) (wx.same (k.block _ wx.lt)) hb c2 hO2 (hs.trans (fun j hj=>(k.block j (by have:=hC j hj;omega)).trans (kW.block j (by have:=hC j hj;omega)))) (by have:=k.size;omega)
 clear hO1 hO2
 simp only [spv,iv] at HO hA3
 obtain ⟨x0,x1,_,_,x4⟩:=wx.facts
 have a0:=wp.c0
 have a1:=wp.c1
 have a2:=wf.cell
 have a3:=(kW.cell (p:=⟨b,0,none⟩) n3).trans n0
 have s0:=six ((Below.refl _ wA).drew) a0 a1 a2 a3 x0 x1
 rw [← hA3,← hA]
 clear hA hA3
 go_region_held3 (fun w'=>w'.cell? ⟨w.heap.size,0,none⟩=some (.pointer kn)∧w'.cell? ⟨w.heap.size,1,none⟩=some (.int .i64 d)∧w'.cell? ⟨w.heap.size+1,0,none⟩=some (.pointer (some ⟨b,0,none⟩))∧w'.cell? ⟨b,0,none⟩=some (.iface T1 (.pointer (some ⟨b1,0,none⟩)))∧w'.cell? ⟨w.heap.size+2,0,none⟩=some (.iface T u)∧w'.cell? ⟨w.heap.size+2,1,none⟩=some (.pointer none)) (first | exact s0 | exact e4 | exact f4 | go_keep)
   (first
    | (go_at_call 22;refine HO.mono ?_;rintro e w1 ⟨k1,K,cap,rfl,F,D,hS,hF,hD⟩;have kX:Below wA.heap.size wA w1:=(Below.refl _ _).drew.trans (k1.mono (by simp));have e4:=six kX a0 a1 a2 a3 x0 x1;have hX:=kX.size;have hF':∀ k,F k→C k∨wA.heap.size≤k:=hF;have hD':∀ k,D k→wA.heap.size≤k:=hD)
    | (go_at_call 48;refine (each_okg (Lo:=[(Just (boolW true,none),[Just (boolW c,none)])]) hS ⟨_,_,rfl⟩ (by grind) (HT w1 kX) (by grind)).mono ?_;rintro e w2 ⟨k2,K2,cap2,F2,D2,rfl,hS2,hF2,hD2⟩;have f4:=six (kX.trans (k2.mono kX.size)) a0 a1 a2 a3 x0 x1))
 all_goals
  go_wp2_with fail
  go_ret
  exact .mk' (kW.trans ((kX.trans (k2.mono kX.size)).mono kW.size)) hS2 (by grind) (by grind)
theorem operation_and {C:Nat→Prop}{Ls:List SP}{w0 w:World}{kn:Option Addr}{d:Int}{b:Nat}{x:IV} (hC:∀ k,C k→k < w0.heap.size) (hb:C b) (c1:w0.cell? ⟨b,1,none⟩=some (.string ⟨#[97,110,100]⟩)) (hs:SameOn C w0 w) (hl:w0.heap.size≤w.heap.size) (h:∀ w1,Below w.heap.size w w1→Calls Tryz.prog 180 #[.agg #[.pointer kn,.int .i64 d],.pointer (some ⟨b,0,none⟩),.agg #[iv x,.pointer none]] w1 (MadeC Ls C w1)) :
  Calls Tryz.prog 129 #[.agg #[.pointer kn,.int .i64 d],.pointer (some ⟨b,0,none⟩),.agg #[iv x,.pointer none]] w (MadeC Ls C w):=by
 have n1:=hs.cell hb c1
 have n3:b < w.heap.size:=by have:=hC b hb;omega
 obtain ⟨T,u⟩:=x
 simp only [iv] at h ⊢
 have kW:=below_alloc3 w (.cells #[.pointer kn,.int .i64 d] 71) (.cells #[.pointer (some ⟨b,0,none⟩)] 171) (.cells #[.iface T u,.pointer none] 75)
 have wn1:=(kW.cell (p:=⟨b,1,none⟩) n3).trans n1
 go_enter Tryz.func129,Tryz.ntmps129
 go_wp2_with (go_at_call 180;refine (h _ kW).mono ?_;rintro e w1 ⟨k1,K,cap,rfl,hM⟩)
 go_ret
 exact MadeC.under ⟨k1,K,cap,rfl,hM⟩ kW
theorem opensG_and {C:Nat→Prop}{b T1 b1 T2 b2:Nat}{w0:World}{kn:Option Addr}{d:Int}{x:IV}{c:Bool} (hb:C b) (c0:w0.cell? ⟨b,0,none⟩=some (.iface T1 (.pointer (some ⟨b1,0,none⟩)))) (c1:w0.cell? ⟨b,1,none⟩=some (.string ⟨#[97,110,100]⟩)) (c2:w0.cell? ⟨b,2,none⟩=some (.iface T2 (.pointer (some ⟨b2,0,none⟩))))
  (hO1:OpensG C w0 (.iface T1 (.pointer (some ⟨b1,0,none⟩))) kn d (x,none) [Just (boolW true,none)]) (hO2:OpensG C w0 (.iface T2 (.pointer (some ⟨b2,0,none⟩))) kn d (x,none) [Just (boolW c,none)]) :
  OpensG C w0 (.iface 171 (.pointer (some ⟨b,0,none⟩))) kn d (x,none) [Just (boolW c,none)]:=by
 have hC:=hO1.1
 refine ⟨hC,fun w hs hl=>open_bing (fun w1 k1=>?_)⟩
 have hs1:SameOn C w0 w1:=hs.trans (fun j hj=>k1.block j (Nat.lt_of_lt_of_le (hC j hj) hl))
 have hl1:w0.heap.size≤w1.heap.size:=Nat.le_trans hl k1.size
 refine binary_defg hC hb c1 (by simp [go_sem]) (by simp [go_sem]) (by simp [go_sem]) hs1 hl1 (fun w2 k2=>made_bing (fun w3 k3=>?_))
 have k23:=k2.trans (k3.mono k2.size)
 have hs3:SameOn C w0 w3:=hs1.trans (fun j hj=>k23.block j (Nat.lt_of_lt_of_le (hC j hj) hl1))
 have hl3:=Nat.le_trans hl1 k23.size
 refine operation_and hC hb c1 hs3 hl3 (fun w4 k4=>?_)
 exact logic_g hb c0 c1 c2 hO1 hO2 (hs3.trans (fun j hj=>k4.block j (Nat.lt_of_lt_of_le (hC j hj) hl3))) (Nat.le_trans hl3 k4.size)
theorem ev_and {p C:Nat→Prop}{w:World}{kn:Option Addr}{d:Int}{x:IV}{t1 t2:Tr}{c:Bool} (hp:∀ k,p k→C k) (h1:Ev p C w kn d t1 (x,none) [BoolP true]) (h2:Ev p C w kn d t2 (x,none) [BoolP c]):Ev p C w kn d (.bin t1 ⟨#[97,110,100]⟩ t2) (x,none) [BoolP c]:=⟨h1.1,fun v hr=>by
 obtain ⟨b,y,z,rfl,pb,c0,c1,c2,r1,r2⟩:=hr.bin_of
 obtain ⟨T1,b1,rfl⟩:=r1.shape
 obtain ⟨T2,b2,rfl⟩:=r2.shape
 exact opensG_and (hp b pb) c0 c1 c2 (h1.2 _ r1) (h2.2 _ r2)⟩
theorem numbersG_ok {C:Nat→Prop}{T1 b1 T2 b2:Nat}{w0 w:World}{kn:Option Addr}{d:Int}{x:IV}{i e:Int}{m:Nat} (hO1:OpensG C w0 (.iface T1 (.pointer (some ⟨b1,0,none⟩))) kn d (x,none) [Just (numI i,none)]) (hO2:OpensG C w0 (.iface T2 (.pointer (some ⟨b2,0,none⟩))) kn d (x,none) [Just (numI e,none)]) (hs:SameOn C w0 w) (hl:w0.heap.size≤w.heap.size) (h0 : -1000000000≤i) (h1:e≤1000000000) (hm:i+m=e∨(m=0∧e≤i)) :
  Calls Tryz.prog 158 #[.agg #[.pointer kn,.int .i64 d],.iface T1 (.pointer (some ⟨b1,0,none⟩)),.iface T2 (.pointer (some ⟨b2,0,none⟩)),.agg #[iv x,.pointer none]] w (MadeC (NumsP i m) C w):=by
 have hC:=hO1.1
 obtain ⟨T,u⟩:=x
 simp only [iv]
 obtain ⟨wA,hA,kW,wp,wf,wx,wl⟩:=three_boxes w kn d (.iface T2 (.pointer (some ⟨b2,0,none⟩))) 37 ((T,u),none)
 have HO:Calls Tryz.prog 22 #[.agg #[.pointer kn,.int .i64 d],.iface T1 (.pointer (some ⟨b1,0,none⟩)),spv ((T,u),none)] wA (MadeC [Just (numI i,none)] C wA):=hO1.2 _ (hs.trans (fun j hj=>kW.block j (Nat.lt_of_lt_of_le (hC j hj) hl))) (Nat.le_trans hl kW.size)
 have HT:∀ w1,Below wA.heap.size wA w1→∀ y∈[(Just (numI i,none),NumsP i m)],ThenG (fun k=>C k∨k=w.heap.size∨k=w.heap.size+1∨k=w.heap.size+2) w1 (.func (.func 202) #[] #[.pointer (some ⟨w.heap.size,0,none⟩),.pointer (some ⟨w.heap.size+1,0,none⟩),.pointer (some ⟨w.heap.size+2,0,none⟩)]) y.1 y.2:=fun w1 k y hy=>by
  rw [List.mem_singleton] at hy
  subst hy
  exact then_numbers (wp.same (k.block _ wp.lt)) (wf.same (k.block _ wf.lt)) (wx.same (k.block _ wx.lt)) hO2 (hs.trans (fun j hj=>(k.block j (by have:=hC j hj;omega)).trans (kW.block j (by have:=hC j hj;omega)))) (by have:=k.size;omega) h0 h1 hm
 clear hO1 hO2
 simp only [spv,iv] at HO hA
 obtain ⟨x0,x1,_,_,x4⟩:=wx.facts
 try simp only [iv] at x0 x1
 have a0:=wp.c0
 have a1:=wp.c1
 have a2:=wf.cell
 rw [hA] at a0 a1 a2 x0 x1
 go_enter Tryz.func158,Tryz.ntmps158
 go_wp2_with fail
 rw [← hA]
 refine Calls.mono HO ?_
 rintro e1 w1 ⟨k1,K,cap,rfl,F,D,hS,hF,hD⟩
 go_wp2_with fail
 refine Calls.mono (each_okg (C:=fun k=>C k∨k=w.heap.size∨k=w.heap.size+1∨k=w.heap.size+2) (Lo:=[(Just (numI i,none),NumsP i m)]) hS ⟨_,_,rfl⟩ (by have:=k1.size;grind) (HT w1 k1) (by have:=k1.size;grind)) ?_
 rintro e2 w2 ⟨k2,K2,cap2,F2,D2,rfl,hS2,hF2,hD2⟩
 go_wp2_with fail
 go_ret
 have e9:[(Just (numI i,none),NumsP i m)].flatMap (·.2)=NumsP i m:=by simp
 rw [e9] at hS2
 exact .mk' (kW.trans ((k1.trans (k2.mono k1.size)).mono kW.size)) hS2 (by have:=k1.size;grind) (by have:=k1.size;grind)
def sRange:ByteArray:=⟨#[114,97,110,103,101]⟩
theorem given_range {C:Nat→Prop}{w0 w:World}{kn:Option Addr}{d:Int}{b c ad ao T1 b1 T2 b2:Nat}{x:IV}{i e:Int}{m:Nat} (hb:C b) (c0:w0.cell? ⟨b,0,none⟩=some (.string sRange)) (c1:w0.cell? ⟨b,1,none⟩=some (.slice (some ⟨ad,ao,none⟩) 2 c)) (ha:C ad) (c2:w0.cell? ⟨ad,ao,none⟩=some (.iface T1 (.pointer (some ⟨b1,0,none⟩)))) (c3:w0.cell? ⟨ad,ao+1,none⟩=some (.iface T2 (.pointer (some ⟨b2,0,none⟩)))) (hs:SameOn C w0 w) (hl:w0.heap.size≤w.heap.size)
  (hO1:OpensG C w0 (.iface T1 (.pointer (some ⟨b1,0,none⟩))) kn d (x,none) [Just (numI i,none)]) (hO2:OpensG C w0 (.iface T2 (.pointer (some ⟨b2,0,none⟩))) kn d (x,none) [Just (numI e,none)]) (h0 : -1000000000≤i) (h1:e≤1000000000) (hm:i+m=e∨(m=0∧e≤i)) :
  Calls Tryz.prog 117 #[.agg #[.pointer kn,.int .i64 d],.pointer (some ⟨b,0,none⟩),.agg #[iv x,.pointer none]] w (MadeC (NumsP i m) C w):=by
 have hC:=hO1.1
 have n0:=hs.cell hb c0
 have n1:=hs.cell hb c1
 have n2:=hs.cell ha c2
 have n5:=hs.cell ha c3
 have n3:b < w.heap.size:=by have:=hC b hb;omega
 have n4:ad < w.heap.size:=by have:=hC ad ha;omega
 have HN:=fun w1 (k:Below w.heap.size w w1)=>numbersG_ok (w:=w1) hO1 hO2 (hs.trans (fun j hj=>k.block j (Nat.lt_of_lt_of_le (hC j hj) hl))) (Nat.le_trans hl k.size) h0 h1 hm
 obtain ⟨T,u⟩:=x
 simp only [iv] at HN ⊢
 clear hO1 hO2
 obtain ⟨wA,hA,kW,wp,wf,wx,wl⟩:=three_boxes w kn d (.pointer (some ⟨b,0,none⟩)) 169 ((T,u),none)
 simp only [iv] at hA
 obtain ⟨x0,x1,_,_,x4⟩:=wx.facts
 try simp only [iv] at x0 x1
 have a0:=wp.c0
 have a1:=wp.c1
 have a2:=wf.cell
 have a3:=(kW.cell (p:=⟨b,0,none⟩) n3).trans n0
 have a4:=(kW.cell (p:=⟨b,1,none⟩) n3).trans n1
 have a5:=(kW.cell (p:=⟨ad,ao,none⟩) n4).trans n2
 have a6:=(kW.cell (p:=⟨ad,ao+1,none⟩) n4).trans n5
 unfold sRange at a3
 have s0:=eight ((Below.refl _ wA).drew) a0 a1 a2 a4 a5 a6 x0 x1
 have b3:=a3
 have b4:=a4
 rw [hA] at b3 b4
 go_enter Tryz.func117,Tryz.ntmps117
 go_wp2_with fail
 rw [← hA]
 clear hA b3 b4
 go_region_held3 (fun w'=>w'.cell? ⟨w.heap.size,0,none⟩=some (.pointer kn)∧w'.cell? ⟨w.heap.size,1,none⟩=some (.int .i64 d)∧w'.cell? ⟨w.heap.size+1,0,none⟩=some (.pointer (some ⟨b,0,none⟩))∧w'.cell? ⟨b,1,none⟩=some (.slice (some ⟨ad,ao,none⟩) 2 c)∧w'.cell? ⟨ad,ao,none⟩=some (.iface T1 (.pointer (some ⟨b1,0,none⟩)))∧w'.cell? ⟨ad,ao+1,none⟩=some (.iface T2 (.pointer (some ⟨b2,0,none⟩)))∧w'.cell? ⟨w.heap.size+2,0,none⟩=some (.iface T u)∧w'.cell? ⟨w.heap.size+2,1,none⟩=some (.pointer none)) (first | exact s0 | exact e4 | go_keep)
   (first
    | (go_at_call 158;refine (HN _ kW.drew).mono ?_;rintro e1 w1 ⟨k1,K,cap,rfl,hM⟩;have kX:Below wA.heap.size wA w1:=(Below.refl _ _).drew.trans (k1.mono (by simp));have e4:=eight kX a0 a1 a2 a4 a5 a6 x0 x1))
 all_goals
  go_wp2_with fail
  go_ret
  exact MadeC.under (w1:=wA.drew) ⟨k1,K,cap,rfl,hM⟩ kW.drew
theorem notNamed_range:NotNamed sRange:=by refine ⟨?_,?_,?_,?_,?_⟩ <;> simp [go_sem,sRange]
theorem ev_range {p C:Nat→Prop}{w:World}{kn:Option Addr}{d:Int}{x:IV}{pos:Int}{n:Nat}{t1 t2:Tr}{i e:Int}{m:Nat} (hp:∀ k,p k→C k) (hF:FindIs C w 2 sRange 2 n kn none) (h1:Ev p C w kn d t1 (x,none) [Just (numI i,none)]) (h2:Ev p C w kn d t2 (x,none) [Just (numI e,none)]) (h0 : -1000000000≤i) (he:e≤1000000000) (hm:i+m=e∨(m=0∧e≤i)):Ev p C w kn d (.call2 sRange t1 t2 pos) (x,none) (NumsP i m):=⟨h1.1,fun v hr=>by
 obtain ⟨b,ad,ao,c,y,z,rfl,pb,pad,c0,c1,_,c2,c3,r1,r2⟩:=hr.call2_of
 obtain ⟨T1,b1,rfl⟩:=r1.shape
 obtain ⟨T2,b2,rfl⟩:=r2.shape
 have hC:=h1.1
 refine ⟨hC,fun w1 hs1 hl1=>open_callg (fun w2 k2=>?_)⟩
 have hs2:SameOn C w w2:=hs1.trans (fun j hj=>k2.block j (Nat.lt_of_lt_of_le (hC j hj) hl1))
 have hl2:=Nat.le_trans hl1 k2.size
 refine named_g hC (hp b pb) c0 c1 hF notNamed_range hs2 hl2 (fun w3 k3=>?_)
 exact given_range (hp b pb) c0 c1 (hp ad pad) c2 c3 (hs2.trans (fun j hj=>k3.block j (Nat.lt_of_lt_of_le (hC j hj) hl2))) (Nat.le_trans hl2 k3.size) (h1.2 _ r1) (h2.2 _ r2) h0 he hm⟩
def strI (t:ByteArray):IV:=(100,.string t)
theorem ev_str {p C:Nat→Prop}{w:World}{kn:Option Addr}{d:Int}{x:IV}{t:ByteArray} (hC:∀ k,C k→k < w.heap.size) (hp:∀ k,p k→C k):Ev p C w kn d (.str t) (x,none) [Just (strI t,none)]:=⟨hC,fun v hr=>by
 obtain ⟨b,rfl,pb,c0⟩:=hr.str_of
 exact opensG_lit (y:=strI t) hC (hp b pb) c0⟩
def nilA:IV:=(86,.slice none 0 0)
theorem collect_none {w:World}{kn:Option Addr}{d:Int}{x:IV}:Calls Tryz.prog 124 #[.agg #[.pointer kn,.int .i64 d],.nilIface,.agg #[iv x,.pointer none]] w fun e w'=>e = .returned (iv nilA)∧Below w.heap.size w w':=by
 obtain ⟨T,u⟩:=x
 simp only [iv]
 go_enter Tryz.func124,Tryz.ntmps124
 go_wp2_with fail
 go_ret
 exact ⟨rfl,by first | exact Below.refl _ _ | exact below_alloc _ _ | exact below_alloc2 _ _ _ | exact below_alloc3 _ _ _ _⟩
theorem holds_just (s:Sp) (w:World):HoldsP (Just s) (fun _=>False) w s:=⟨fun _ h=>h.elim,fun _ _ _=>rfl⟩
theorem out_collect0 {C:Nat→Prop}{pb fb sb b:Nat}{w0 w:World}{kn:Option Addr}{d:Int}{x:IV} (hp:PlaceBox w pb kn d) (hf:Box w fb (.pointer (some ⟨b,0,none⟩)) 230) (hx:SpotB w sb (x,none)) (hC:∀ k,C k→k < w0.heap.size) (hb:C b) (c0:w0.cell? ⟨b,0,none⟩=some .nilIface) (hs:SameOn C w0 w) (hl:w0.heap.size≤w.heap.size) :
  OutG (fun k=>C k∨k=pb∨k=fb∨k=sb) w (.func (.func 123) #[] #[.pointer (some ⟨pb,0,none⟩),.pointer (some ⟨fb,0,none⟩),.pointer (some ⟨sb,0,none⟩)]) (Just (nilA,none)):=by
 have hpl:=hp.lt
 have hfl:=hf.lt
 have hxl:=hx.lt
 refine ⟨_,_,rfl,enters_made1,by grind,?_⟩
 intro w' hs' hl'
 have hs0:SameOn C w0 w':=hs.trans (hs'.mono (fun _ h=>.inl h))
 have hc:=fun w1=>collect_none (w:=w1) (kn:=kn) (d:=d) (x:=x)
 have n0:=hs0.cell hb c0
 have n2:b < w'.heap.size:=by have:=hC b hb;omega
 obtain ⟨p0,p1,_,_,p4⟩:=PlaceBox.facts (hp.same (hs' pb (by simp)))
 have hf':=hf.same (hs' fb (by simp))
 have f0:=hf'.cell
 have f2:=hf'.lt
 obtain ⟨T,u⟩:=x
 obtain ⟨x0,x1,_,_,x4⟩:=(hx.same (hs' sb (by simp))).facts
 simp only [iv] at hc ⊢
 go_enter Tryz.func123,Tryz.ntmps123
 have s0:=six ((Below.refl _ w').drew) p0 p1 f0 n0 x0 x1
 go_wp2_with fail
 go_region_held3 (fun w1=>w1.cell? ⟨pb,0,none⟩=some (.pointer kn)∧w1.cell? ⟨pb,1,none⟩=some (.int .i64 d)∧w1.cell? ⟨fb,0,none⟩=some (.pointer (some ⟨b,0,none⟩))∧w1.cell? ⟨b,0,none⟩=some .nilIface∧w1.cell? ⟨sb,0,none⟩=some (.iface T u)∧w1.cell? ⟨sb,1,none⟩=some (.pointer none)) (first | exact s0 | exact e4 | go_keep)
  (first | (go_at_call 124;refine (hc _).mono ?_;rintro e w1 ⟨rfl,k1⟩;have kX:Below w'.heap.size w' w1:=(Below.refl _ _).drew.trans (k1.mono (by simp));have e4:=six kX p0 p1 f0 n0 x0 x1))
 all_goals
  go_wp2_with fail
  go_ret
  exact ⟨kX,nilA,_,rfl,holds_just _ _,by grind⟩
theorem opensG_collect0 {C:Nat→Prop}{b:Nat}{w0:World}{kn:Option Addr}{d:Int}{x:IV} (hC:∀ k,C k→k < w0.heap.size) (hb:C b) (c0:w0.cell? ⟨b,0,none⟩=some .nilIface):OpensG C w0 (.iface 230 (.pointer (some ⟨b,0,none⟩))) kn d (x,none) [Just (nilA,none)]:=by
 refine ⟨hC,fun w0' hs0 hl0=>open_defg (.inr (.inl rfl)) (fun w k=>?_)⟩
 have hs:SameOn C w0 w:=hs0.trans (fun j hj=>k.block j (Nat.lt_of_lt_of_le (hC j hj) hl0))
 have hl:w0.heap.size≤w.heap.size:=Nat.le_trans hl0 k.size
 have n0:=hs.cell hb c0
 have n2:b < w.heap.size:=by have:=hC b hb;omega
 have m0:=missLiteral
 have m1:=missVariable
 have m2:=hitCollect
 obtain ⟨wA,hA,kW,wp,wf,wx,wl⟩:=three_boxes2 w kn d (.pointer (some ⟨b,0,none⟩)) 230 (x,none)
 have hw:=worked_okg (out_collect0 wp wf wx hC hb c0 (hs.trans (fun j hj=>kW.block j (by have:=hC j hj;omega))) (by have:=kW.size;omega)) (C':=fun k=>C k∨w.heap.size≤k) (by grind)
 obtain ⟨T,u⟩:=x
 simp only [iv] at hA ⊢
 rw [hA] at hw
 clear wp wf wx kW wl hA
 go_enter Tryz.func66,Tryz.ntmps66
 go_wp2_with (go_at_call 122;refine hw.mono ?_;rintro e w1 ⟨k1,K,cap,rfl,hM⟩)
 go_ret
 exact (MadeC.under (L:=[Just (nilA,none)]) (C:=fun k=>C k∨w.heap.size≤k) ⟨k1,K,cap,rfl,hM⟩ (below_alloc3 w _ _ _)).more (by grind)
theorem ev_coll0 {p C:Nat→Prop}{w:World}{kn:Option Addr}{d:Int}{x:IV} (hC:∀ k,C k→k < w.heap.size) (hp:∀ k,p k→C k):Ev p C w kn d .coll0 (x,none) [Just (nilA,none)]:=⟨hC,fun v hr=>by
 obtain ⟨b,rfl,pb,c0⟩:=hr.coll0_of
 exact opensG_collect0 hC (hp b pb) c0⟩
def tTail (pos:Int):Tr:=.bin (.bin (.collect (.bool true)) ⟨#[43]⟩ .ident) ⟨#[124]⟩ (.bin (.call0 ⟨#[115,111,114,116]⟩ pos) ⟨#[124]⟩ (.index .ident (.num 0)))
theorem notNamed_sort:NotNamed ⟨#[115,111,114,116]⟩:=by refine ⟨?_,?_,?_,?_,?_⟩ <;> simp [go_sem]
theorem notGiven_sort:NotGiven ⟨#[115,111,114,116]⟩:=by refine ⟨?_,?_,?_⟩ <;> simp [go_sem]
theorem notNamed_length:NotNamed ⟨#[108,101,110,103,116,104]⟩:=by refine ⟨?_,?_,?_,?_,?_⟩ <;> simp [go_sem]
theorem notGiven_length:NotGiven ⟨#[108,101,110,103,116,104]⟩:=by refine ⟨?_,?_,?_⟩ <;> simp [go_sem]
theorem Ev.to {p C:Nat→Prop}{w:World}{kn:Option Addr}{d:Int}{t:Tr}{s:Sp}{P Q:SP} (h:Ev p C w kn d t s [P]) (hPQ:∀ G w s,HoldsP P G w s→HoldsP Q G w s):Ev p C w kn d t s [Q]:=⟨h.1,fun v hr=>by
 obtain ⟨hC,hO⟩:=h.2 v hr
 refine ⟨hC,fun w1 hs hl=>(hO w1 hs hl).mono ?_⟩
 rintro e w' ⟨k,K,cap,he,F,D,hS,hF,hD⟩
 refine ⟨k,K,cap,he,F,D,?_,hF,hD⟩
 obtain ⟨K',cap',e1,h1,h2,h3,h4⟩:=hS
 refine ⟨K',cap',e1,h1,h2,h3,fun w2 a b=>(h4 w2 a b).mono ?_⟩
 rintro e w3 ⟨g1,s,G,F',D',g2,g3,g4⟩
 exact ⟨g1,s,G,F',D',g2,hPQ _ _ _ g3,g4⟩⟩
set_option maxRecDepth 100000
theorem insertion_none (p:Option Addr) (cap:Nat) (fv:Value) (w:World):Calls Tryz.prog 311 #[.slice p 0 cap,.int .i64 0,.int .i64 0,fv] w fun e w'=>e = .returned (.tuple #[])∧w'=w:=by
 go_enter Tryz.func311,Tryz.ntmps311
 go_wp2
 refine wp_loop_rounds 1 ?_
 rw [rounds_succ]
 go_wp2
 go_end0
 exact ⟨rfl,rfl⟩
theorem pdq_none (p:Option Addr) (cap:Nat) (lim:Int) (fv:Value) (w:World):Calls Tryz.prog 291 #[.slice p 0 cap,.int .i64 0,.int .i64 0,.int .i64 lim,fv] w fun e w'=>e = .returned (.tuple #[])∧w'=w:=by
 go_enter Tryz.func291,Tryz.ntmps291
 go_wp2
 refine wp_loop_rounds 1 ?_
 rw [rounds_succ]
 go_wp2_with (go_at_call 311;refine (insertion_none _ _ _ _).mono ?_;rintro e w' ⟨rfl,rfl⟩)
 (try simp only [Exit.inBlock,Exit.then])
 refine bodyPost_ret (results_none rfl _ _ _) rfl ?_
 exact ⟨rfl,rfl⟩
def LenNought:Prop:=∀ w,Calls Tryz.prog 292 #[.int .u64 0] w fun e w'=>(∃ n:Int,e = .returned (.int .i64 n))∧w'=w
theorem sort_none (hL:LenNought) (p:Option Addr) (cap:Nat) (fv:Value) (w:World):Calls Tryz.prog 260 #[.slice p 0 cap,fv] w fun e w'=>e = .returned (.tuple #[])∧w'=w:=by
 have HL:Aside (Calls Tryz.prog 292 #[.int .u64 0] w fun e w'=>(∃ n:Int,e = .returned (.int .i64 n))∧w'=w):=hL w
 go_enter Tryz.func260,Tryz.ntmps260
 go_wp2_with (first
  | (go_at_call 292;refine Calls.mono HL.out ?_;rintro e w' ⟨⟨n,rfl⟩,rfl⟩)
  | (go_at_call 291;refine (pdq_none _ _ _ _ _).mono ?_;rintro e w' ⟨rfl,rfl⟩))
 go_end0
 exact ⟨rfl,rfl⟩
theorem aclone_nil (w:World):Calls Tryz.prog 259 #[.slice none 0 0] w fun e w'=>e = .returned (.slice none 0 0)∧w'=w:=by
 have hnil:∀ w,Sem.run Tryz.prog (binOp BinOp.eql 86 (.slice none 0 0) (.slice none 0 0)) w = .ok (.bool true) w:=fun w=>by kernel_rfl
 go_enter Tryz.func259,Tryz.ntmps259
 go_wp2_with fail
 go_ret
 exact ⟨rfl,rfl⟩
theorem aclone_v {w:World}{r:Value}{n:Nat}{xs:List Value} (hrow:w.ownsRow 0 32 1 r n xs) (hone:∀ v∈xs,v.oneCell'=true) (hn:n≤100000000) :
  Calls Tryz.prog 259 #[r] w fun e w'=>∃ r',e = .returned r'∧w'.ownsRow w.heap.size 32 1 r' n xs∧Below w.heap.size w w':=by
 obtain ⟨i0,hi0,hz0,hz1,hz2⟩:=info_parts (show (Tryz.prog.info? 32).map (fun i=>(i.zero,i.size,i.bytes))=some (some .nilIface,1,16) by kernel_rfl)
 have hl:xs.length=n * 1:=hrow.1
 rcases hrow.2 with ⟨rfl,rfl⟩ | ⟨a,c,cur,rfl,_,_,hcm1,hcm2,_⟩
 ·have:xs=[]:=List.eq_nil_of_length_eq_zero (by simpa using hl)
  subst this
  exact (aclone_nil w).mono fun e w' ⟨he,hw⟩=>⟨_,he,World.ownsRow_nil _ _ _ _,by rw [hw];exact Below.refl _ _⟩
 ·have hal:=(hrow.lt a rfl).2
  have hnil:∀ w,Sem.run Tryz.prog (binOp BinOp.eql 86 (.slice (some ⟨a,0,none⟩) n c) (.slice none 0 0)) w = .ok (.bool false) w:=fun w=>by kernel_rfl
  have hcell:∀ j v,xs[j]? = some v→w.cell? ⟨a,j,none⟩=some v:=fun j v hj=>by
   have hjl:=(List.getElem?_eq_some_iff.1 hj).1
   rw [hrow.cellAt j (by omega)]
   exact hj
  have hcm2':c≤9223372036854775807:=by simpa [maxLen] using hcm2
  have hown0:(w.alloc (.cells #[] 32)).ownsRow w.heap.size 32 1 (.slice (some ⟨w.heap.size,0,none⟩) 0 0) 0 []:=⟨rfl,.inr ⟨w.heap.size,0,#[],rfl,Nat.le_refl _,heap_new w _,by omega,by simp [maxLen],by simp,by simp⟩⟩
  clear hrow hcm2
  go_enter Tryz.func259,Tryz.ntmps259
  go_wp2_with (refine wpList_append_own _ (by rfl) _ _ _ (by rfl) w.heap.size 32 i0 _ 1 16 Tryz.underlying86 hi0 hz0 hz1 hz2 rfl (by omega) _ 0 [] (by rfl) hown0 ⟨a,0,none⟩ n c xs (by rfl) (by omega) (fun j v hj=>by rw [add_at];exact ((below_alloc w _).cell (p:=⟨a,j,none⟩) hal).trans (hcell j v hj)) hone (by unfold maxLen;omega) (by omega) (by simp) ?_;intro v1 w1 ow1 gr1 hat1)
  go_ret
  have k1:Below w.heap.size w w1:=((Below.refl _ w).alloc (Nat.le_refl _) _).grown gr1 (by simp) (fun q hq=>(hown0.lt q hq).1)
  refine ⟨v1,?_,?_,k1⟩
  ·simp
  ·simpa using ow1
def Coded (w:World) (ts:List En):Prop:=∀ t∈ts,∃ d,EncV w d t.2.2 t.1 t.2.1∧t.2.2≤100000000
def Rising (ts:List En):Prop:=ts.Pairwise (fun a b=>lexC a.2.1 b.2.1≤0)
def enV (t:En):Value:=iv t.1
theorem Sorted_v (hS:SortsV) (hL:LenNought) {w:World}{r:Value}{n:Nat}{ts:List En} (hrow:w.ownsRow 0 32 1 r n (ts.map enV)) (hts:Coded w ts) (hn:n≤100000000) :
  Calls Tryz.prog 217 #[r] w fun e w'=>∃ r' ts',e = .returned r'∧ts'.Perm ts∧Rising ts'∧w'.ownsRow w.heap.size 32 1 r' n (ts'.map enV)∧Below w.heap.size w w':=by
 have hc:Aside (Calls Tryz.prog 259 #[r] w fun e w'=>∃ r',e = .returned r'∧w'.ownsRow w.heap.size 32 1 r' n (ts.map enV)∧Below w.heap.size w w'):=aclone_v hrow (fun v hv=>by obtain ⟨x,_,rfl⟩:=List.mem_map.1 hv;rfl) hn
 have hs:Aside (∀ w1 r1,Below w.heap.size w w1→w1.ownsRow w.heap.size 32 1 r1 n (ts.map enV)→Calls Tryz.prog 260 #[r1,.func (.func 223) #[] #[]] w1 fun e w'=>e = .returned (.tuple #[])∧∃ ts':List En,ts'.Perm ts∧Rising ts'∧w'.ownsRow w.heap.size 32 1 r1 n (ts'.map enV)∧Below w.heap.size w w'):=fun w1 r1 k1 ow=>by
  rcases ow.2 with ⟨rfl,rfl⟩ | ⟨a,c,cur,rfl,_⟩
  ·have:ts=[]:=List.eq_nil_of_length_eq_zero (by have:=ow.1;simpa using this)
   subst this
   exact (sort_none hL none 0 _ w1).mono fun e w' ⟨he,hw⟩=>⟨he,[],List.Perm.refl _,List.Pairwise.nil,by rw [hw];exact ow,by rw [hw];exact k1⟩
  ·exact hS w w1 a n c ts k1 hts hn ow
 clear hrow hts
 go_enter Tryz.func217,Tryz.ntmps217
 go_wp2_with (go_at_call 259;refine Calls.mono hc.out ?_;rintro e w1 ⟨r1,rfl,ow,k1⟩)
 refine Calls.mono (hs.out w1 r1 k1 ow) ?_
 rintro e w2 ⟨rfl,ts',hp,hr,ow2,k2⟩
 go_wp2_with fail
 go_ret
 exact ⟨r1,ts',rfl,hp,hr,ow2,k2⟩
set_option maxRecDepth 10000
theorem first_at {c:List Int}:∀ {ts:List En},Rising ts→c∈ts.map (·.2.1)→∃ (q:Nat) (t:En),ts[q]? = some t∧t.2.1=c∧∀ (p:Nat) (s:En),ts[p]? = some s→(lexC s.2.1 c < 0↔p < q)
 | [],_,h=>by simp at h
 | t :: ts,hr,h=>by
  obtain ⟨h1,h2⟩:=List.pairwise_cons.1 hr
  by_cases e:t.2.1=c
  ·refine ⟨0,t,rfl,e,fun p s hs=>⟨fun hlt=>?_,fun hp=>by omega⟩⟩
   exfalso
   match p,hs with
   | 0,hs =>
    cases hs
    rw [e,lexC_self] at hlt
    omega
   | p+1,hs =>
    have hm:s∈ts:=List.mem_of_getElem? (by rw [List.getElem?_cons_succ] at hs;exact hs)
    have h3:=h1 s hm
    rw [e,lexC_neg] at h3
    omega
  ·rw [List.map_cons] at h
   have h':c∈ts.map (·.2.1):=by
    rcases List.mem_cons.1 h with h | h
    ·exact absurd h.symm e
    ·exact h
   obtain ⟨q,u,hq,hu,hp⟩:=first_at h2 h'
   refine ⟨q+1,u,by rw [List.getElem?_cons_succ];exact hq,hu,fun p s hs=>?_⟩
   match p,hs with
   | 0,hs =>
    cases hs
    refine ⟨fun _=>by omega,fun _=>?_⟩
    have h3:=h1 u (List.mem_of_getElem? hq)
    rw [hu] at h3
    rcases Int.lt_or_eq_of_le h3 with h4 | h4
    ·exact h4
    ·exact absurd (lexC_zero h4) e
   | p+1,hs =>
    have:=hp p s (by rw [List.getElem?_cons_succ] at hs;exact hs)
    omega
def cmpVF:Value:=.func (.func 223) #[] #[]
theorem asearch_found (hC:ComparesStr) {w:World}{N:Nat}{r:Value}{n d m:Nat}{ts:List En}{x:IV}{c:List Int} (hrow:w.ownsRow N 32 1 r n (ts.map enV)) (hts:Coded w ts) (hr:Rising ts) (hn:n≤100000000) (hx:EncV w d m x c) (hm:m≤1000000000) (hc:c∈ts.map (·.2.1)) :
  Calls Tryz.prog 222 #[r,iv x,cmpVF] w fun e w'=>∃ q:Int,e = .returned (.tuple #[.int .i64 q,.bool true])∧Below w.heap.size w w':=by
 obtain ⟨q,t,hq,ht,hp⟩:=first_at hr hc
 have hlen:Hid (ts.length=n):=by have:=hrow.1;rw [List.length_map,Nat.mul_one] at this;exact this
 have hqn:q < n:=by rw [← hlen.out];exact (List.getElem?_eq_some_iff.1 hq).1
 rcases hrow.2 with ⟨_,h0⟩ | ⟨a,ca,cur,rfl,_,_,_,hcap,_⟩
 ·omega
 have hla:=(hrow.lt a rfl).2
 have HCELL:Aside (∀ (j:Nat) (s:En),ts[j]? = some s→w.cell? ⟨a,j,none⟩=some (enV s)):=fun j s hj=>by
  have hjl:=(List.getElem?_eq_some_iff.1 hj).1
  have:=hlen.out
  rw [hrow.cellAt j (by omega),List.getElem?_map,hj]
  rfl
 have HP:Aside (∀ (p:Nat) (s:En),ts[p]? = some s→(lexC s.2.1 c < 0↔p < q)):=hp
 have HQ:Aside (ts[q]? = some t∧t.2.1=c):=⟨hq,ht⟩
 obtain ⟨T,u⟩:=x
 have HCMP:Aside (∀ (p:Nat) (s:En),ts[p]? = some s→∀ ww,Below w.heap.size w ww→Calls Tryz.prog 223 #[.iface s.1.1 s.1.2,.iface T u] ww fun e w'=>e = .returned (.int .i64 (lexC s.2.1 c))∧Up ww w'):=fun p s hs ww kk=>by
  obtain ⟨ds,hds,hns⟩:=hts s (List.mem_of_getElem? hs)
  exact Compare_cmp hC (x:=s.1) (y:=(T,u)) (hds.keep (KeptV.of_below kk)) (hx.keep (KeptV.of_below kk)) hns hm
 clear hrow hts hr hx hc hp hq ht hcap
 unfold cmpVF
 simp only [iv]
 go_enter Tryz.func222,Tryz.ntmps222
 go_wp2_with fail
 go_loopg [9,10] n (fun kk v1 v2 wr=>∃ (i j:Nat),v1 = .int .i64 i∧v2 = .int .i64 j∧i≤q∧q≤j∧j≤n∧j - i≤kk∧Below w.heap.size w wr)
 case atStart=>exact ⟨0,n,rfl,rfl,by omega,by omega,by omega,by omega,Below.refl _ _⟩
 case round =>
  obtain ⟨i,j,rfl,rfl,hiq,hqj,hjn,hk,hb⟩:=hrel
  have hs:=hb.size
  by_cases hlt:i < j
  ·have hlt':(i:Int) < (j:Int):=by omega
   obtain ⟨p,hp⟩:∃ p,(i+j) / 2=p:=⟨_,rfl⟩
   obtain ⟨⟨⟨Ty,uy⟩,cy,ny⟩,hy⟩:∃ y,ts[p]? = some y:=⟨_,List.getElem?_eq_getElem (by rw [hlen.out];omega)⟩
   have f0:=(hb.cell (p:=⟨a,p,none⟩) hla).trans (HCELL.out p _ hy)
   simp only [enV,iv] at f0
   have hcp:lexC cy c < 0↔p < q:=HP.out p _ hy
   have hpl:(p:Int) < (n:Int):=by omega
   have hp0:(0:Int)≤(p:Int):=by omega
   have eq:((i:Int)+(j:Int)) / 2=(p:Int):=by omega
   have HPP:Hid _:=hp
   obtain ⟨cc,hcc⟩:∃ cc,lexC cy c=cc:=⟨_,rfl⟩
   rw [hcc] at hcp
   have HCP:Hid _:=hcp
   have hcm:Aside (Calls Tryz.prog 223 #[.iface Ty uy,.iface T u] wr fun e w'=>e = .returned (.int .i64 cc)∧Up wr w'):=by
    have:=HCMP.out p _ hy wr hb
    rw [hcc] at this
    exact this
   clear hcp hcc hp hy
   by_cases hc:cc < 0
   ·go_wp2_with (go_at_call 223;refine Calls.mono hcm.out ?_;rintro e w1 ⟨rfl,k1⟩)
    go_roundg (j - (p+1))
    case measure=>have:=HPP.out;omega
    case rel=>exact ⟨p+1,j,by simp,rfl,by have:=HCP.out.1 hc;omega,hqj,hjn,by omega,hb.trans (k1.1.mono hs)⟩
   ·go_wp2_with (go_at_call 223;refine Calls.mono hcm.out ?_;rintro e w1 ⟨rfl,k1⟩)
    go_roundg (p - i)
    case measure=>have:=HPP.out;omega
    case rel=>exact ⟨i,p,rfl,rfl,hiq,by have:=HCP.out.2;omega,by omega,by omega,hb.trans (k1.1.mono hs)⟩
  ·have hlt':¬ (i:Int) < (j:Int):=by omega
   obtain rfl:i=q:=by omega
   have f0:=(hb.cell (p:=⟨a,i,none⟩) hla).trans (HCELL.out i _ HQ.out.1)
   have hpl:(i:Int) < (n:Int):=by omega
   have hcm:Aside (Calls Tryz.prog 223 #[.iface t.1.1 t.1.2,.iface T u] wr fun e w'=>e = .returned (.int .i64 0)∧Up wr w'):=by
    have:=HCMP.out i t HQ.out.1 wr hb
    rw [HQ.out.2,lexC_self] at this
    exact this
   simp only [enV,iv] at f0
   go_wp2_with (go_at_call 223;refine Calls.mono hcm.out ?_;rintro e w1 ⟨rfl,k1⟩)
   exact bodyPost_ret (v:=.tuple #[.int .i64 i,.bool true]) (by simp [results,Tryz.results222,go_sem]) rfl ⟨i,rfl,hb.trans (k1.1.mono hs)⟩
theorem without_none (hC:ComparesStr) (hS:SortsV) (hL:LenNought) {w:World}{r r':Value}{n n':Nat}{ts ts':List En} (hrow:w.ownsRow 0 32 1 r n (ts.map enV)) (hrow':w.ownsRow 0 32 1 r' n' (ts'.map enV)) (hts:Coded w ts) (hts':Coded w ts') (hn:n≤100000000) (hn':n'≤100000000) (hin:∀ t∈ts,t.2.1∈ts'.map (·.2.1)) :
  Calls Tryz.prog 175 #[r,r'] w fun e w'=>e = .returned (.slice none 0 0)∧Below w.heap.size w w':=by
 obtain ⟨p,l0,c,rfl⟩:=owns_shape hrow
 have hlen:Hid (ts.length=n):=by have:=hrow.1;rw [List.length_map,Nat.mul_one] at this;exact this
 have hl0:l0=n:=by
  rcases hrow.2 with ⟨e,h0⟩ | ⟨_,_,_,e,_⟩
  ·cases e;omega
  ·cases e;rfl
 subst hl0
 have HSORT:Aside (Calls Tryz.prog 217 #[r'] w fun e w'=>∃ (r2:Value) (ts2:List En),e = .returned r2∧ts2.Perm ts'∧Rising ts2∧w'.ownsRow w.heap.size 32 1 r2 n' (ts2.map enV)∧Below w.heap.size w w'):=Sorted_v hS hL hrow' hts' hn'
 have HROW:Aside (w.ownsRow 0 32 1 (.slice p l0 c) l0 (ts.map enV)):=hrow
 have HTS:Aside (Coded w ts∧Coded w ts'∧∀ t∈ts,t.2.1∈ts'.map (·.2.1)):=⟨hts,hts',hin⟩
 clear hrow hrow' hts hts' hin
 go_enter Tryz.func175,Tryz.ntmps175
 go_wp2_with (go_at_call 217;refine Calls.mono HSORT.out ?_;rintro e w1 ⟨r2,ts2,rfl,hp2,hr2,ow2,k1⟩)
 have HB:Aside (∀ t∈ts,∀ ww,Below w1.heap.size w1 ww→Calls Tryz.prog 222 #[r2,.iface t.1.1 t.1.2,.func (.func 223) #[] #[]] ww fun e w'=>∃ q:Int,e = .returned (.tuple #[.int .i64 q,.bool true])∧Below ww.heap.size ww w'):=fun t ht ww kk=>by
  obtain ⟨d,hd,hm⟩:=HTS.out.1 t ht
  have kw:=KeptV.of_below (k1.trans (kk.mono k1.size))
  refine asearch_found hC (x:=t.1) (ts:=ts2) ((KeptV.of_below kk).rowV ow2) (fun s hs=>?_) hr2 hn' (hd.keep kw) (by omega) ?_
  ·obtain ⟨d2,hd2,hm2⟩:=HTS.out.2.1 s (hp2.mem_iff.1 hs)
   exact ⟨d2,hd2.keep kw,hm2⟩
  ·exact (hp2.map (·.2.1)).mem_iff.2 (HTS.out.2.2 t ht)
 clear hp2 hr2 ow2 HSORT
 go_wp2_with fail
 go_loopg [6,15] l0 (fun k v6 v15 wr=>∃ i:Nat,i+k=l0∧v6 = .slice none 0 0∧v15 = .int .i64 i∧Below w1.heap.size w1 wr)
 case atStart=>exact ⟨0,by omega,rfl,rfl,Below.refl _ _⟩
 case round =>
  obtain ⟨i,hi,rfl,rfl,hb⟩:=hrel
  match gk,hi with
  | 0,hi =>
   have hz:¬ (i:Int) < (l0:Int):=by omega
   go_wp2_with fail
   go_ret
   exact ⟨rfl,k1.trans (hb.mono k1.size)⟩
  | k+1,hi =>
   have hz:(i:Int) < (l0:Int):=by omega
   obtain ⟨⟨⟨Tx,ux⟩,cx,nx⟩,hx⟩:∃ x,ts[i]? = some x:=⟨_,List.getElem?_eq_getElem (by rw [hlen.out];omega)⟩
   have HBX:Aside (Calls Tryz.prog 222 #[r2,.iface Tx ux,.func (.func 223) #[] #[]] wr fun e w'=>∃ q:Int,e = .returned (.tuple #[.int .i64 q,.bool true])∧Below wr.heap.size wr w'):=HB.out _ (List.mem_of_getElem? hx) wr hb
   obtain ⟨a,rfl,hcell⟩:∃ a,p=some ⟨a,0,none⟩∧wr.cell? ⟨a,i,none⟩=some (.iface Tx ux):=by
    rcases HROW.out.2 with ⟨_,h0⟩ | ⟨g,cg,cur,e,_⟩
    ·omega
    ·cases e
     refine ⟨g,rfl,?_⟩
     have hk:=k1.trans (hb.mono k1.size)
     have hlt:=(HROW.out.lt g rfl).2
     rw [hk.cell (p:=⟨g,i,none⟩) hlt,HROW.out.cellAt i (by omega),List.getElem?_map,hx]
     rfl
   clear hx
   go_wp2_with (go_at_call 222;refine Calls.mono HBX.out ?_;rintro e w2 ⟨q,rfl,k2⟩)
   go_roundg k
   case measure=>omega
   case rel=>exact ⟨i+1,by omega,rfl,by simp,hb.trans (k2.mono hb.size)⟩
theorem leafC_of {x:IV}{c:Bys} (h:leafV x c):∃ k,LeafC x k:=by
 rcases h with ⟨rfl,rfl⟩ | ⟨b,rfl,rfl⟩ | ⟨n,h0,h1,rfl,rfl⟩ | ⟨t,_,rfl,rfl⟩
 ·exact ⟨_,.inl ⟨rfl,rfl⟩⟩
 ·exact ⟨_,.inr (.inl ⟨b,rfl,rfl⟩)⟩
 ·exact ⟨_,.inr (.inr (.inl ⟨n,rfl,rfl⟩))⟩
 ·exact ⟨_,.inr (.inr (.inr ⟨t,rfl,rfl⟩))⟩
theorem all_codes {w:World}{d:Nat}:∀ {l:List (IV×Bys)},(∀ x∈l,∃ c,EncV w d x.2.length x.1 c)→∃ ts:List En,ts.map (·.1)=l.map (·.1)∧ts.map (·.2.2)=l.map (fun x=>x.2.length)∧∀ t∈ts,EncV w d t.2.2 t.1 t.2.1
 | [],_=>⟨[],rfl,rfl,by simp⟩
 | x :: l,h=>by
  obtain ⟨c,hc⟩:=h x (by simp)
  obtain ⟨ts,h1,h2,h3⟩:=all_codes (l:=l) (fun y hy=>h y (by simp [hy]))
  refine ⟨(x.1,c,x.2.length) :: ts,by simp [h1],by simp [h2],fun t ht=>?_⟩
  rcases List.mem_cons.1 ht with rfl | ht
  ·exact hc
  ·exact h3 t ht
theorem all_codesM {w:World}{d:Nat}:∀ {l:List El},(∀ x∈l,∃ c,EncV w d x.2.2.length x.2.1 c)→∃ ts:List (ByteArray×En),ts.map (fun t=>(t.1,t.2.1))=l.map (fun x=>(x.1,x.2.1))∧ts.map (·.2.2.2)=l.map (fun x=>x.2.2.length)∧∀ t∈ts,EncV w d t.2.2.2 t.2.1 t.2.2.1
 | [],_=>⟨[],rfl,rfl,by simp⟩
 | x :: l,h=>by
  obtain ⟨c,hc⟩:=h x (by simp)
  obtain ⟨ts,h1,h2,h3⟩:=all_codesM (l:=l) (fun y hy=>h y (by simp [hy]))
  refine ⟨(x.1,x.2.1,c,x.2.2.length) :: ts,by simp [h1],by simp [h2],fun t ht=>?_⟩
  rcases List.mem_cons.1 ht with rfl | ht
  ·exact hc
  ·exact h3 t ht
theorem cells_same {l:List El}{ts:List (ByteArray×En)} (h:ts.map (fun t=>(t.1,t.2.1))=l.map (fun x=>(x.1,x.2.1))):(ts.map emE).flatMap elC=l.flatMap elC:=by
 have e1:(ts.map emE).flatMap elC=(ts.map (fun t=>(t.1,t.2.1))).flatMap (fun t:ByteArray×IV=>[.string t.1,iv t.2]):=by rw [List.flatMap_map,List.flatMap_map];rfl
 have e2:l.flatMap elC=(l.map (fun x=>(x.1,x.2.1))).flatMap (fun t:ByteArray×IV=>[.string t.1,iv t.2]):=by rw [List.flatMap_map];rfl
 rw [e1,e2,h]
theorem enc_of_rep {w:World}{P:Nat→Prop}:∀ {d:Nat}{x:IV}{c:Bys},RepV w P d x c→∃ k,EncV w d c.length x k
 | 0,x,c,h=>by
  obtain ⟨k,hk⟩:=leafC_of h
  exact ⟨k,(leafK_of h).2,hk⟩
 | d+1,x,c,h=>by
  rcases h with h | ⟨r,its,rfl,ow,_,hi,rfl⟩ | ⟨r,ms,rfl,ow,_,hi,rfl,_⟩
  ·obtain ⟨k,hk⟩:=leafC_of h
   exact ⟨k,.inl ⟨(leafK_of h).2,hk⟩⟩
  ·obtain ⟨ts,h1,h2,h3⟩:=all_codes (l:=its) (fun y hy=>enc_of_rep (hi y hy))
   have hl:ts.length=its.length:=by have:=congrArg List.length h1;simpa using this
   refine ⟨_,.inr (.inl ⟨r,ts,rfl,?_,h3,?_,rfl⟩)⟩
   ·have e:ts.map (fun t=>iv t.1)=its.map itC:=by
     have:=congrArg (List.map iv) h1
     rw [List.map_map,List.map_map] at this
     exact this
    rw [e,hl]
    exact ow
   ·have:=arr_ge (its.map (·.2))
    rw [List.map_map] at this
    rw [h2]
    exact this
  ·obtain ⟨ts,h1,h2,h3⟩:=all_codesM (l:=ms) (fun y hy=>enc_of_rep (hi y hy))
   have hl:(ts.map emE).length=ms.length:=by have:=congrArg List.length h1;simpa using this
   refine ⟨_,.inr (.inr ⟨r,ts,rfl,?_,h3,?_,rfl⟩)⟩
   ·rw [cells_same h1,hl]
    exact ow
   ·have h4:1+(((ms.map fun x=>(elKey x,x.2.2)).map memT).map List.length).sum≤(objT (ms.map fun x=>(elKey x,x.2.2))).length:=by
     cases hm:ms.map (fun x=>(elKey x,x.2.2)) with
     | nil=>simp [objT,joinT]
     | cons m r =>
      have h1:=join_len (memT m) (r.map memT)
      have h2:=lens_ge ((m :: r).map memT)
      simp only [objT,List.map_cons,List.length_cons,List.length_append,List.length_nil] at h1 h2 ⊢
      omega
    have h5:∀ l:List El,(l.map (fun x=>x.2.2.length)).sum≤(((l.map fun x=>(elKey x,x.2.2)).map memT).map List.length).sum:=fun l=>by
     induction l with
     | nil=>simp
     | cons x l ih =>
      simp only [List.map_cons,List.sum_cons]
      have:x.2.2.length≤(memT (elKey x,x.2.2)).length:=by simp [memT];omega
      omega
    rw [h2]
    exact Nat.le_trans (Nat.add_le_add_left (h5 ms) 1) h4
def CodeP (c:List Int):SP:=fun w s=>s.2=none∧∃ d n,EncV w d n s.1 c∧n≤100000000
theorem CodeP.keep {c:List Int} (w w':World) (s:Sp) (h:KeptV w w') (k:CodeP c w s):CodeP c w' s:=by
 obtain ⟨e,d,n,he,hn⟩:=k
 exact ⟨e,d,n,he.keep h,hn⟩
def ArrC (cs:List (List Int)):SP:=fun w s=>s.2=none∧∃ r ts,s.1=(86,r)∧w.ownsRow 0 32 1 r ts.length (ts.map enV)∧Coded w ts∧ts.map (·.2.1)=cs∧1+(ts.map (·.2.2)).sum≤100000000
theorem Coded.keep {w w':World}{ts:List En} (h:KeptV w w') (k:Coded w ts):Coded w' ts:=fun t ht=>by
 obtain ⟨d,hd,hn⟩:=k t ht
 exact ⟨d,hd.keep h,hn⟩
theorem ArrC.keep {cs:List (List Int)} (w w':World) (s:Sp) (h:KeptV w w') (k:ArrC cs w s):ArrC cs w' s:=by
 obtain ⟨e,r,ts,e1,o,hc,hm,hs⟩:=k
 exact ⟨e,r,ts,e1,h.rowV o,hc.keep h,hm,hs⟩
theorem EncV.upTo {w:World}{d n:Nat}{x:IV}{c:List Int} (h:EncV w d n x c):∀ k,EncV w (d+k) n x c
 | 0=>h
 | k+1=>(EncV.upTo h k).up
theorem coded_deep {w:World}:∀ {ts:List En},Coded w ts→∃ d,∀ t∈ts,EncV w d t.2.2 t.1 t.2.1
 | [],_=>⟨0,by simp⟩
 | t :: ts,h=>by
  obtain ⟨d1,h1,_⟩:=h t (by simp)
  obtain ⟨d2,h2⟩:=coded_deep (ts:=ts) (fun s hs=>h s (by simp [hs]))
  refine ⟨d1+d2,fun s hs=>?_⟩
  rcases List.mem_cons.1 hs with rfl | hs
  ·exact h1.upTo d2
  ·rw [Nat.add_comm]
   exact (h2 s hs).upTo d1
theorem ArrC.code {cs:List (List Int)}{w:World}{s:Sp} (h:ArrC cs w s):CodeP (4 :: listC cs) w s:=by
 obtain ⟨e,r,ts,e1,o,hc,hm,hs⟩:=h
 obtain ⟨d,hd⟩:=coded_deep hc
 exact ⟨e,d+1,1+(ts.map (·.2.2)).sum,.inr (.inl ⟨r,ts,e1,o,hd,Nat.le_refl _,by rw [hm]⟩),hs⟩
theorem oper_code_eq {C:Nat→Prop}{w0:World}{a b:List Int} (hS:ComparesStr):OperG C w0 ⟨#[61,61]⟩ (CodeP a) (CodeP b) (BoolP (decide (lexC a b=0))):=by
 intro w t s G G' hs hl hP hQ
 obtain ⟨_,d,n,he,hn⟩:=hP.here
 obtain ⟨_,d',n',he',hn'⟩:=hQ.here
 have hc:Aside (Calls Tryz.prog 223 #[iv t.1,iv s.1] w fun e w'=>e = .returned (.int .i64 (lexC a b))∧Up w w'):=Compare_cmp hS he he' hn (by omega)
 clear hP hQ he he'
 obtain ⟨⟨T,u⟩,q⟩:=t
 obtain ⟨⟨T1,u1⟩,q1⟩:=s
 simp only [iv] at hc ⊢
 go_enter Tryz.func183,Tryz.ntmps183
 go_wp2_with (first
  | (go_at_call 223;refine Calls.mono hc.out ?_;rintro e w1 ⟨rfl,k1⟩)
  | (go_at_call 231;refine (compares_eq _ _).mono ?_;rintro e w2 ⟨rfl,k2⟩))
 go_ret
 exact ⟨k1.1.trans (k2.mono k1.1.size),boolV (decide (lexC a b=0)),fun _=>False,rfl,just_holds _ _,fun _ h=>h.elim⟩
theorem oper_code_le {C:Nat→Prop}{w0:World}{a b:List Int} (hS:ComparesStr):OperG C w0 ⟨#[60,61]⟩ (CodeP a) (CodeP b) (BoolP (decide (lexC a b≤0))):=by
 intro w t s G G' hs hl hP hQ
 obtain ⟨_,d,n,he,hn⟩:=hP.here
 obtain ⟨_,d',n',he',hn'⟩:=hQ.here
 have hc:Aside (Calls Tryz.prog 223 #[iv t.1,iv s.1] w fun e w'=>e = .returned (.int .i64 (lexC a b))∧Up w w'):=Compare_cmp hS he he' hn (by omega)
 clear hP hQ he he'
 obtain ⟨⟨T,u⟩,q⟩:=t
 obtain ⟨⟨T1,u1⟩,q1⟩:=s
 simp only [iv] at hc ⊢
 go_enter Tryz.func183,Tryz.ntmps183
 go_wp2_with (first
  | (go_at_call 223;refine Calls.mono hc.out ?_;rintro e w1 ⟨rfl,k1⟩)
  | (go_at_call 231;refine (compares_le _ _).mono ?_;rintro e w2 ⟨rfl,k2⟩))
 go_ret
 exact ⟨k1.1.trans (k2.mono k1.1.size),boolV (decide (lexC a b≤0)),fun _=>False,rfl,just_holds _ _,fun _ h=>h.elim⟩
theorem just_code_num (n:Int) (w:World) (s:Sp) (h:Just ((98,.int .i64 n),none) w s):CodeP [2,n] w s:=by
 have h:s=((98,.int .i64 n),none):=h
 subst h
 exact ⟨rfl,0,1,⟨Nat.le_refl _,.inr (.inr (.inl ⟨n,rfl,rfl⟩))⟩,by omega⟩
theorem just_code_str (t:ByteArray) (w:World) (s:Sp) (h:Just ((100,.string t),none) w s):CodeP (3 :: strC t.data.toList) w s:=by
 have h:s=((100,.string t),none):=h
 subst h
 exact ⟨rfl,0,1,⟨Nat.le_refl _,.inr (.inr (.inr ⟨t,rfl,rfl⟩))⟩,by omega⟩
theorem just_arr_nil (w:World) (s:Sp) (h:Just ((86,.slice none 0 0),none) w s):ArrC [] w s:=by
 have h:s=((86,.slice none 0 0),none):=h
 subst h
 exact ⟨rfl,.slice none 0 0,[],rfl,World.ownsRow_nil _ _ _ _,fun _ ht=>by simp at ht,rfl,by simp⟩
def leC (a b:List Int):Bool:=decide (lexC a b≤0)
def sortC (cs:List (List Int)):List (List Int):=cs.mergeSort leC
theorem leC_trans (a b c:List Int) (h:leC a b=true) (k:leC b c=true):leC a c=true:=decide_eq_true (lexC_le_trans (of_decide_eq_true h) (of_decide_eq_true k))
theorem leC_total (a b:List Int):(leC a b || leC b a)=true:=by
 rw [Bool.or_eq_true]
 by_cases h:lexC a b≤0
 ·exact .inl (decide_eq_true h)
 ·exact .inr (decide_eq_true (by have:=lexC_neg a b;omega))
theorem sortC_perm (cs:List (List Int)):(sortC cs).Perm cs:=List.mergeSort_perm cs leC
theorem sortC_rise (cs:List (List Int)):(sortC cs).Pairwise (fun a b=>lexC a b≤0) :=
 (List.pairwise_mergeSort leC_trans leC_total cs).imp (fun h=>of_decide_eq_true h)
theorem sortC_only {cs ds:List (List Int)} (hp:ds.Perm cs) (hr:ds.Pairwise (fun a b=>lexC a b≤0)):ds=sortC cs :=
 List.Perm.eq_of_pairwise (le:=fun a b=>lexC a b≤0) (fun a b _ _ h k=>lexC_zero (by have:=lexC_neg a b;omega)) hr (sortC_rise cs) (hp.trans (sortC_perm cs).symm)
theorem sum_perm {l m:List Nat} (h:l.Perm m):l.sum=m.sum:=h.sum_nat
theorem own_low {w:World}{N e s n:Nat}{v:Value}{xs:List Value} (h:w.ownsRow N e s v n xs):w.ownsRow 0 e s v n xs:=by
 obtain ⟨hl,h⟩:=h
 refine ⟨hl,?_⟩
 rcases h with h | ⟨g,c,cur,e1,_,h2⟩
 ·exact .inl h
 ·exact .inr ⟨g,c,cur,e1,Nat.zero_le _,h2⟩
theorem holds_made {C:Nat→Prop}{w w':World}{r:Value}{ts:List En}{cs:List (List Int)} (hC:∀ k,C k→k < w.heap.size) (k:Below w.heap.size w w') (hc:Coded (maskU C w) ts) (ow:w'.ownsRow w.heap.size 32 1 r ts.length (ts.map enV)) (hm:ts.map (·.2.1)=cs) (hs:1+(ts.map (·.2.2)).sum≤100000000) :
  HoldsP (ArrC cs) (fun k=>C k∨r.ownBlock=some k) w' ((86,r),none):=by
 have hl:=k.size
 refine HoldsP.ofMask ArrC.keep (fun j hj=>?_) ⟨rfl,r,ts,rfl,own_low (owns_same ow (fun j hj=>maskU_in (.inr hj))),hc.keep (kept_masks (fun j hj=>k.block j (hC j hj)) (fun _ h=>.inl h)),hm,hs⟩
 rcases hj with hj | hj
 ·have:=hC j hj;omega
 ·exact (ow.lt j hj).2
theorem alone_sortC (hS:SortsV) (hL:LenNought) {C:Nat→Prop}{w0:World}{cs:List (List Int)}{x:IV} (hx:HoldsP (ArrC cs) C w0 (x,none)):AloneG C w0 ⟨#[115,111,114,116]⟩ x (ArrC (sortC cs)):=by
 intro w hs hl
 have hx':=hx.move hs hl
 have hCl:=hx'.1
 obtain ⟨_,r,ts,e1,ow,hc,hm,hsum⟩:=hx'.masked
 have kv:KeptV (maskU C w) w:=kept_mask (SameOn.refl _ _)
 simp only at e1
 subst e1
 have hlen:ts.length≤100000000:=by
  have:=len_le_sum (fun t:En=>t.2.2) ts (fun t ht=>by obtain ⟨d,hd,_⟩:=hc t ht;exact hd.pos)
  omega
 have HS:Aside (Calls Tryz.prog 217 #[r] w fun e w'=>∃ (r':Value) (ts':List En),e = .returned r'∧ts'.Perm ts∧Rising ts'∧w'.ownsRow w.heap.size 32 1 r' ts.length (ts'.map enV)∧Below w.heap.size w w'):=Sorted_v hS hL (kv.rowV ow) (hc.keep kv) hlen
 clear hx hx' ow
 simp only [iv]
 have HM:∀ w1,Calls Tryz.prog 154 #[.iface 86 r] w1 fun e w'=>e = .returned r∧w'=w1:=fun w1=>must_arr _ w1
 go_enter Tryz.func165,Tryz.ntmps165
 go_wp2_with (first
  | (go_at_call 154;refine (HM _).mono ?_;rintro e w1 ⟨rfl,hw1⟩;subst hw1)
  | (go_at_call 217;refine Calls.mono HS.out ?_;rintro e w2 ⟨r',ts',rfl,hp,hr,ow,k2⟩))
 go_ret
 have hpl:=hp.length_eq
 refine ⟨k2,(86,r'),fun k=>C k∨r'.ownBlock=some k,rfl,holds_made hCl k2 (fun t ht=>hc t (hp.mem_iff.1 ht)) (by rw [hpl];exact ow) ?_ ?_,fun j hj=>?_⟩
 ·rw [← hm]
  exact sortC_only (hp.map _) (List.pairwise_map.2 hr)
 ·rw [sum_perm (hp.map (·.2.2))]
  exact hsum
 ·rcases hj with hj | hj
  ·exact .inl hj
  ·exact .inr (ow.lt j hj).1
theorem idx_code {C:Nat→Prop}{w0:World}{cs:List (List Int)}{i:Nat}{c:List Int} (hi:cs[i]? = some c) (hn:cs.length≤100000000):IdxG C w0 (ArrC cs) (Just (numI i,none)) (CodeP c):=by
 intro w t s G G' hs hl hP hQ
 have hs':s=(numI i,none):=hQ.here
 subst hs'
 obtain ⟨e2,r,ts,e1,ow,hc,hm,hsum⟩:=hP.masked
 have kv:KeptV (maskU G w) w:=kept_mask (SameOn.refl _ _)
 have hGl:=hP.1
 obtain ⟨t1,t2⟩:=t
 simp only at e1 e2
 subst e1
 subst e2
 have hlen:ts.length=cs.length:=by rw [← hm,List.length_map]
 obtain ⟨y,hy,hyc⟩:∃ y,ts[i]? = some y∧y.2.1=c:=by
  rw [← hm,List.getElem?_map] at hi
  obtain ⟨y,h1,h2⟩:=Option.map_eq_some_iff.1 hi
  exact ⟨y,h1,h2⟩
 have hil:=(List.getElem?_eq_some_iff.1 hy).1
 obtain ⟨d,hd,hnn⟩:=hc y (List.mem_of_getElem? hy)
 have ow':=kv.rowV ow
 rcases ow'.2 with ⟨_,h0⟩ | ⟨g,cap,cur,er,_⟩
 ·omega
 subst er
 have hA:AtIs w.heap.size w (86,.slice (some ⟨g,0,none⟩) ts.length cap) (numI i) y.1:=fun w1 h1 h2=>by
  have o1:=owns_same ow' (fun j hj=>h1 j (ow'.lt j hj).2)
  refine At_arr (T:=y.1.1) (u:=y.1.2) hil (by omega) ?_
  rw [o1.cellAt i (by omega),List.getElem?_map,hy]
  rfl
 refine (at_ok hA (SameOn.refl _ _) (Nat.le_refl _)).mono ?_
 rintro e w1 ⟨rfl,k1⟩
 refine ⟨k1,(y.1,none),G,rfl,HoldsP.ofMask CodeP.keep (fun k hk=>Nat.lt_of_lt_of_le (hGl k hk) k1.size) ⟨rfl,d,y.2.2,?_,hnn⟩,fun k hk=>.inr (.inl hk)⟩
 rw [← hyc]
 exact hd.keep (kept_masks (fun j hj=>k1.block j (hGl j hj)) (fun _ h=>h))
theorem oper_numPlus {C:Nat→Prop}{w0:World}{a b:Int} (ha : -1000000000≤a) (ha2:a≤1000000000) (hb : -1000000000≤b) (hb2:b≤1000000000):OperG C w0 ⟨#[43]⟩ (Just (numI a,none)) (Just (numI b,none)) (Just (numI (a+b),none)):=by
 intro w t s G G' hs hl hP hQ
 have ht:t=(numI a,none):=hP.here
 have hs':s=(numI b,none):=hQ.here
 subst ht
 subst hs'
 clear hP hQ
 have hw:wrap64 (a+b)=a+b:=by unfold wrap64;omega
 have H:=operate_plus_fits (B:=w.heap.size) (w0:=w) a b (by rw [hw];congr 1;apply propext;omega) w (SameOn.refl _ _) (Nat.le_refl _)
 rw [hw] at H
 refine H.mono ?_
 intro e w' h
 obtain ⟨k,rfl⟩:Below w.heap.size w w'∧e = .returned (iv (numI (a+b))):=h
 exact ⟨k,numI (a+b),fun _=>False,rfl,just_holds _ _,fun _ h=>h.elim⟩
theorem oper_numMinus {C:Nat→Prop}{w0:World}{a b:Int} (ha : -1000000000≤a) (ha2:a≤1000000000) (hb : -1000000000≤b) (hb2:b≤1000000000):OperG C w0 ⟨#[45]⟩ (Just (numI a,none)) (Just (numI b,none)) (Just (numI (a - b),none)):=by
 intro w t s G G' hs hl hP hQ
 have ht:t=(numI a,none):=hP.here
 have hs':s=(numI b,none):=hQ.here
 subst ht
 subst hs'
 clear hP hQ
 have hw:wrap64 (a - b)=a - b:=by unfold wrap64;omega
 have H:=operate_minus_fits (B:=w.heap.size) (w0:=w) a b (by rw [hw];congr 1;apply propext;omega) w (SameOn.refl _ _) (Nat.le_refl _)
 rw [hw] at H
 refine H.mono ?_
 intro e w' h
 obtain ⟨k,rfl⟩:Below w.heap.size w w'∧e = .returned (iv (numI (a - b))):=h
 exact ⟨k,numI (a - b),fun _=>False,rfl,just_holds _ _,fun _ h=>h.elim⟩
def nilV:IV:=(86,.slice none 0 0)
theorem Subtract_arr {r r':Value}{w:World} (h:Calls Tryz.prog 175 #[r,r'] w fun e w'=>e = .returned (.slice none 0 0)∧Below w.heap.size w w') :
  Calls Tryz.prog 128 #[.iface 86 r,.iface 86 r'] w fun e w'=>e = .returned (.tuple #[.iface 86 (.slice none 0 0),.nilIface])∧Below w.heap.size w w':=by
 have m1:=missVNumber;have m3:=hitVArray
 have H:Aside _:=h
 clear h
 go_enter Tryz.func128,Tryz.ntmps128
 go_wp2_with (go_at_call 175;refine Calls.mono H.out ?_;rintro e w1 ⟨rfl,k1⟩)
 go_ret2
 exact ⟨rfl,k1⟩
theorem oper_arrMinus (hC:ComparesStr) (hS:SortsV) (hL:LenNought) {C:Nat→Prop}{w0:World}{cs ds:List (List Int)} (hin:∀ c∈cs,c∈ds):OperG C w0 ⟨#[45]⟩ (ArrC cs) (ArrC ds) (Just (nilV,none)):=by
 intro w t s G G' hs hl hP hQ
 obtain ⟨_,r,ts,e1,ow,hc,hm,hsum⟩:=hP.here
 obtain ⟨_,r',ts',e1',ow',hc',hm',hsum'⟩:=hQ.here
 have l1:=len_le_sum (fun t:En=>t.2.2) ts (fun t ht=>by obtain ⟨d,hd,_⟩:=hc t ht;exact hd.pos)
 have l2:=len_le_sum (fun t:En=>t.2.2) ts' (fun t ht=>by obtain ⟨d,hd,_⟩:=hc' t ht;exact hd.pos)
 have HS:Aside (Calls Tryz.prog 128 #[.iface 86 r,.iface 86 r'] w fun e w'=>e = .returned (.tuple #[.iface 86 (.slice none 0 0),.nilIface])∧Below w.heap.size w w'):=Subtract_arr (without_none hC hS hL ow ow' hc hc' (by omega) (by omega) (fun t ht=>by
  rw [hm']
  exact hin _ (by rw [← hm];exact List.mem_map_of_mem ht)))
 clear hP hQ ow ow' hc hc'
 obtain ⟨t1,t2⟩:=t
 obtain ⟨s1,s2⟩:=s
 simp only at e1 e1'
 subst e1
 subst e1'
 simp only [iv]
 go_enter Tryz.func183,Tryz.ntmps183
 go_wp2_with (first
  | (go_at_call 128;refine Calls.mono HS.out ?_;rintro e w1 ⟨rfl,k1⟩)
  | (go_at_call 94;refine sure_none.mono ?_;rintro e w2 ⟨rfl,hw2⟩;subst hw2))
 go_ret
 exact ⟨k1,nilV,fun _=>False,rfl,just_holds _ _,fun _ h=>h.elim⟩
theorem alone_lengthC {C:Nat→Prop}{w0:World}{cs:List (List Int)}{x:IV} (hx:HoldsP (ArrC cs) C w0 (x,none)):AloneG C w0 ⟨#[108,101,110,103,116,104]⟩ x (Just (numI cs.length,none)):=by
 obtain ⟨_,r,ts,e1,ow,hc,hm,hsum⟩:=hx.here
 obtain ⟨p,m,c,rfl⟩:=owns_shape ow
 have hm':m=cs.length:=by
  rw [← hm,List.length_map]
  rcases ow.2 with ⟨e,h0⟩ | ⟨_,_,_,e,_⟩
  ·cases e;omega
  ·cases e;rfl
 simp only at e1
 subst e1
 rw [← hm']
 exact alone_length
theorem ev_bin1 {p C:Nat→Prop}{w:World}{kn:Option Addr}{d:Int}{x:IV}{t1 t2:Tr}{op:ByteArray}{P Q R:SP} (hop:Plainly op) (hp:∀ k,p k→C k) (h1:Ev p C w kn d t1 (x,none) [P]) (h2:Ev p C w kn d t2 (x,none) [Q]) (h:OperG C w op P Q R):Ev p C w kn d (.bin t1 op t2) (x,none) [R] :=
 ev_oper (Lo:=[(P,R)]) hop hp h1 h2 (fun y hy=>by rw [List.mem_singleton] at hy;subst hy;exact h)
theorem ev_pipe1 {p C:Nat→Prop}{w:World}{kn:Option Addr}{d:Int}{s:Sp}{t1 t2:Tr}{P R:SP} (hp:∀ k,p k→C k) (h1:Ev p C w kn d t1 s [P]) (h2:∀ w' t G,SameOn C w w'→w.heap.size≤w'.heap.size→HoldsP P G w' t→Ev p (fun k=>C k∨G k) w' kn d t2 t [R]):Ev p C w kn d (.bin t1 ⟨#[124]⟩ t2) s [R] :=
 ev_pipe (Lo:=[(P,[R])]) hp h1 (fun y hy w' t G hs hl hP=>by rw [List.mem_singleton] at hy;subst hy;exact h2 w' t G hs hl hP)
structure OnC (p C:Nat→Prop) (w:World) (kn:Option Addr) (x:IV) (cs:List (List Int)):Prop where
 hC:∀ k,C k→k < w.heap.size
 hp:∀ k,p k→C k
 giv:GivenC p w kn
 hx:HoldsP (ArrC cs) C w (x,none)
 hn:cs.length≤90000000
theorem OnC.isNone {p C:Nat→Prop}{w:World}{kn:Option Addr}{x:IV}{cs:List (List Int)} (h:OnC p C w kn x cs) {name:ByteArray}{na:Int} (h1:noneOf sOthers name=true) (h2:(sMap.toList == name.toList)=false):FindIs C w 2 name na 8 kn none:=find_none h.hp h.giv h1 h2
theorem OnC.next {p C G:Nat→Prop}{w w':World}{kn:Option Addr}{x:IV}{t:Sp}{cs ds:List (List Int)} (h:OnC p C w kn x cs) (hs:SameOn C w w') (hl:w.heap.size≤w'.heap.size) (hP:HoldsP (ArrC ds) G w' t) (hn:ds.length≤90000000):t=(t.1,none)∧OnC p (fun k=>C k∨G k) w' kn t.1 ds:=by
 have e:t.2=none:=hP.here.1
 have hG:=hP.1
 have hC':∀ k,(C k∨G k)→k < w'.heap.size:=fun k hk=>hk.elim (fun h'=>Nat.lt_of_lt_of_le (h.hC k h') hl) (hG k)
 refine ⟨by rw [← e],hC',fun k hk=>.inl (h.hp k hk),h.giv.move (hs.mono h.hp),?_,hn⟩
 have hP':=hP.more (fun _ h=>.inr h) hC'
 rw [← e]
 exact hP'
theorem sortC_len (cs:List (List Int)):(sortC cs).length=cs.length:=(sortC_perm cs).length_eq
theorem ev_sort (hS:SortsV) (hL:LenNought) {p C:Nat→Prop}{w:World}{kn:Option Addr}{d pos:Int}{x:IV}{cs:List (List Int)} (h:OnC p C w kn x cs):Ev p C w kn d (.call0 ⟨#[115,111,114,116]⟩ pos) (x,none) [ArrC (sortC cs)] :=
 ev_alone h.hC h.hp (h.isNone (by kernel_rfl) (by kernel_rfl)) notNamed_sort notGiven_sort (alone_sortC hS hL h.hx)
theorem ev_length {p C:Nat→Prop}{w:World}{kn:Option Addr}{d pos:Int}{x:IV}{cs:List (List Int)} (h:OnC p C w kn x cs):Ev p C w kn d (.call0 ⟨#[108,101,110,103,116,104]⟩ pos) (x,none) [Just (numI cs.length,none)] :=
 ev_alone h.hC h.hp (h.isNone (by kernel_rfl) (by kernel_rfl)) notNamed_length notGiven_length (alone_lengthC h.hx)
theorem ev_dot {p C:Nat→Prop}{w:World}{kn:Option Addr}{d:Int}{x:IV}{cs:List (List Int)} (h:OnC p C w kn x cs):Ev p C w kn d .ident (x,none) [ArrC cs]:=ev_ident h.hC h.hx (fun _ h=>h)
theorem ev_eqC (hS:ComparesStr) {p C:Nat→Prop}{w:World}{kn:Option Addr}{d:Int}{x:IV}{t1 t2:Tr}{a:List Int} (hp:∀ k,p k→C k) (h1:Ev p C w kn d t1 (x,none) [CodeP a]) (h2:Ev p C w kn d t2 (x,none) [CodeP a]):Ev p C w kn d (.bin t1 ⟨#[61,61]⟩ t2) (x,none) [BoolP true]:=by
 have h:=ev_bin1 plainly_eq hp h1 h2 (oper_code_eq hS)
 rw [show decide (lexC a a=0)=true from decide_eq_true (lexC_self a)] at h
 exact h
theorem Ev.num {p C:Nat→Prop}{w:World}{kn:Option Addr}{d:Int}{t:Tr}{s:Sp}{n:Int} (h:Ev p C w kn d t s [Just (numI n,none)]):Ev p C w kn d t s [CodeP [2,n]]:=h.to (fun G w s hP=>hP.to (fun w'=>just_code_num n w' s))
theorem Ev.arr {p C:Nat→Prop}{w:World}{kn:Option Addr}{d:Int}{t:Tr}{s:Sp}{cs:List (List Int)} (h:Ev p C w kn d t s [ArrC cs]):Ev p C w kn d t s [CodeP (4 :: listC cs)]:=h.to (fun G w s hP=>hP.to (fun w'=>ArrC.code))
theorem Ev.nilArr {p C:Nat→Prop}{w:World}{kn:Option Addr}{d:Int}{t:Tr}{s:Sp} (h:Ev p C w kn d t s [Just (nilV,none)]):Ev p C w kn d t s [ArrC []]:=h.to (fun G w s hP=>hP.to (fun w'=>just_arr_nil w' s))
theorem ev_O3 (hC:ComparesStr) (hS:SortsV) (hL:LenNought) {p C:Nat→Prop}{w:World}{kn:Option Addr}{d:Int}{x:IV}{cs:List (List Int)} (h:OnC p C w kn x cs):Ev p C w kn d tO3 (x,none) [BoolP true]:=by
 have e1:∀ c∈sortC cs,c∈cs:=fun c hc=>(sortC_perm cs).mem_iff.1 hc
 have e2:∀ c∈cs,c∈sortC cs:=fun c hc=>(sortC_perm cs).mem_iff.2 hc
 refine ev_and h.hp (ev_and h.hp ?_ ?_) ?_
 ·refine ev_eqC hC h.hp (a:=[2,(cs.length:Int)]) ?_ (ev_length h).num
  refine (ev_pipe1 h.hp (ev_sort hS hL h) (fun w' t G hs hl hP=>?_)).num
  obtain ⟨e,h'⟩:=h.next hs hl hP (by rw [sortC_len];exact h.hn)
  rw [e]
  have:=ev_length (d:=d) (pos:=8) h'
  rw [sortC_len] at this
  exact this
 ·exact ev_eqC hC h.hp (ev_bin1 plainly_minus h.hp (ev_sort hS hL h) (ev_dot h) (oper_arrMinus hC hS hL e1)).nilArr.arr (Ev.nilArr (ev_coll0 h.hC h.hp)).arr
 ·exact ev_eqC hC h.hp (ev_bin1 plainly_minus h.hp (ev_dot h) (ev_sort hS hL h) (oper_arrMinus hC hS hL e2)).nilArr.arr (Ev.nilArr (ev_coll0 h.hC h.hp)).arr
end Go.Proofs.Tryz
