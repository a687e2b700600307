import Derived.Test.YtbhajhlhgbnhbaaGreatDoorFs10
import Derived.Test.YtbhajhlhgbnhbaaGreatDoorOk1
set_option linter.all false
namespace Go.Proofs.Tryz
set_option maxHeartbeats 16000000
open Go.RowKit
set_option maxRecDepth 10000
theorem made_bing {C:Nat→Prop}{Ls:List SP}{w:World}{kn:Option Addr}{d:Int}{b:Nat}{x:IV} (h:∀ w1,Below w.heap.size w w1→Calls Tryz.prog 129 #[.agg #[.pointer kn,.int .i64 d],.pointer (some ⟨b,0,none⟩),.agg #[iv x,.pointer none]] w1 (MadeC Ls C w1)) :
  Calls Tryz.prog 66 #[.agg #[.pointer kn,.int .i64 d],.iface 171 (.pointer (some ⟨b,0,none⟩)),.agg #[iv x,.pointer none]] w (MadeC Ls C w):=by
 have m0:=missLiteral;have m1:=missVariable;have m2:=missCollect;have m3:=missBuild;have m4:=missMinus;have m5:=hitBinary
 obtain ⟨T,u⟩:=x
 simp only [iv] at h ⊢
 go_enter Tryz.func66,Tryz.ntmps66
 go_wp2_with (go_at_call 129;refine (h _ (below_alloc2 w _ _)).mono ?_;rintro e w1 ⟨k1,K,cap,rfl,hM⟩)
 go_ret
 exact MadeC.under ⟨k1,K,cap,rfl,hM⟩ (below_alloc2 w _ _)
theorem binary_defg {C:Nat→Prop}{Ls:List SP}{w0 w:World}{kn:Option Addr}{d:Int}{b:Nat}{x:IV}{op:ByteArray} (hC:∀ k,C k→k < w0.heap.size) (hb:C b) (c1:w0.cell? ⟨b,1,none⟩=some (.string op)) (o1:(op.toList == [124])=false) (o2:(op.toList == [44])=false) (o3:(op.toList == [47,47])=false) (hs:SameOn C w0 w) (hl:w0.heap.size≤w.heap.size)
  (h:∀ w1,Below w.heap.size w w1→Calls Tryz.prog 66 #[.agg #[.pointer kn,.int .i64 d],.iface 171 (.pointer (some ⟨b,0,none⟩)),.agg #[iv x,.pointer none]] w1 (MadeC Ls C w1)) :
  Calls Tryz.prog 64 #[.agg #[.pointer kn,.int .i64 d],.pointer (some ⟨b,0,none⟩),.agg #[iv x,.pointer none]] w (MadeC Ls C w):=by
 have n1:=hs.cell hb c1
 have n3:b < w.heap.size:=by have:=hC b hb;omega
 obtain ⟨T,u⟩:=x
 simp only [iv] at h ⊢
 have wn1:=((below_alloc3 w (.cells #[.pointer kn,.int .i64 d] 71) (.cells #[.pointer (some ⟨b,0,none⟩)] 171) (.cells #[.iface T u,.pointer none] 75)).cell (p:=⟨b,1,none⟩) n3).trans n1
 go_enter Tryz.func64,Tryz.ntmps64
 go_wp2_with fail
 obtain ⟨wA,hA,kW,wp,wf,wx,wl⟩:=three_boxes w kn d (.pointer (some ⟨b,0,none⟩)) 171 ((T,u),none)
 simp only [iv] at hA
 obtain ⟨x0,x1,_,_,x4⟩:=wx.facts
 have a0:=wp.c0
 have a1:=wp.c1
 have a2:=wf.cell
 have a3:=(kW.cell (p:=⟨b,1,none⟩) n3).trans n1
 have s0:=six ((Below.refl _ wA).drew) a0 a1 a2 a3 x0 x1
 rw [← hA]
 clear hA wn1
 go_region_held3 (fun w'=>w'.cell? ⟨w.heap.size,0,none⟩=some (.pointer kn)∧w'.cell? ⟨w.heap.size,1,none⟩=some (.int .i64 d)∧w'.cell? ⟨w.heap.size+1,0,none⟩=some (.pointer (some ⟨b,0,none⟩))∧w'.cell? ⟨b,1,none⟩=some (.string op)∧w'.cell? ⟨w.heap.size+2,0,none⟩=some (.iface T u)∧w'.cell? ⟨w.heap.size+2,1,none⟩=some (.pointer none)) (first | exact s0 | exact e4 | exact f4 | exact g4 | go_keep)
   (first
    | (go_at_call 50;refine plain_ok.mono ?_;rintro e w1 ⟨rfl,k1⟩;have kX:Below wA.heap.size wA w1:=(Below.refl _ _).drew.trans (k1.mono (by simp));have e4:=six kX a0 a1 a2 a3 x0 x1;have kA:=kW.trans (kX.mono kW.size))
    | (go_at_call 66;refine (h _ kA).mono ?_;rintro e w2 ⟨k2,K,cap,rfl,hM⟩;have kY:=kX.trans (k2.mono kX.size);have f4:=six kY a0 a1 a2 a3 x0 x1)
    | (go_at_call 65;refine pathless_ok.mono ?_;rintro e w3 ⟨rfl,k3⟩;have kZ:=kY.trans (k3.mono kY.size);have g4:=six kZ a0 a1 a2 a3 x0 x1))
 all_goals
  go_wp2_with fail
  go_ret
  exact (MadeC.under (L:=Ls) (C:=C) ⟨k2,K,cap,rfl,hM⟩ kA).same k3
theorem opensG_oper {C:Nat→Prop}{b T1 b1 T2 b2:Nat}{w0:World}{kn:Option Addr}{d:Int}{x:IV}{op:ByteArray}{Lo:List (SP×SP)}{Q:SP} (hop:Plainly op) (hb:C b) (c0:w0.cell? ⟨b,0,none⟩=some (.iface T1 (.pointer (some ⟨b1,0,none⟩)))) (c1:w0.cell? ⟨b,1,none⟩=some (.string op)) (c2:w0.cell? ⟨b,2,none⟩=some (.iface T2 (.pointer (some ⟨b2,0,none⟩))))
  (hO1:OpensG C w0 (.iface T1 (.pointer (some ⟨b1,0,none⟩))) kn d (x,none) (Lo.map (·.1))) (hO2:OpensG C w0 (.iface T2 (.pointer (some ⟨b2,0,none⟩))) kn d (x,none) [Q]) (h:∀ y∈Lo,OperG C w0 op y.1 Q y.2) :
  OpensG C w0 (.iface 171 (.pointer (some ⟨b,0,none⟩))) kn d (x,none) (Lo.map (·.2)):=by
 have hC:=hO1.1
 obtain ⟨_,_,_,_,o5,o6,o7⟩:=id hop
 refine ⟨hC,fun w hs hl=>open_bing (fun w1 k1=>?_)⟩
 have hs1:SameOn C w0 w1:=hs.trans (fun j hj=>k1.block j (Nat.lt_of_lt_of_le (hC j hj) hl))
 have hl1:w0.heap.size≤w1.heap.size:=Nat.le_trans hl k1.size
 refine binary_defg hC hb c1 o5 o6 o7 hs1 hl1 (fun w2 k2=>made_bing (fun w3 k3=>?_))
 have k23:=k2.trans (k3.mono k2.size)
 exact operation_g hop hb c0 c1 c2 hO1 hO2 h (hs1.trans (fun j hj=>k23.block j (Nat.lt_of_lt_of_le (hC j hj) hl1))) (Nat.le_trans hl1 k23.size)
def boolW (b:Bool):IV:=(96,.bool b)
theorem isTrue_is (b:Bool) (w:World):Calls Tryz.prog 103 #[.iface 96 (.bool b)] w fun e w'=>e = .returned (.bool b)∧w'=w:=by
 have m0:=missVNull;have m1:=hitVBool
 go_enter Tryz.func103,Tryz.ntmps103
 go_wp2
 go_ret
 exact ⟨rfl,rfl⟩
theorem enters_logic1:Enters Tryz.prog 225:=enters_of Tryz.func225 (by kernel_rfl) rfl
theorem enters_logic11:Enters Tryz.prog 226:=enters_of Tryz.func226 (by kernel_rfl) rfl
theorem vg_logic (c:Bool) (w:World):VG (fun _=>False) w (.func (.func 226) #[] #[]) (Just (boolW c,none)) (Just (boolW c,none)):=by
 refine ⟨_,_,rfl,enters_logic11,fun _ h=>h.elim,?_⟩
 intro w' s G hs hl hP
 have h:s=(boolW c,none):=hP.here
 subst h
 clear hP
 simp only [iv,boolW]
 go_enter Tryz.func226,Tryz.ntmps226
 go_wp2_with (go_at_call 103;refine (isTrue_is _ _).mono ?_;rintro e w1 ⟨rfl,rfl⟩)
 go_ret
 exact ⟨Below.refl _ _,boolW c,fun _=>False,rfl,⟨fun _ h=>h.elim,fun _ _ _=>rfl⟩,fun _ h=>h.elim⟩
theorem then_logic {C:Nat→Prop}{eb pb fb sb b T1 b1:Nat}{w0 w:World}{kn:Option Addr}{d:Int}{x:IV}{c:Bool} (he:Box w eb (.bool false) 4) (hp:PlaceBox w pb kn d) (hf:Box w fb (.pointer (some ⟨b,0,none⟩)) 171) (hx:SpotB w sb (x,none)) (hb:C b) (c2:w0.cell? ⟨b,2,none⟩=some (.iface T1 (.pointer (some ⟨b1,0,none⟩)))) (hO:OpensG C w0 (.iface T1 (.pointer (some ⟨b1,0,none⟩))) kn d (x,none) [Just (boolW c,none)]) (hs:SameOn C w0 w) (hl:w0.heap.size≤w.heap.size) :
  ThenG (fun k=>C k∨k=eb∨k=pb∨k=fb∨k=sb) w (.func (.func 225) #[] #[.pointer (some ⟨eb,0,none⟩),.pointer (some ⟨pb,0,none⟩),.pointer (some ⟨fb,0,none⟩),.pointer (some ⟨sb,0,none⟩)]) (Just (boolW true,none)) [Just (boolW c,none)]:=by
 obtain ⟨hC,hO⟩:=hO
 have hel:=he.lt
 have hpl:=hp.lt
 have hfl:=hf.lt
 have hxl:=hx.lt
 refine ⟨_,_,rfl,enters_logic1,by grind,?_⟩
 intro w' t G hs' hl' hP
 have ht:t=(boolW true,none):=hP.here
 subst ht
 have hGl:=hP.1
 clear hP
 have hs0:SameOn C w0 w':=hs.trans (hs'.mono (fun _ h=>.inl h))
 have he':=he.same (hs' eb (by simp))
 have hp':=hp.same (hs' pb (by simp))
 have hf':=hf.same (hs' fb (by simp))
 have hx':=hx.same (hs' sb (by simp))
 have p2:=hp'.lt
 have f2:=hf'.lt
 have n3:b < w'.heap.size:=by have:=hC b hb;omega
 obtain ⟨wA,hA⟩:∃ wA,wA=w'.alloc (.cells #[.iface 96 (.bool true),.pointer none] 75):=⟨_,rfl⟩
 have kW:Below w'.heap.size w' wA:=hA ▸ below_alloc w' _
 have wx:SpotB wA w'.heap.size (boolW true,none):=hA ▸ SpotB.new w' (boolW true,none)
 have wl:wA.heap.size=w'.heap.size+1:=by rw [hA];simp
 have HO:Calls Tryz.prog 22 #[.agg #[.pointer kn,.int .i64 d],.iface T1 (.pointer (some ⟨b1,0,none⟩)),spv (x,none)] wA.drew.drew (MadeC [Just (boolW c,none)] C wA.drew.drew):=hO _ (hs0.trans (fun j hj=>kW.drew.drew.block j (by have:=hC j hj;omega))) (by have:=kW.size;simp;omega)
 obtain ⟨T,u⟩:=x
 obtain ⟨x0,x1,_,_,x4⟩:=(hx'.same (kW.block _ hx'.lt)).facts
 obtain ⟨y0,y1,_,_,y4⟩:=wx.facts
 simp only [spv,iv,boolW] at HO y0 y1 ⊢
 have g0:=(kW.cell (p:=⟨eb,0,none⟩) he'.lt).trans he'.cell
 have a0:=(kW.cell (p:=⟨pb,0,none⟩) p2).trans hp'.c0
 have a1:=(kW.cell (p:=⟨pb,1,none⟩) p2).trans hp'.c1
 have a2:=(kW.cell (p:=⟨fb,0,none⟩) f2).trans hf'.cell
 have a3:=(kW.cell (p:=⟨b,2,none⟩) n3).trans (hs0.cell hb c2)
 have s0:=six ((Below.refl _ wA).drew.drew) a0 a1 a2 a3 x0 x1
 have kD:Below wA.heap.size wA wA.drew.drew:=(Below.refl _ wA).drew.drew
 clear hO
 go_enter Tryz.func225,Tryz.ntmps225
 go_wp2_with fail
 rw [← hA]
 clear hA
 go_region_with ((go_at_call 103;refine (isTrue_is _ _).mono ?_;rintro e w9 ⟨rfl,hw9⟩;subst hw9))
 all_goals
  go_wp2_with fail
  go_region_held3 (fun w1=>w1.cell? ⟨pb,0,none⟩=some (.pointer kn)∧w1.cell? ⟨pb,1,none⟩=some (.int .i64 d)∧w1.cell? ⟨fb,0,none⟩=some (.pointer (some ⟨b,0,none⟩))∧w1.cell? ⟨b,2,none⟩=some (.iface T1 (.pointer (some ⟨b1,0,none⟩)))∧w1.cell? ⟨sb,0,none⟩=some (.iface T u)∧w1.cell? ⟨sb,1,none⟩=some (.pointer none)) (first | exact s0 | exact e4 | exact f4 | go_keep)
    (first
     | (go_at_call 22;refine HO.mono ?_;rintro e w1 ⟨k1,K,cap,rfl,F,D,hS,hF,hD⟩;have kX:Below wA.heap.size wA w1:=kD.trans (k1.mono (by simp));have e4:=six kX a0 a1 a2 a3 x0 x1;have hX:=kX.size;have hF':∀ k,F k→C k∨wA.heap.size≤k:=hF;have hD':∀ k,D k→wA.heap.size≤k:=hD)
     | (go_at_call 126;refine (valued_okg (C:=fun _=>False) (L:=[(Just ((96,.bool c),none),Just ((96,.bool c),none))]) hS ⟨_,_,rfl⟩ (fun _ h=>h.elim) (fun y hy=>by rw [List.mem_singleton] at hy;subst hy;exact vg_logic c w1) (fun _ h=>h.elim)).mono ?_;rintro e w2 ⟨k2,K2,cap2,F2,rfl,hS2,hF2⟩;have f4:=six (kX.trans (k2.mono kX.size)) a0 a1 a2 a3 x0 x1))
  all_goals
   go_wp2_with fail
   go_ret
   exact .mk' (kW.trans ((kX.trans (k2.mono kX.size)).mono kW.size)) hS2 (by grind) (by grind)
set_option maxRecDepth 100000
def fO1:ByteArray:=⟨#[115,111,114,116]⟩
def tO1:Tr:=(.call0 ⟨#[115,111,114,116]⟩ 0)
theorem readsO1:readAs fO1=some tO1:=by kernel_rfl
def fO2:ByteArray:=⟨#[115,111,114,116,32,124,32,46,32,97,115,32,36,115,32,124,32,91,114,97,110,103,101,40,48,59,32,108,101,110,103,116,104,32,45,32,49,41,32,97,115,32,36,105,32,124,32,36,115,91,36,105,93,32,60,61,32,36,115,91,36,105,32,43,32,49,93,93,32,124,32,91,116,114,117,101,93,32,43,32,46,32,124,32,115,111,114,116,32,124,32,46,91,48,93]⟩
def tO2:Tr:=(.bin (.call0 ⟨#[115,111,114,116]⟩ 0) ⟨#[124]⟩ (.bind .ident ⟨#[115]⟩ (.bin (.collect (.bind (.call2 ⟨#[114,97,110,103,101]⟩ (.num 0) (.bin (.call0 ⟨#[108,101,110,103,116,104]⟩ 27) ⟨#[45]⟩ (.num 1)) 18) ⟨#[105]⟩ (.bin (.index (.var ⟨#[115]⟩ 47) (.var ⟨#[105]⟩ 50)) ⟨#[60,61]⟩ (.index (.var ⟨#[115]⟩ 57) (.bin (.var ⟨#[105]⟩ 60) ⟨#[43]⟩ (.num 1)))))) ⟨#[124]⟩ (.bin (.bin (.collect (.bool true)) ⟨#[43]⟩ .ident) ⟨#[124]⟩ (.bin (.call0 ⟨#[115,111,114,116]⟩ 84) ⟨#[124]⟩ (.index .ident (.num 0)))))))
theorem readsO2:readAs fO2=some tO2:=by kernel_rfl
def fO3:ByteArray:=⟨#[40,115,111,114,116,32,124,32,108,101,110,103,116,104,41,32,61,61,32,108,101,110,103,116,104,32,97,110,100,32,40,115,111,114,116,32,45,32,46,41,32,61,61,32,91,93,32,97,110,100,32,40,46,32,45,32,115,111,114,116,41,32,61,61,32,91,93]⟩
def tO3:Tr:=(.bin (.bin (.bin (.bin (.call0 ⟨#[115,111,114,116]⟩ 1) ⟨#[124]⟩ (.call0 ⟨#[108,101,110,103,116,104]⟩ 8)) ⟨#[61,61]⟩ (.call0 ⟨#[108,101,110,103,116,104]⟩ 19)) ⟨#[97,110,100]⟩ (.bin (.bin (.call0 ⟨#[115,111,114,116]⟩ 31) ⟨#[45]⟩ .ident) ⟨#[61,61]⟩ .coll0)) ⟨#[97,110,100]⟩ (.bin (.bin .ident ⟨#[45]⟩ (.call0 ⟨#[115,111,114,116]⟩ 56)) ⟨#[61,61]⟩ .coll0))
theorem readsO3:readAs fO3=some tO3:=by kernel_rfl
def fO4:ByteArray:=⟨#[40,114,101,118,101,114,115,101,32,124,32,114,101,118,101,114,115,101,41,32,61,61,32,46]⟩
def tO4:Tr:=(.bin (.bin (.call0 ⟨#[114,101,118,101,114,115,101]⟩ 1) ⟨#[124]⟩ (.call0 ⟨#[114,101,118,101,114,115,101]⟩ 11)) ⟨#[61,61]⟩ .ident)
theorem readsO4:readAs fO4=some tO4:=by kernel_rfl
def fO5:ByteArray:=⟨#[91,46,91,93,32,124,32,115,101,108,101,99,116,40,116,121,112,101,32,61,61,32,34,111,98,106,101,99,116,34,41,32,124,32,107,101,121,115,32,61,61,32,40,107,101,121,115,32,124,32,115,111,114,116,41,93,32,124,32,91,116,114,117,101,93,32,43,32,46,32,124,32,115,111,114,116,32,124,32,46,91,48,93]⟩
def tO5:Tr:=(.bin (.collect (.bin (.each .ident) ⟨#[124]⟩ (.bin (.call1 ⟨#[115,101,108,101,99,116]⟩ (.bin (.call0 ⟨#[116,121,112,101]⟩ 14) ⟨#[61,61]⟩ (.str ⟨#[111,98,106,101,99,116]⟩)) 7) ⟨#[124]⟩ (.bin (.call0 ⟨#[107,101,121,115]⟩ 34) ⟨#[61,61]⟩ (.bin (.call0 ⟨#[107,101,121,115]⟩ 43) ⟨#[124]⟩ (.call0 ⟨#[115,111,114,116]⟩ 50)))))) ⟨#[124]⟩ (.bin (.bin (.collect (.bool true)) ⟨#[43]⟩ .ident) ⟨#[124]⟩ (.bin (.call0 ⟨#[115,111,114,116]⟩ 72) ⟨#[124]⟩ (.index .ident (.num 0)))))
theorem readsO5:readAs fO5=some tO5:=by kernel_rfl
def fO6:ByteArray:=⟨#[91,46,91,93,32,124,32,115,101,108,101,99,116,40,116,121,112,101,32,61,61,32,34,115,116,114,105,110,103,34,41,32,124,32,40,101,120,112,108,111,100,101,32,124,32,105,109,112,108,111,100,101,41,32,61,61,32,46,32,97,110,100,32,40,116,111,106,115,111,110,32,124,32,102,114,111,109,106,115,111,110,41,32,61,61,32,46,32,97,110,100,32,40,115,112,108,105,116,40,34,34,41,32,124,32,106,111,105,110,40,34,34,41,41,32,61,61,32,46,93,32,124,32,91,116,114,117,101,93,32,43,32,46,32,124,32,115,111,114,116,32,124,32,46,91,48,93]⟩
def tO6:Tr:=(.bin (.collect (.bin (.each .ident) ⟨#[124]⟩ (.bin (.call1 ⟨#[115,101,108,101,99,116]⟩ (.bin (.call0 ⟨#[116,121,112,101]⟩ 14) ⟨#[61,61]⟩ (.str ⟨#[115,116,114,105,110,103]⟩)) 7) ⟨#[124]⟩ (.bin (.bin (.bin (.bin (.call0 ⟨#[101,120,112,108,111,100,101]⟩ 35) ⟨#[124]⟩ (.call0 ⟨#[105,109,112,108,111,100,101]⟩ 45)) ⟨#[61,61]⟩ .ident) ⟨#[97,110,100]⟩ (.bin (.bin (.call0 ⟨#[116,111,106,115,111,110]⟩ 64) ⟨#[124]⟩ (.call0 ⟨#[102,114,111,109,106,115,111,110]⟩ 73)) ⟨#[61,61]⟩ .ident)) ⟨#[97,110,100]⟩ (.bin (.bin (.call1 ⟨#[115,112,108,105,116]⟩ (.str ⟨#[]⟩) 93) ⟨#[124]⟩ (.call1 ⟨#[106,111,105,110]⟩ (.str ⟨#[]⟩) 105)) ⟨#[61,61]⟩ .ident))))) ⟨#[124]⟩ (.bin (.bin (.collect (.bool true)) ⟨#[43]⟩ .ident) ⟨#[124]⟩ (.bin (.call0 ⟨#[115,111,114,116]⟩ 136) ⟨#[124]⟩ (.index .ident (.num 0)))))
theorem readsO6:readAs fO6=some tO6:=by kernel_rfl
set_option maxRecDepth 10000
theorem u8_int {x:Int} (h0:0≤x) (h1:x≤255):(x.toNat.toUInt8.toNat:Int)=x:=by
 simp [Nat.toUInt8,UInt8.toNat_ofNat']
 omega
theorem UStr.nil:UStr []:=⟨[],rfl,by simp⟩
theorem UStr.snoc {t c:Bys} (h:UStr t) (hc:Chunk c):UStr (t ++ c):=by
 obtain ⟨cs,rfl,h⟩:=h
 refine ⟨cs ++ [c],by simp,fun x hx=>?_⟩
 rcases List.mem_append.1 hx with hx | hx
 ·exact h x hx
 ·rw [List.mem_singleton.1 hx];exact hc
theorem tail_of {s:ByteArray}:∀ (k a:Nat) (lo hi:Int),a≤s.size→(tailL s k a lo hi).2=true→(tailL s k a lo hi).1=a+k∧((s.data.toList.drop a).take k).length=k∧TailOk ((s.data.toList.drop a).take k) lo hi
 | 0,a,_,_,_,_=>⟨rfl,by simp,by simp [TailOk]⟩
 | k+1,a,lo,hi,hle,h=>by
  rw [tailL] at h ⊢
  split at h
  ·cases h
  ·rename_i hz
   rw [if_neg hz]
   split at h
   ·cases h
   ·rename_i h1
    rw [if_neg h1]
    split at h
    ·cases h
    ·rename_i h2
     rw [if_neg h2]
     obtain ⟨e1,e2,e3⟩:=tail_of k (a+1) 128 191 (by omega) h
     have hd:s.data.toList.drop a=s[a]'(by omega) :: s.data.toList.drop (a+1):=by
      rw [List.drop_eq_getElem_cons (by rw [size_list];omega)]
      congr 1
     have hb:byteAt s a=(s[a]'(by omega)).toNat:=by simp only [byteAt,at_list s a (by omega)]
     rw [hd,List.take_succ_cons,List.length_cons]
     refine ⟨by rw [e1];omega,by omega,?_⟩
     rw [TailOk,← hb]
     exact ⟨by omega,by omega,e3⟩
theorem chunk_rune (r:Int):Chunk (Lib.encodeRune r):=by
 unfold Lib.encodeRune Lib.encodeRuneZ
 split
 ·rename_i h
  refine ⟨_,[],rfl,?_,trivial⟩
  rw [u8_int (by omega) (by omega),followV,if_pos (by omega)]
  rfl
 ·split
  ·rename_i h
   refine ⟨_,[_],rfl,?_⟩
   rw [u8_int (by omega) (by omega),followV,if_neg (by omega),if_neg (by omega),if_neg (by omega),if_pos (by omega)]
   refine ⟨rfl,?_,?_,trivial⟩ <;> rw [u8_int (by omega) (by omega)] <;> (try simp only) <;> omega
  ·split
   ·rename_i h
    refine ⟨_,[_,_],rfl,?_⟩
    rw [u8_int (by omega) (by omega),followV,if_neg (by omega),if_neg (by omega),if_neg (by omega),if_neg (by omega)]
    split
    ·refine ⟨rfl,?_,?_,?_,?_,trivial⟩ <;> rw [u8_int (by omega) (by omega)] <;> (try simp only) <;> omega
    ·split
     ·refine ⟨rfl,?_,?_,?_,?_,trivial⟩ <;> rw [u8_int (by omega) (by omega)] <;> (try simp only) <;> omega
     ·rw [if_pos (by omega)]
      refine ⟨rfl,?_,?_,?_,?_,trivial⟩ <;> rw [u8_int (by omega) (by omega)] <;> (try simp only) <;> omega
   ·split
    ·rename_i h
     refine ⟨_,[_,_,_],rfl,?_⟩
     rw [u8_int (by omega) (by omega),followV,if_neg (by omega),if_neg (by omega),if_neg (by omega),if_neg (by omega),if_neg (by omega),if_neg (by omega),if_neg (by omega)]
     split
     ·refine ⟨rfl,?_,?_,?_,?_,?_,?_,trivial⟩ <;> rw [u8_int (by omega) (by omega)] <;> (try simp only) <;> omega
     ·split
      ·refine ⟨rfl,?_,?_,?_,?_,?_,?_,trivial⟩ <;> rw [u8_int (by omega) (by omega)] <;> (try simp only) <;> omega
      ·refine ⟨rfl,?_,?_,?_,?_,?_,?_,trivial⟩ <;> rw [u8_int (by omega) (by omega)] <;> (try simp only) <;> omega
    ·exact ⟨239,[191,189],rfl,by decide,by decide,by decide,by decide,by decide,trivial⟩
theorem str_chunks {s:ByteArray}:∀ (k a:Nat) (cs:Bys),a≤s.size→UStr cs→(strL s k a cs).2.2=true→UStr (strL s k a cs).1
 | 0,a,cs,_,_,h=>by simp [strL] at h
 | k+1,a,cs,hle,hc,h=>by
  rw [strL] at h ⊢
  split at h
  ·cases h
  ·rename_i hz
   rw [if_neg hz]
   split at h
   ·rename_i h34
    rw [if_pos h34]
    exact hc
   ·rename_i h34
    rw [if_neg h34]
    split at h
    ·cases h
    ·rename_i h32
     rw [if_neg h32]
     split at h
     ·rename_i h92
      rw [if_pos h92]
      split at h
      ·rename_i hok
       rw [if_pos hok]
       obtain ⟨_,_,q,hq,hq1,hq2⟩:=esc_good (s:=s) (a:=a) (by omega) hok
       rw [hq,Int.toNat_natCast] at h ⊢
       exact str_chunks k q _ hq2 (hc.snoc (chunk_rune _)) h
      ·cases h
     ·rename_i h92
      rw [if_neg h92]
      split at h
      ·cases h
      ·rename_i hf
       rw [if_neg hf]
       have ht:=tail_place (s:=s) (followV (byteAt s a)).2.2.toNat (a+1) (followV (byteAt s a)).1 (followV (byteAt s a)).2.1 (by omega)
       split at h
       ·rename_i hok
        rw [if_pos hok]
        refine str_chunks k _ _ ht.2 (hc.snoc ?_) h
        obtain ⟨e1,e2,e3⟩:=tail_of _ _ _ _ (by omega) hok
        have hd:s.data.toList.drop a=s[a]'(by omega) :: s.data.toList.drop (a+1):=by
         rw [List.drop_eq_getElem_cons (by rw [size_list];omega)]
         congr 1
        have hb:byteAt s a=(s[a]'(by omega)).toNat:=by simp only [byteAt,at_list s a (by omega)]
        rw [e1,show a+1+(followV (byteAt s a)).2.2.toNat - a=(followV (byteAt s a)).2.2.toNat+1 by omega,hd,List.take_succ_cons]
        refine ⟨_,_,rfl,?_⟩
        rw [← hb,e2]
        exact ⟨by omega,e3⟩
       ·cases h
end Go.Proofs.Tryz
