import Derived.Test.YtbhajhlhgbnhbaaGreatDoorFx9
import Derived.Test.YtbhajhlhgbnhbaaGreatDoorOk1
set_option linter.all false
namespace Go.Proofs.Tryz
set_option maxHeartbeats 16000000
open Go.RowKit
set_option maxRecDepth 10000
theorem enters_made1:Enters Tryz.prog 123:=enters_of Tryz.func123 (by kernel_rfl) rfl
theorem out_collectg {C:Nat→Prop}{pb fb sb b T1 b1:Nat}{w0 w:World}{kn:Option Addr}{d:Int}{x:IV}{Ls:List SP} (hp:PlaceBox w pb kn d) (hf:Box w fb (.pointer (some ⟨b,0,none⟩)) 230) (hx:SpotB w sb (x,none)) (hb:C b) (c0:w0.cell? ⟨b,0,none⟩=some (.iface T1 (.pointer (some ⟨b1,0,none⟩)))) (hO:OpensG C w0 (.iface T1 (.pointer (some ⟨b1,0,none⟩))) kn d (x,none) Ls) (hs:SameOn C w0 w) (hl:w0.heap.size≤w.heap.size) (hL2:Ls.length≤100000000) :
  OutG (fun k=>C k∨k=pb∨k=fb∨k=sb) w (.func (.func 123) #[] #[.pointer (some ⟨pb,0,none⟩),.pointer (some ⟨fb,0,none⟩),.pointer (some ⟨sb,0,none⟩)]) (ArrOf Ls):=by
 have hC:=hO.1
 have hpl:=hp.lt
 have hfl:=hf.lt
 have hxl:=hx.lt
 refine ⟨_,_,rfl,enters_made1,by grind,?_⟩
 intro w' hs' hl'
 have hs0:SameOn C w0 w':=hs.trans (hs'.mono (fun _ h=>.inl h))
 have hc:=fun w1 (k:Below w'.heap.size w' w1)=>collect_okg hO (hs0.trans (fun j hj=>k.block j (by have:=hC j hj;omega))) (by have:=k.size;omega) hL2
 have n0:=hs0.cell hb c0
 have n2:b < w'.heap.size:=by have:=hC b hb;omega
 obtain ⟨p0,p1,_,_,p4⟩:=PlaceBox.facts (hp.same (hs' pb (by simp)))
 have hf':=hf.same (hs' fb (by simp))
 have f0:=hf'.cell
 have f2:=hf'.lt
 obtain ⟨T,u⟩:=x
 obtain ⟨x0,x1,_,_,x4⟩:=(hx.same (hs' sb (by simp))).facts
 simp only [iv] at hc ⊢
 clear hO
 go_enter Tryz.func123,Tryz.ntmps123
 have s0:=six ((Below.refl _ w').drew) p0 p1 f0 n0 x0 x1
 go_wp2_with fail
 go_region_held3 (fun w1=>w1.cell? ⟨pb,0,none⟩=some (.pointer kn)∧w1.cell? ⟨pb,1,none⟩=some (.int .i64 d)∧w1.cell? ⟨fb,0,none⟩=some (.pointer (some ⟨b,0,none⟩))∧w1.cell? ⟨b,0,none⟩=some (.iface T1 (.pointer (some ⟨b1,0,none⟩)))∧w1.cell? ⟨sb,0,none⟩=some (.iface T u)∧w1.cell? ⟨sb,1,none⟩=some (.pointer none)) (first | exact s0 | exact e4 | go_keep)
  (first | (go_at_call 124;refine (hc _ (Below.refl _ _).drew).mono ?_;rintro e w1 ⟨k1,⟨Ty,uy⟩,G,rfl,ha,hG⟩;have kX:Below w'.heap.size w' w1:=(Below.refl _ _).drew.trans (k1.mono (by simp));have e4:=six kX p0 p1 f0 n0 x0 x1;have hG':∀ k,G k→C k∨w'.heap.size≤k:=hG))
 all_goals
  go_wp2_with fail
  go_ret
  exact ⟨kX,(Ty,uy),G,rfl,ha,by grind⟩
theorem opensG_collect {C:Nat→Prop}{b T1 b1:Nat}{w0:World}{kn:Option Addr}{d:Int}{x:IV}{Ls:List SP} (hb:C b) (c0:w0.cell? ⟨b,0,none⟩=some (.iface T1 (.pointer (some ⟨b1,0,none⟩)))) (hO:OpensG C w0 (.iface T1 (.pointer (some ⟨b1,0,none⟩))) kn d (x,none) Ls) (hL2:Ls.length≤100000000):OpensG C w0 (.iface 230 (.pointer (some ⟨b,0,none⟩))) kn d (x,none) [ArrOf Ls]:=by
 have hC:=hO.1
 refine ⟨hC,fun w0' hs0 hl0=>open_defg (.inr (.inl rfl)) (fun w k=>?_)⟩
 have hs:SameOn C w0 w:=hs0.trans (fun j hj=>k.block j (Nat.lt_of_lt_of_le (hC j hj) hl0))
 have hl:w0.heap.size≤w.heap.size:=Nat.le_trans hl0 k.size
 have n0:=hs.cell hb c0
 have n2:b < w.heap.size:=by have:=hC b hb;omega
 have m0:=missLiteral
 have m1:=missVariable
 have m2:=hitCollect
 obtain ⟨wA,hA,kW,wp,wf,wx,wl⟩:=three_boxes2 w kn d (.pointer (some ⟨b,0,none⟩)) 230 (x,none)
 have hw:=worked_okg (out_collectg wp wf wx hb c0 hO (hs.trans (fun j hj=>kW.block j (by have:=hC j hj;omega))) (by have:=kW.size;omega) hL2) (C':=fun k=>C k∨w.heap.size≤k) (by grind)
 obtain ⟨T,u⟩:=x
 simp only [iv] at hA ⊢
 rw [hA] at hw
 clear hO wp wf wx kW wl hA
 go_enter Tryz.func66,Tryz.ntmps66
 go_wp2_with (go_at_call 122;refine hw.mono ?_;rintro e w1 ⟨k1,K,cap,rfl,hM⟩)
 go_ret
 exact (MadeC.under (L:=[ArrOf Ls]) (C:=fun k=>C k∨w.heap.size≤k) ⟨k1,K,cap,rfl,hM⟩ (below_alloc3 w _ _ _)).more (by grind)
def NotNamed (name:ByteArray):Prop:=(name.toList == [101,109,112,116,121])=false∧(name.toList == [101,114,114,111,114])=false∧(name.toList == [102,105,114,115,116])=false∧(name.toList == [108,105,109,105,116])=false∧(name.toList == [103,101,116,112,97,116,104])=false
theorem named_g {C:Nat→Prop}{Ls:List SP}{w0 w:World}{kn:Option Addr}{d:Int}{b n na c:Nat}{p:Option Addr}{name:ByteArray}{x:IV} (hC:∀ k,C k→k < w0.heap.size) (hb:C b) (c0:w0.cell? ⟨b,0,none⟩=some (.string name)) (c1:w0.cell? ⟨b,1,none⟩=some (.slice p na c)) (hF:FindIs C w0 2 name na n kn none) (hN:NotNamed name) (hs:SameOn C w0 w) (hl:w0.heap.size≤w.heap.size)
  (h:∀ w1,Below w.heap.size w w1→Calls Tryz.prog 117 #[.agg #[.pointer kn,.int .i64 d],.pointer (some ⟨b,0,none⟩),.agg #[iv x,.pointer none]] w1 (MadeC Ls C w1)) :
  Calls Tryz.prog 63 #[.agg #[.pointer kn,.int .i64 d],.pointer (some ⟨b,0,none⟩),.agg #[iv x,.pointer none]] w (MadeC Ls C w):=by
 obtain ⟨o1,o2,o3,o4,o5⟩:=hN
 have n0:=hs.cell hb c0
 have n1:=hs.cell hb c1
 have n3:b < w.heap.size:=by have:=hC b hb;omega
 have hf:∀ w1,Below w.heap.size w w1→Calls Tryz.prog 55 #[.pointer kn,.int .u8 2,.string name,.int .i64 na] w1 fun e w'=>e = .returned (.pointer none)∧Below w1.heap.size w1 w':=fun w1 k=>kfind_ok (hF.move (C':=C) (hs.trans (fun j hj=>k.block j (by have:=hC j hj;omega))) (fun _ h=>h))
 obtain ⟨T,u⟩:=x
 simp only [iv] at h ⊢
 have wn0:=((below_alloc3 w (.cells #[.pointer kn,.int .i64 d] 71) (.cells #[.pointer (some ⟨b,0,none⟩)] 169) (.cells #[.iface T u,.pointer none] 75)).cell (p:=⟨b,0,none⟩) n3).trans n0
 have wn1:=((below_alloc3 w (.cells #[.pointer kn,.int .i64 d] 71) (.cells #[.pointer (some ⟨b,0,none⟩)] 169) (.cells #[.iface T u,.pointer none] 75)).cell (p:=⟨b,1,none⟩) n3).trans n1
 go_enter Tryz.func63,Tryz.ntmps63
 go_wp2_with fail
 obtain ⟨wA,hA,kW,wp,wf,wx,wl⟩:=three_boxes w kn d (.pointer (some ⟨b,0,none⟩)) 169 ((T,u),none)
 simp only [iv] at hA
 obtain ⟨x0,x1,_,_,x4⟩:=wx.facts
 have a0:=wp.c0
 have a1:=wp.c1
 have a2:=wf.cell
 have a3:=(kW.cell (p:=⟨b,0,none⟩) n3).trans n0
 have a4:=(kW.cell (p:=⟨b,1,none⟩) n3).trans n1
 have s0:=eight ((Below.refl _ wA).drew) a0 a1 a2 a3 a4 x0 x1 x0
 clear wn0 wn1
 rw [← hA]
 clear hA
 go_region_held3 (fun w'=>w'.cell? ⟨w.heap.size,0,none⟩=some (.pointer kn)∧w'.cell? ⟨w.heap.size,1,none⟩=some (.int .i64 d)∧w'.cell? ⟨w.heap.size+1,0,none⟩=some (.pointer (some ⟨b,0,none⟩))∧w'.cell? ⟨b,0,none⟩=some (.string name)∧w'.cell? ⟨b,1,none⟩=some (.slice p na c)∧w'.cell? ⟨w.heap.size+2,0,none⟩=some (.iface T u)∧w'.cell? ⟨w.heap.size+2,1,none⟩=some (.pointer none)∧w'.cell? ⟨w.heap.size+2,0,none⟩=some (.iface T u)) (first | exact s0 | exact e4 | go_keep)
  (first | (go_at_call 55;refine (hf _ kW.drew).mono ?_;rintro e w1 ⟨rfl,k1⟩;have kX:Below wA.heap.size wA w1:=(Below.refl _ _).drew.trans (k1.mono (by simp));have e4:=eight kX a0 a1 a2 a3 a4 x0 x1 x0))
 all_goals
  obtain ⟨b0,b1,b2,b3,b4,b5,b6,-⟩:=e4
  have hXs:=kX.size
  have hWs:=kW.size
  have hl1:w.heap.size+2 < w1.heap.size:=by omega
  have hl2:b < w1.heap.size:=by omega
  go_wp2_with fail
  have t0:=six ((Below.refl _ w1).drew) b0 b1 b2 b3 b5 b6
  have kA:=kW.trans (kX.mono kW.size)
  go_region_held3 (fun w'=>w'.cell? ⟨w.heap.size,0,none⟩=some (.pointer kn)∧w'.cell? ⟨w.heap.size,1,none⟩=some (.int .i64 d)∧w'.cell? ⟨w.heap.size+1,0,none⟩=some (.pointer (some ⟨b,0,none⟩))∧w'.cell? ⟨b,0,none⟩=some (.string name)∧w'.cell? ⟨w.heap.size+2,0,none⟩=some (.iface T u)∧w'.cell? ⟨w.heap.size+2,1,none⟩=some (.pointer none)) (first | exact t0 | exact f4 | exact g4 | exact h4 | go_keep)
   (first
    | (go_at_call 50;refine plain_ok.mono ?_;rintro e w2 ⟨rfl,k2⟩;have kY:Below w1.heap.size w1 w2:=(Below.refl _ _).drew.trans (k2.mono (by simp));have f4:=six kY b0 b1 b2 b3 b5 b6;have kB:=kA.trans (kY.mono kA.size))
    | (go_at_call 117;refine (h _ kB).mono ?_;rintro e w3 ⟨k3,K,cap,rfl,hM⟩;have kZ:=kY.trans (k3.mono kY.size);have g4:=six kZ b0 b1 b2 b3 b5 b6)
    | (go_at_call 65;refine pathless_ok.mono ?_;rintro e w4 ⟨rfl,k4⟩;have h4:=six (kZ.trans (k4.mono kZ.size)) b0 b1 b2 b3 b5 b6))
  all_goals
   go_wp2_with fail
   go_ret
   exact (MadeC.under (L:=Ls) (C:=C) ⟨k3,K,cap,rfl,hM⟩ kB).same k4
theorem named_empty {C:Nat→Prop}{w0 w:World}{kn:Option Addr}{d:Int}{b n na c:Nat}{p:Option Addr}{name:ByteArray}{x:IV} (hC:∀ k,C k→k < w0.heap.size) (hb:C b) (c0:w0.cell? ⟨b,0,none⟩=some (.string name)) (c1:w0.cell? ⟨b,1,none⟩=some (.slice p na c)) (hF:FindIs C w0 2 name na n kn none) (hN:(name.toList == [101,109,112,116,121])=true) (hs:SameOn C w0 w) (hl:w0.heap.size≤w.heap.size) :
  Calls Tryz.prog 63 #[.agg #[.pointer kn,.int .i64 d],.pointer (some ⟨b,0,none⟩),.agg #[iv x,.pointer none]] w (MadeC [] C w):=by
 have n0:=hs.cell hb c0
 have n1:=hs.cell hb c1
 have n3:b < w.heap.size:=by have:=hC b hb;omega
 have hf:∀ w1,Below w.heap.size w w1→Calls Tryz.prog 55 #[.pointer kn,.int .u8 2,.string name,.int .i64 na] w1 fun e w'=>e = .returned (.pointer none)∧Below w1.heap.size w1 w':=fun w1 k=>kfind_ok (hF.move (C':=C) (hs.trans (fun j hj=>k.block j (by have:=hC j hj;omega))) (fun _ h=>h))
 obtain ⟨T,u⟩:=x
 simp only [iv]
 have wn0:=((below_alloc3 w (.cells #[.pointer kn,.int .i64 d] 71) (.cells #[.pointer (some ⟨b,0,none⟩)] 169) (.cells #[.iface T u,.pointer none] 75)).cell (p:=⟨b,0,none⟩) n3).trans n0
 have wn1:=((below_alloc3 w (.cells #[.pointer kn,.int .i64 d] 71) (.cells #[.pointer (some ⟨b,0,none⟩)] 169) (.cells #[.iface T u,.pointer none] 75)).cell (p:=⟨b,1,none⟩) n3).trans n1
 go_enter Tryz.func63,Tryz.ntmps63
 go_wp2_with fail
 obtain ⟨wA,hA,kW,wp,wf,wx,wl⟩:=three_boxes w kn d (.pointer (some ⟨b,0,none⟩)) 169 ((T,u),none)
 simp only [iv] at hA
 obtain ⟨x0,x1,_,_,x4⟩:=wx.facts
 have a0:=wp.c0
 have a1:=wp.c1
 have a2:=wf.cell
 have a3:=(kW.cell (p:=⟨b,0,none⟩) n3).trans n0
 have a4:=(kW.cell (p:=⟨b,1,none⟩) n3).trans n1
 have s0:=eight ((Below.refl _ wA).drew) a0 a1 a2 a3 a4 x0 x1 x0
 clear wn0 wn1
 rw [← hA]
 clear hA
 go_region_held3 (fun w'=>w'.cell? ⟨w.heap.size,0,none⟩=some (.pointer kn)∧w'.cell? ⟨w.heap.size,1,none⟩=some (.int .i64 d)∧w'.cell? ⟨w.heap.size+1,0,none⟩=some (.pointer (some ⟨b,0,none⟩))∧w'.cell? ⟨b,0,none⟩=some (.string name)∧w'.cell? ⟨b,1,none⟩=some (.slice p na c)∧w'.cell? ⟨w.heap.size+2,0,none⟩=some (.iface T u)∧w'.cell? ⟨w.heap.size+2,1,none⟩=some (.pointer none)∧w'.cell? ⟨w.heap.size+2,0,none⟩=some (.iface T u)) (first | exact s0 | exact e4 | go_keep)
  (first | (go_at_call 55;refine (hf _ kW.drew).mono ?_;rintro e w1 ⟨rfl,k1⟩;have kX:Below wA.heap.size wA w1:=(Below.refl _ _).drew.trans (k1.mono (by simp));have e4:=eight kX a0 a1 a2 a3 a4 x0 x1 x0))
 all_goals
  obtain ⟨b0,b1,b2,b3,b4,b5,b6,-⟩:=e4
  have hXs:=kX.size
  have hWs:=kW.size
  have hl1:w.heap.size+2 < w1.heap.size:=by omega
  have hl2:b < w1.heap.size:=by omega
  go_wp2_with fail
  go_ret
  exact .mk' (kW.trans (kX.mono kW.size)) (.ofNone (none_str w1)) (fun _ h=>h.elim) (fun _ h=>h.elim)
def leafK (x:IV):Prop:=x=(95,.agg #[])∨(∃ b,x=(96,.bool b))∨(∃ n:Int,-9223372036854775808≤n∧n≤9223372036854775807∧x=(98,.int .i64 n))∨∃ t:ByteArray,x=(100,.string t)
theorem cmpInt_id (a:Int) (w:World):Calls Tryz.prog 265 #[.int .i64 a,.int .i64 a] w fun e w'=>e = .returned (.int .i64 0)∧w'=w:=by
 go_enter Tryz.func265,Tryz.ntmps265
 go_wp2
 go_ret
 exact ⟨rfl,rfl⟩
theorem truth_ok (b:Bool) (w:World):Calls Tryz.prog 293 #[.bool b] w fun e w'=>e = .returned (.int .i64 (if b then 1 else 0))∧w'=w:=by
 cases b
 ·go_enter Tryz.func293,Tryz.ntmps293
  go_wp2
  go_ret
  exact ⟨rfl,rfl⟩
 ·go_enter Tryz.func293,Tryz.ntmps293
  go_wp2
  go_ret
  exact ⟨rfl,rfl⟩
def outF:Value:=.func (.func 296) #[] #[]
def Up (w w':World):Prop:=Below w.heap.size w w'∧w.drawn≤w'.drawn
theorem Up.refl (w:World):Up w w:=⟨Below.refl _ _,Nat.le_refl _⟩
theorem Up.trans {a b c:World} (h:Up a b) (k:Up b c):Up a c:=⟨h.1.trans (k.1.mono h.1.size),Nat.le_trans h.2 k.2⟩
theorem Up.alloc (w:World) (o:Obj):Up w (w.alloc o):=⟨below_alloc _ _,Nat.le_refl _⟩
theorem Up.alloc2 (w:World) (o p:Obj):Up w ((w.alloc o).alloc p):=⟨below_alloc2 _ _ _,Nat.le_refl _⟩
theorem Up.drew {w w':World} (h:Up w w'):Up w w'.drew:=⟨h.1.drew,by have:=h.2;simp;omega⟩
def ordI (a b:Int):Int:=if a < b then -1 else if b < a then 1 else 0
theorem ordI_self (a:Int):ordI a a=0:=by simp [ordI]
theorem cmpInt_ok (a b:Int) (w:World):Calls Tryz.prog 265 #[.int .i64 a,.int .i64 b] w fun e w'=>e = .returned (.int .i64 (ordI a b))∧w'=w:=by
 unfold ordI
 rcases Int.lt_trichotomy a b with h | rfl | h
 ·go_enter Tryz.func265,Tryz.ntmps265
  go_wp2
  go_ret
  exact ⟨rfl,rfl⟩
 ·go_enter Tryz.func265,Tryz.ntmps265
  go_wp2
  go_ret
  exact ⟨rfl,rfl⟩
 ·have h2:¬ a < b:=by omega
  go_enter Tryz.func265,Tryz.ntmps265
  go_wp2
  go_ret
  exact ⟨rfl,rfl⟩
theorem cmpNum_ok (a b:Int) (w:World):Calls Tryz.prog 294 #[.int .i64 a,.int .i64 b] w fun e w'=>e = .returned (.int .i64 (ordI a b))∧w'=w:=by
 unfold ordI
 rcases Int.lt_trichotomy a b with h | rfl | h
 ·go_enter Tryz.func294,Tryz.ntmps294
  go_wp2
  go_ret
  exact ⟨rfl,rfl⟩
 ·go_enter Tryz.func294,Tryz.ntmps294
  go_wp2
  go_ret
  exact ⟨rfl,rfl⟩
 ·have h2:¬ a < b:=by omega
  go_enter Tryz.func294,Tryz.ntmps294
  go_wp2
  go_ret
  exact ⟨rfl,rfl⟩
def kindT:List Nat:=[95,96,98,100,86,102]
theorem kind_ok {k T:Nat} (h:kindT[k]? = some T) (v:Value) (w:World):Calls Tryz.prog 297 #[.iface T v] w fun e w'=>e = .returned (.int .i64 k)∧w'=w:=by
 match k,h with
 | 0,h =>
  cases h
  have m0:=hitVNull
  go_enter Tryz.func297,Tryz.ntmps297
  go_wp2
  go_ret
  exact ⟨rfl,rfl⟩
 | 1,h =>
  cases h
  have m0:=missVNull;have m5:=hitVBool
  go_enter Tryz.func297,Tryz.ntmps297
  go_wp2
  go_ret
  exact ⟨rfl,rfl⟩
 | 2,h =>
  cases h
  have m0:=missVNull;have m5:=missVBool;have m1:=hitVNumber
  go_enter Tryz.func297,Tryz.ntmps297
  go_wp2
  go_ret
  exact ⟨rfl,rfl⟩
 | 3,h =>
  cases h
  have m0:=missVNull;have m5:=missVBool;have m1:=missVNumber;have m2:=hitVString
  go_enter Tryz.func297,Tryz.ntmps297
  go_wp2
  go_ret
  exact ⟨rfl,rfl⟩
 | 4,h =>
  cases h
  have m0:=missVNull;have m5:=missVBool;have m1:=missVNumber;have m2:=missVString;have m3:=hitVArray
  go_enter Tryz.func297,Tryz.ntmps297
  go_wp2
  go_ret
  exact ⟨rfl,rfl⟩
 | 5,h =>
  cases h
  have m0:=missVNull;have m5:=missVBool;have m1:=missVNumber;have m2:=missVString;have m3:=missVArray;have m4:=hitVObject
  go_enter Tryz.func297,Tryz.ntmps297
  go_wp2
  go_ret
  exact ⟨rfl,rfl⟩
 | _+6,h=>cases h
def cmpKeys:List Bys→List Bys→Int
 | [],[]=>0
 | [],_ :: _=>-1
 | _ :: _,[]=>1
 | a :: l,b :: m=>if Lib.compareBytes a b=0 then cmpKeys l m else Lib.compareBytes a b
def keysC (K:List Bys):List Int:=K.flatMap (fun k=>1 :: strC k) ++ [0]
theorem cmpB_three (a b:Bys):Lib.compareBytes a b = -1∨Lib.compareBytes a b=0∨Lib.compareBytes a b=1:=by
 have h:=strC_cmp a b [] []
 have t:=lexC_three (strC a ++ []) (strC b ++ [])
 by_cases e:a=b
 ·subst e
  exact .inr (.inl (cmp_self a))
 ·rw [if_neg e] at h
  rw [← h]
  exact t
theorem cmpB_zero {a b:Bys} (h:Lib.compareBytes a b=0):a=b:=by
 by_cases e:a=b
 ·exact e
 ·have h1:=strC_cmp a b [] []
  rw [if_neg e,h] at h1
  have h2:=lexC_zero h1
  simp only [List.append_nil,strC] at h2
  have h3:=List.append_inj_left' h2 rfl
  have:a=b:=(List.map_inj_right (fun x y hxy=>by
   have:x.toNat=y.toNat:=by omega
   exact UInt8.toNat_inj.1 this)).1 h3
  exact this
theorem keysC_cons (k:Bys) (K:List Bys):keysC (k :: K)=1 :: (strC k ++ keysC K):=by simp [keysC]
theorem keysC_cmp:∀ (K K':List Bys) (l m:List Int),lexC (keysC K ++ l) (keysC K' ++ m)=if K=K' then lexC l m else cmpKeys K K'
 | [],[],l,m=>by simp [keysC,lexC_cons]
 | [],b :: t,l,m=>by rw [keysC_cons];simp [keysC,lexC,cmpKeys]
 | a :: s,[],l,m=>by rw [keysC_cons];simp [keysC,lexC,cmpKeys]
 | a :: s,b :: t,l,m=>by
  rw [keysC_cons,keysC_cons,List.cons_append,List.cons_append,lexC_cons,List.append_assoc,List.append_assoc,strC_cmp,cmpKeys]
  by_cases e:a=b
  ·subst e
   rw [if_pos rfl,cmp_self,if_pos rfl,keysC_cmp s t l m]
   simp
  ·rw [if_neg e,if_neg (fun h=>e (cmpB_zero h)),if_neg (by rintro h;injection h with h _;exact e h)]
theorem cmpKeys_three:∀ (K K':List Bys),cmpKeys K K' = -1∨cmpKeys K K'=0∨cmpKeys K K'=1
 | [],[]=>.inr (.inl rfl)
 | [],_ :: _=>.inl rfl
 | _ :: _,[]=>.inr (.inr rfl)
 | a :: s,b :: t=>by
  rw [cmpKeys]
  split
  ·exact cmpKeys_three s t
  ·exact cmpB_three a b
theorem cmpKeys_zero:∀ {K K':List Bys},cmpKeys K K'=0→K=K'
 | [],[],_=>rfl
 | [],_ :: _,h=>by simp [cmpKeys] at h
 | _ :: _,[],h=>by simp [cmpKeys] at h
 | a :: s,b :: t,h=>by
  rw [cmpKeys] at h
  split at h
  ·rename_i k
   rw [cmpB_zero k,cmpKeys_zero h]
  ·contradiction
theorem cmpKeys_self (K:List Bys):cmpKeys K K=0:=by
 induction K with
 | nil=>rfl
 | cons a s ih=>rw [cmpKeys,cmp_self,if_pos rfl,ih]
theorem outC_cmp (hC:ComparesStr) (kx ky:ByteArray) (Tx Ty:Nat) (ux uy:Value) (w:World) :
  Calls Tryz.prog 296 #[.agg #[.string kx,.iface Tx ux],.agg #[.string ky,.iface Ty uy]] w fun e w'=>e = .returned (.int .i64 (Lib.compareBytes kx.data.toList ky.data.toList))∧Up w w':=by
 go_enter Tryz.func296,Tryz.ntmps296
 go_wp2_with (go_at_call 188;refine (hC _ _ _).mono ?_;rintro e w1 ⟨rfl,rfl⟩)
 go_ret
 exact ⟨rfl,by first | exact Up.alloc2 _ _ _ | exact Up.refl _ | exact Up.alloc _ _⟩
def ObjR (w:World) (r:Value) (L:List El):Prop:=∃ p c,r = .slice p L.length c∧(L=[]∨∃ a C,p=some ⟨a,0,none⟩∧Mem w a C L)
theorem cmpFunc_ok (hC:ComparesStr) {w:World}{r r':Value}{L L':List El} (hr:ObjR w r L) (hr':ObjR w r' L') (hmax:L.length≤1000000000) (hmax':L'.length≤1000000000) :
  Calls Tryz.prog 295 #[r,r',outF] w fun e w'=>e = .returned (.int .i64 (cmpKeys (L.map elKey) (L'.map elKey)))∧Up w w':=by
 obtain ⟨p,c,rfl,hp⟩:=hr
 obtain ⟨p',c',rfl,hp'⟩:=hr'
 obtain ⟨n,hn⟩:∃ n,Hid (n=L.length):=⟨_,rfl⟩
 obtain ⟨n',hn'⟩:∃ n,Hid (n=L'.length):=⟨_,rfl⟩
 obtain ⟨K,hK⟩:∃ K,Hid (K=L.map elKey):=⟨_,rfl⟩
 obtain ⟨K',hK'⟩:∃ K,Hid (K=L'.map elKey):=⟨_,rfl⟩
 rw [← hn.out,← hn'.out,← hK.out,← hK'.out]
 rw [← hn.out] at hmax
 rw [← hn'.out] at hmax'
 have lK:Hid (K.length=n):=by have e1:=hK.out;have e2:=hn.out;show K.length=n;rw [e1,e2,List.length_map]
 have lK':Hid (K'.length=n'):=by have e1:=hK'.out;have e2:=hn'.out;show K'.length=n';rw [e1,e2,List.length_map]
 unfold outF
 go_enter Tryz.func295,Tryz.ntmps295
 go_wp2_with fail
 go_loopg [13] n (fun k v wr=>∃ i:Nat,i+k=n∧v = .int .i64 i∧Up w wr∧cmpKeys K K'=cmpKeys (K.drop i) (K'.drop i))
 case atStart=>exact ⟨0,by omega,rfl,Up.refl _,by simp⟩
 case round =>
  obtain ⟨i,hi,rfl,hb,hc⟩:=hrel
  match gk,hi with
  | 0,hi =>
   have hz:¬ (i:Int) < (n:Int):=by omega
   have e1:K.drop i=[]:=List.drop_eq_nil_of_le (by have:=lK.out;omega)
   rw [e1] at hc
   by_cases h2:n < n'
   ·have hz2:(n:Int) < (n':Int):=by omega
    obtain ⟨y,ys,e2⟩:∃ y ys,K'.drop i=y :: ys:=by
     cases hd:K'.drop i with
     | nil=>have h5:=List.length_drop (l:=K') (i:=i);rw [hd] at h5;have:=lK'.out;simp only [List.length_nil] at h5;omega
     | cons y ys=>exact ⟨y,ys,rfl⟩
    rw [e2,cmpKeys] at hc
    have hc2:Hid _:=hc
    clear hc hp hp'
    go_wp2_with fail
    go_ret
    exact ⟨by rw [hc2.out];rfl,hb⟩
   ·have hz2:¬ (n:Int) < (n':Int):=by omega
    have e2:K'.drop i=[]:=List.drop_eq_nil_of_le (by have:=lK'.out;omega)
    rw [e2,cmpKeys] at hc
    have hc2:Hid _:=hc
    clear hc hp hp'
    go_wp2_with fail
    go_ret
    exact ⟨by rw [hc2.out];rfl,hb⟩
  | k+1,hi =>
   have hz:(i:Int) < (n:Int):=by omega
   obtain ⟨⟨kx,⟨Tx,ux⟩,tx⟩,hx⟩:∃ x,L[i]? = some x:=⟨_,List.getElem?_eq_getElem (by have:=hn.out;omega)⟩
   rcases hp with hp | ⟨a,C,hp,hM⟩
   ·rw [hp] at hx;simp at hx
   have eK:K.drop i=kx.data.toList :: K.drop (i+1):=by
    have hki:K[i]? = some kx.data.toList:=by rw [hK.out,List.getElem?_map,hx];rfl
    obtain ⟨h1,h2⟩:=List.getElem?_eq_some_iff.1 hki
    rw [List.drop_eq_getElem_cons h1,h2]
   subst hp
   obtain ⟨x0,x1⟩:=hM.at hx
   simp only [iv] at x0 x1
   have hla:=hM.lt
   have hs:=hb.1.size
   have f0:=(hb.1.cell (p:=⟨a,i * 2,none⟩) hla).trans x0
   have f1:=(hb.1.cell (p:=⟨a,i * 2+1,none⟩) hla).trans x1
   by_cases h2:n'≤i
   ·have hz2:(n':Int)≤(i:Int):=by omega
    have e2:K'.drop i=[]:=List.drop_eq_nil_of_le (by have:=lK'.out;omega)
    rw [eK,e2,cmpKeys] at hc
    have hc2:Hid _:=hc
    clear hc hp' hx x0 x1 hM
    go_wp2_with fail
    go_ret
    exact ⟨by rw [hc2.out];rfl,by first | exact hb.trans (Up.alloc _ _) | exact hb⟩
   ·have hz2:¬ (n':Int)≤(i:Int):=by omega
    have hz3:(i:Int) < (n':Int):=by omega
    obtain ⟨⟨ky,⟨Ty,uy⟩,ty⟩,hy⟩:∃ x,L'[i]? = some x:=⟨_,List.getElem?_eq_getElem (by have:=hn'.out;omega)⟩
    rcases hp' with hp' | ⟨b,C',hp',hM'⟩
    ·rw [hp'] at hy;simp at hy
    have eK':K'.drop i=ky.data.toList :: K'.drop (i+1):=by
     have hki:K'[i]? = some ky.data.toList:=by rw [hK'.out,List.getElem?_map,hy];rfl
     obtain ⟨h1,h2⟩:=List.getElem?_eq_some_iff.1 hki
     rw [List.drop_eq_getElem_cons h1,h2]
    subst hp'
    obtain ⟨y0,y1⟩:=hM'.at hy
    simp only [iv] at y0 y1
    have hlb:=hM'.lt
    have f2:∀ o,(wr.alloc o).cell? ⟨b,i * 2,none⟩=some (.string ky):=fun o=>((below_alloc wr o).cell (p:=⟨b,i * 2,none⟩) (by simp;omega)).trans ((hb.1.cell (p:=⟨b,i * 2,none⟩) hlb).trans y0)
    have f3:∀ o,(wr.alloc o).cell? ⟨b,i * 2+1,none⟩=some (.iface Ty uy):=fun o=>((below_alloc wr o).cell (p:=⟨b,i * 2+1,none⟩) (by simp;omega)).trans ((hb.1.cell (p:=⟨b,i * 2+1,none⟩) hlb).trans y1)
    rw [eK,eK',cmpKeys] at hc
    obtain ⟨c0,hc0⟩:∃ c0,Hid (c0=Lib.compareBytes kx.data.toList ky.data.toList):=⟨_,rfl⟩
    rw [← hc0.out] at hc
    have HC:Aside (∀ ww,Calls Tryz.prog 296 #[.agg #[.string kx,.iface Tx ux],.agg #[.string ky,.iface Ty uy]] ww fun e w'=>e = .returned (.int .i64 c0)∧Up ww w'):=fun ww=>by rw [hc0.out];exact outC_cmp hC kx ky Tx Ty ux uy ww
    by_cases h3:c0=0
    ·rw [if_pos h3] at hc
     subst h3
     have hc2:Hid _:=hc
     clear hc hx hy x0 x1 y0 y1 hM hM' hc0
     go_wp2_with (go_at_call 296;refine Calls.mono (HC.out _) ?_;rintro e w1 ⟨rfl,k1⟩)
     go_roundg k
     case measure=>omega
     case rel=>exact ⟨i+1,by omega,by simp,(hb.trans (Up.alloc2 wr _ _)).trans k1,hc2.out⟩
    ·rw [if_neg h3] at hc
     have hc2:Hid _:=hc
     clear hc hx hy x0 x1 y0 y1 hM hM' hc0
     go_wp2_with (go_at_call 296;refine Calls.mono (HC.out _) ?_;rintro e w1 ⟨rfl,k1⟩)
     go_ret
     exact ⟨by rw [hc2.out];rfl,(hb.trans (Up.alloc2 wr _ _)).trans k1⟩
def rankT (T:Nat):Int:=if T=95 then 0 else if T=96 then 1 else if T=98 then 2 else if T=100 then 3 else if T=86 then 4 else 5
theorem kind_at {T:Nat} (h:T∈kindT) (v:Value) (w:World):Calls Tryz.prog 297 #[.iface T v] w fun e w'=>e = .returned (.int .i64 (rankT T))∧w'=w:=by
 simp only [kindT,List.mem_cons,List.mem_nil_iff,or_false] at h
 rcases h with rfl | rfl | rfl | rfl | rfl | rfl
 ·exact kind_ok (k:=0) rfl v w
 ·exact kind_ok (k:=1) rfl v w
 ·exact kind_ok (k:=2) rfl v w
 ·exact kind_ok (k:=3) rfl v w
 ·exact kind_ok (k:=4) rfl v w
 ·exact kind_ok (k:=5) rfl v w
theorem outside_ne_Null {T':Nat} (h':T'∈kindT) (v v':Value) (w:World) :
  Calls Tryz.prog 263 #[.iface 95 v,.iface T' v'] w fun e w'=>e = .returned (.int .i64 (ordI 0 (rankT T')))∧w'=w:=by
 have mBool:=missVBool 95;have mNumber:=missVNumber 95;have mString:=missVString 95;have mObject:=missVObject 95
 go_enter Tryz.func263,Tryz.ntmps263
 go_wp2_with (first
  | (go_at_call 297;refine (kind_at (by first | assumption | decide) _ _).mono ?_;rintro e w1 ⟨rfl,rfl⟩)
  | (go_at_call 265;refine (cmpInt_ok _ _ _).mono ?_;rintro e w3 ⟨rfl,rfl⟩))
 go_ret
 exact ⟨rfl,rfl⟩
theorem outside_ne_Bool {T':Nat} (h':T'∈kindT) (hn:T'≠96) (v v':Value) (w:World) :
  Calls Tryz.prog 263 #[.iface 96 v,.iface T' v'] w fun e w'=>e = .returned (.int .i64 (ordI 1 (rankT T')))∧w'=w:=by
 have hit:=hitVBool;have mb:=fun v w=>missVBool T' v w hn;have mNumber:=missVNumber 96;have mString:=missVString 96;have mObject:=missVObject 96
 go_enter Tryz.func263,Tryz.ntmps263
 go_wp2_with (first
  | (go_at_call 297;refine (kind_at (by first | assumption | decide) _ _).mono ?_;rintro e w1 ⟨rfl,rfl⟩)
  | (go_at_call 265;refine (cmpInt_ok _ _ _).mono ?_;rintro e w3 ⟨rfl,rfl⟩))
 go_ret
 exact ⟨rfl,rfl⟩
theorem outside_ne_Number {T':Nat} (h':T'∈kindT) (hn:T'≠98) (v v':Value) (w:World) :
  Calls Tryz.prog 263 #[.iface 98 v,.iface T' v'] w fun e w'=>e = .returned (.int .i64 (ordI 2 (rankT T')))∧w'=w:=by
 have mBool:=missVBool 98;have hit:=hitVNumber;have mb:=fun v w=>missVNumber T' v w hn;have mString:=missVString 98;have mObject:=missVObject 98
 go_enter Tryz.func263,Tryz.ntmps263
 go_wp2_with (first
  | (go_at_call 297;refine (kind_at (by first | assumption | decide) _ _).mono ?_;rintro e w1 ⟨rfl,rfl⟩)
  | (go_at_call 265;refine (cmpInt_ok _ _ _).mono ?_;rintro e w3 ⟨rfl,rfl⟩))
 go_ret
 exact ⟨rfl,rfl⟩
theorem outside_ne_String {T':Nat} (h':T'∈kindT) (hn:T'≠100) (v v':Value) (w:World) :
  Calls Tryz.prog 263 #[.iface 100 v,.iface T' v'] w fun e w'=>e = .returned (.int .i64 (ordI 3 (rankT T')))∧w'=w:=by
 have mBool:=missVBool 100;have mNumber:=missVNumber 100;have hit:=hitVString;have mb:=fun v w=>missVString T' v w hn;have mObject:=missVObject 100
 go_enter Tryz.func263,Tryz.ntmps263
 go_wp2_with (first
  | (go_at_call 297;refine (kind_at (by first | assumption | decide) _ _).mono ?_;rintro e w1 ⟨rfl,rfl⟩)
  | (go_at_call 265;refine (cmpInt_ok _ _ _).mono ?_;rintro e w3 ⟨rfl,rfl⟩))
 go_ret
 exact ⟨rfl,rfl⟩
theorem outside_ne_Array {T':Nat} (h':T'∈kindT) (v v':Value) (w:World) :
  Calls Tryz.prog 263 #[.iface 86 v,.iface T' v'] w fun e w'=>e = .returned (.int .i64 (ordI 4 (rankT T')))∧w'=w:=by
 have mBool:=missVBool 86;have mNumber:=missVNumber 86;have mString:=missVString 86;have mObject:=missVObject 86
 go_enter Tryz.func263,Tryz.ntmps263
 go_wp2_with (first
  | (go_at_call 297;refine (kind_at (by first | assumption | decide) _ _).mono ?_;rintro e w1 ⟨rfl,rfl⟩)
  | (go_at_call 265;refine (cmpInt_ok _ _ _).mono ?_;rintro e w3 ⟨rfl,rfl⟩))
 go_ret
 exact ⟨rfl,rfl⟩
theorem outside_ne_Object {T':Nat} (h':T'∈kindT) (hn:T'≠102) (v v':Value) (w:World) :
  Calls Tryz.prog 263 #[.iface 102 v,.iface T' v'] w fun e w'=>e = .returned (.int .i64 (ordI 5 (rankT T')))∧w'=w:=by
 have mBool:=missVBool 102;have mNumber:=missVNumber 102;have mString:=missVString 102;have hit:=hitVObject;have mb:=fun v w=>missVObject T' v w hn
 go_enter Tryz.func263,Tryz.ntmps263
 go_wp2_with (first
  | (go_at_call 297;refine (kind_at (by first | assumption | decide) _ _).mono ?_;rintro e w1 ⟨rfl,rfl⟩)
  | (go_at_call 265;refine (cmpInt_ok _ _ _).mono ?_;rintro e w3 ⟨rfl,rfl⟩))
 go_ret
 exact ⟨rfl,rfl⟩
theorem outside_eq_Bool (b b':Bool) (w:World):Calls Tryz.prog 263 #[.iface 96 (.bool b),.iface 96 (.bool b')] w fun e w'=>e = .returned (.int .i64 (ordI (if b then 1 else 0) (if b' then 1 else 0)))∧w'=w:=by
  have hit:=hitVBool
  have t1:=truth_ok true
  have t0:=truth_ok false
  simp only [if_true,Bool.false_eq_true,if_false] at t1 t0
  cases b <;> cases b' <;>
   (go_enter Tryz.func263,Tryz.ntmps263
    go_wp2_with (first
      | (go_at_call 293;(first | refine Calls.mono (t1 _) ?_ | refine Calls.mono (t0 _) ?_);rintro e w1 ⟨rfl,rfl⟩)
      | (go_at_call 265;refine (cmpInt_ok _ _ _).mono ?_;rintro e w3 ⟨rfl,rfl⟩))
    go_ret
    exact ⟨rfl,rfl⟩)
theorem outside_eq_Number (a b:Int) (w:World):Calls Tryz.prog 263 #[.iface 98 (.int .i64 a),.iface 98 (.int .i64 b)] w fun e w'=>e = .returned (.int .i64 (ordI a b))∧w'=w:=by
 have m5:=missVBool;have hit:=hitVNumber
 go_enter Tryz.func263,Tryz.ntmps263
 go_wp2_with (go_at_call 294;refine (cmpNum_ok _ _ _).mono ?_;rintro e w3 ⟨rfl,rfl⟩)
 go_ret
 exact ⟨rfl,rfl⟩
theorem outside_eq_String (hC:ComparesStr) (s t:ByteArray) (w:World):Calls Tryz.prog 263 #[.iface 100 (.string s),.iface 100 (.string t)] w fun e w'=>e = .returned (.int .i64 (Lib.compareBytes s.data.toList t.data.toList))∧w'=w:=by
 have m5:=missVBool;have m1:=missVNumber;have hit:=hitVString
 go_enter Tryz.func263,Tryz.ntmps263
 go_wp2_with (go_at_call 188;refine (hC _ _ _).mono ?_;rintro e w3 ⟨rfl,rfl⟩)
 go_ret
 exact ⟨rfl,rfl⟩
theorem outside_eq_Object {r r':Value}{w:World}{o:Int} (h:Calls Tryz.prog 295 #[r,r',outF] w fun e w'=>e = .returned (.int .i64 o)∧Up w w') :
  Calls Tryz.prog 263 #[.iface 102 r,.iface 102 r'] w fun e w'=>e = .returned (.int .i64 o)∧Up w w':=by
 have m1:=missVNumber;have m2:=missVString;have m4:=hitVObject;have m5:=missVBool
 have H:Aside _:=h
 clear h
 go_enter Tryz.func263,Tryz.ntmps263
 go_wp2_with (go_at_call 295;refine Calls.mono H.out ?_;rintro e w1 ⟨rfl,k1⟩)
 go_ret
 exact ⟨rfl,k1⟩
def HdV (w:World) (x:IV) (p:List Int):Prop :=
 (x=(95,.agg #[])∧p=[0])∨(∃ b,x=(96,.bool b)∧p=[1,if b then 1 else 0])∨(∃ n:Int,x=(98,.int .i64 n)∧p=[2,n])∨
 (∃ t:ByteArray,x=(100,.string t)∧p=3 :: strC t.data.toList)∨(∃ r,x=(86,r)∧p=[4])∨
 ∃ r L,x=(102,r)∧ObjR w r L∧L.length≤1000000000∧p=5 :: keysC (L.map elKey)
theorem HdV.kind {w:World}{x:IV}{p:List Int} (h:HdV w x p):x.1∈kindT∧∃ l,p=rankT x.1 :: l:=by
 rcases h with ⟨rfl,rfl⟩ | ⟨b,rfl,rfl⟩ | ⟨n,rfl,rfl⟩ | ⟨t,rfl,rfl⟩ | ⟨r,rfl,rfl⟩ | ⟨r,L,rfl,_,_,rfl⟩
 ·exact ⟨by simp [kindT],_,rfl⟩
 ·exact ⟨by simp [kindT],_,rfl⟩
 ·exact ⟨by simp [kindT],_,rfl⟩
 ·exact ⟨by simp [kindT],_,rfl⟩
 ·exact ⟨by simp [kindT],_,rfl⟩
 ·exact ⟨by simp [kindT],_,rfl⟩
def OutC (p q:List Int) (o:Int):Prop:=(o = -1∨o=0∨o=1)∧(o=0→p=q)∧(o≠0→∀ l m,lexC (p ++ l) (q ++ m)=o)
theorem ordI_three (a b:Int):ordI a b = -1∨ordI a b=0∨ordI a b=1:=by
 unfold ordI
 split
 ·exact .inl rfl
 ·split
  ·exact .inr (.inr rfl)
  ·exact .inr (.inl rfl)
theorem OutC.kinds {a b:Int}{l m:List Int} (h:a≠b):OutC (a :: l) (b :: m) (ordI a b):=by
 refine ⟨ordI_three a b,?_,?_⟩
 ·intro h0
  unfold ordI at h0
  split at h0
  ·omega
  ·split at h0 <;> omega
 ·intro h0 r s
  rw [List.cons_append,List.cons_append,lexC]
  unfold ordI at h0 ⊢
  by_cases h1:a < b
  ·rw [if_pos h1,if_pos h1]
  ·rw [if_neg h1,if_neg h1,if_pos (by omega),if_pos (by omega)]
theorem OutC.same (p:List Int):OutC p p 0:=⟨.inr (.inl rfl),fun _=>rfl,fun h=>absurd rfl h⟩
theorem OutC.cons {p q:List Int}{o:Int} (a:Int) (h:OutC p q o):OutC (a :: p) (a :: q) o :=
 ⟨h.1,fun h0=>by rw [h.2.1 h0],fun h0 l m=>by rw [List.cons_append,List.cons_append,lexC_cons,h.2.2 h0]⟩
theorem OutC.ints (a b:Int):OutC [a] [b] (ordI a b):=by
 by_cases h:a=b
 ·subst h;rw [ordI_self];exact OutC.same _
 ·exact OutC.kinds h
theorem OutC.strs (s t:Bys):OutC (strC s) (strC t) (Lib.compareBytes s t):=by
 by_cases h:s=t
 ·subst h;rw [cmp_self];exact OutC.same _
 ·refine ⟨cmpB_three s t,fun h0=>absurd (cmpB_zero h0) h,fun _ l m=>?_⟩
  rw [strC_cmp,if_neg h]
theorem OutC.keys (s t:List Bys):OutC (keysC s) (keysC t) (cmpKeys s t):=by
 by_cases h:s=t
 ·subst h;rw [cmpKeys_self];exact OutC.same _
 ·refine ⟨cmpKeys_three s t,fun h0=>absurd (cmpKeys_zero h0) h,fun _ l m=>?_⟩
  rw [keysC_cmp,if_neg h]
theorem rankT_inj:∀ T∈kindT,∀ T'∈kindT,rankT T=rankT T'→T=T':=by decide
theorem outside_cmp (hC:ComparesStr) {w:World}{x y:IV}{p q:List Int} (hx:HdV w x p) (hy:HdV w y q) :
  Calls Tryz.prog 263 #[iv x,iv y] w fun e w'=>∃ o,e = .returned (.int .i64 o)∧OutC p q o∧Up w w':=by
 obtain ⟨kx,l,ep⟩:=hx.kind
 obtain ⟨ky,m,eq⟩:=hy.kind
 by_cases hne:x.1=y.1
 ·rcases hx with ⟨rfl,rfl⟩ | ⟨b,rfl,rfl⟩ | ⟨n,rfl,rfl⟩ | ⟨t,rfl,rfl⟩ | ⟨r,rfl,rfl⟩ | ⟨r,L,rfl,hr,hL,rfl⟩ <;> rcases hy with ⟨rfl,rfl⟩ | ⟨b',rfl,rfl⟩ | ⟨n',rfl,rfl⟩ | ⟨t',rfl,rfl⟩ | ⟨r',rfl,rfl⟩ | ⟨r',L',rfl,hr',hL',rfl⟩ <;>
   (try dsimp only at hne) <;> first | exact absurd hne (by decide) | skip
  ·exact (outside_ne_Null (T':=95) (by decide) _ _ w).mono fun e w' ⟨h1,h2⟩=>⟨_,h1,OutC.same _,by rw [h2];exact Up.refl _⟩
  ·exact (outside_eq_Bool b b' w).mono fun e w' ⟨h1,h2⟩=>⟨_,h1,(OutC.ints _ _).cons 1,by rw [h2];exact Up.refl _⟩
  ·exact (outside_eq_Number n n' w).mono fun e w' ⟨h1,h2⟩=>⟨_,h1,(OutC.ints _ _).cons 2,by rw [h2];exact Up.refl _⟩
  ·exact (outside_eq_String hC t t' w).mono fun e w' ⟨h1,h2⟩=>⟨_,h1,(OutC.strs _ _).cons 3,by rw [h2];exact Up.refl _⟩
  ·exact (outside_ne_Array (T':=86) (by decide) _ _ w).mono fun e w' ⟨h1,h2⟩=>⟨_,h1,OutC.same _,by rw [h2];exact Up.refl _⟩
  ·exact (outside_eq_Object (cmpFunc_ok hC hr hr' hL hL')).mono fun e w' ⟨h1,h2⟩=>⟨_,h1,(OutC.keys _ _).cons 5,h2⟩
 ·have hrk:rankT x.1≠rankT y.1:=fun h=>hne (rankT_inj _ kx _ ky h)
  have H:Calls Tryz.prog 263 #[iv x,iv y] w fun e w'=>e = .returned (.int .i64 (ordI (rankT x.1) (rankT y.1)))∧w'=w:=by
   obtain ⟨Tx,vx⟩:=x
   obtain ⟨Ty,vy⟩:=y
   simp only [kindT,List.mem_cons,List.mem_nil_iff,or_false] at kx
   simp only at kx hne
   rcases kx with rfl | rfl | rfl | rfl | rfl | rfl
   ·exact outside_ne_Null ky vx vy w
   ·exact outside_ne_Bool ky (Ne.symm hne) vx vy w
   ·exact outside_ne_Number ky (Ne.symm hne) vx vy w
   ·exact outside_ne_String ky (Ne.symm hne) vx vy w
   ·exact outside_ne_Array ky vx vy w
   ·exact outside_ne_Object ky (Ne.symm hne) vx vy w
  rw [ep,eq]
  exact H.mono fun e w' ⟨h1,h2⟩=>⟨_,h1,OutC.kinds hrk,by rw [h2];exact Up.refl _⟩
end Go.Proofs.Tryz
