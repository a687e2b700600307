import Derived.Test.YtbhajhlhgbnhbaaGreatDoorOb4
set_option linter.all false
namespace Go.Proofs.Tryz
set_option maxHeartbeats 16000000
open Go.RowKit Go.Shelf
set_option maxRecDepth 100000
attribute [local go_sem] Oper.semAt_some
end Go.Proofs.Tryz
namespace Go.Proofs.Tryz
set_option maxHeartbeats 16000000
open Go.RowKit
set_option maxRecDepth 10000
theorem withParam_ok {w:World}{k wh:Option Addr}{name:ByteArray}{T b:Nat}:Calls Tryz.prog 151 #[.pointer k,.string name,.iface T (.pointer (some ⟨b,0,none⟩)),.pointer wh] w fun e w'=>∃ nb,e = .returned (.pointer (some ⟨nb,0,none⟩))∧Below w.heap.size w w'∧w.heap.size≤nb∧KnB w' nb 2 name 0 .nilIface (.pointer none) (.iface T (.pointer (some ⟨b,0,none⟩))) (.pointer wh) (.pointer k):=by
 go_enter Tryz.func151,Tryz.ntmps151
 go_wp2_with fail
 go_ret
 exact ⟨w.heap.size,rfl,below_alloc w _,Nat.le_refl _,heap_new w _⟩
theorem call_param {C:Nat→Prop}{Ls:List SP}{w:World}{kn kw:Option Addr}{d use ps:Int}{cb T b na c:Nat}{p:Option Addr}{name:ByteArray}{val ar:Value}{s:Sp} (hk:KnB w cb use name ps val (.pointer none) (.iface T (.pointer (some ⟨b,0,none⟩))) (.pointer kw) ar)
  (h:∀ w1,Below w.heap.size w w1→Calls Tryz.prog 22 #[.agg #[.pointer kw,.int .i64 d],.iface T (.pointer (some ⟨b,0,none⟩)),spv s] w1 (MadeC Ls C w1)) :
  Calls Tryz.prog 110 #[.agg #[.pointer kn,.int .i64 d],.pointer (some ⟨cb,0,none⟩),.slice p na c,spv s] w (MadeC Ls C w):=by
 obtain ⟨k0,k1,k2,k3,k4,k5,k6,k7⟩:=hk.facts
 have kl:=hk.lt
 obtain ⟨⟨Tx,ux⟩,q⟩:=s
 simp only [spv,iv] at h ⊢
 clear hk
 go_enter Tryz.func110,Tryz.ntmps110
 go_wp2_with fail
 obtain ⟨wA,hA,kW,wp,wx,wl⟩:=two_boxes w kn d ((Tx,ux),q)
 simp only [iv] at hA
 obtain ⟨x0,x1,_,_,x4⟩:=wx.facts
 have a1:=wp.c1
 have a2:=(kW.cell (p:=⟨cb,6,none⟩) kl).trans k6
 have a3:=(kW.cell (p:=⟨cb,5,none⟩) kl).trans k5
 have s0:=six ((Below.refl _ wA).drew) a1 a2 a3 x0 x1 x0
 rw [← hA]
 clear hA
 go_region_held3 (fun w'=>w'.cell? ⟨w.heap.size,1,none⟩=some (.int .i64 d)∧w'.cell? ⟨cb,6,none⟩=some (.pointer kw)∧w'.cell? ⟨cb,5,none⟩=some (.iface T (.pointer (some ⟨b,0,none⟩)))∧w'.cell? ⟨w.heap.size+1,0,none⟩=some (.iface Tx ux)∧w'.cell? ⟨w.heap.size+1,1,none⟩=some (.pointer q)∧w'.cell? ⟨w.heap.size+1,0,none⟩=some (.iface Tx ux)) (first | exact s0 | exact e4 | go_keep)
  (first | (go_at_call 22;refine (h _ kW.drew).mono ?_;rintro e w1 ⟨k1,K,cap,rfl,hM⟩;have kX:Below wA.heap.size wA w1:=(Below.refl _ _).drew.trans (k1.mono (by simp));have e4:=six kX a1 a2 a3 x0 x1 x0))
 all_goals
  go_wp2_with fail
  go_ret
  exact MadeC.under ⟨k1,K,cap,rfl,hM⟩ kW.drew
theorem call_def1 {C:Nat→Prop}{Ls:List SP}{w:World}{kn:Option Addr}{d use ps:Int}{cb db pd po pc ad ao ac T b T1 b1:Nat}{name dname pname:ByteArray}{val hd wh ar:Value}{s:Sp} (hk:KnB w cb use name ps val (.pointer (some ⟨db,0,none⟩)) hd wh ar) (c1:w.cell? ⟨db,1,none⟩=some (.slice (some ⟨pd,po,none⟩) 1 pc)) (c2:w.cell? ⟨pd,po,none⟩=some (.string pname)) (c3:w.cell? ⟨db,2,none⟩=some (.iface T (.pointer (some ⟨b,0,none⟩)))) (c4:w.cell? ⟨ad,ao,none⟩=some (.iface T1 (.pointer (some ⟨b1,0,none⟩)))) (hd0:0 < d) (hd1:d≤1000)
  (h:∀ w1 nb,Below w.heap.size w w1→w.heap.size≤nb→KnB w1 nb 2 pname 0 .nilIface (.pointer none) (.iface T1 (.pointer (some ⟨b1,0,none⟩))) (.pointer kn) (.pointer (some ⟨cb,0,none⟩))→Calls Tryz.prog 22 #[.agg #[.pointer (some ⟨nb,0,none⟩),.int .i64 (d - 1)],.iface T (.pointer (some ⟨b,0,none⟩)),spv s] w1 (MadeC Ls (fun k=>C k∨w.heap.size≤k) w1)) :
  Calls Tryz.prog 110 #[.agg #[.pointer kn,.int .i64 d],.pointer (some ⟨cb,0,none⟩),.slice (some ⟨ad,ao,none⟩) 1 ac,spv s] w (MadeC Ls C w):=by
 obtain ⟨k0,k1,k2,k3,k4,k5,k6,k7⟩:=hk.facts
 have kl:=hk.lt
 have l1:=lt_cell c1
 have l2:=lt_cell c2
 have l4:=lt_cell c4
 have z0:¬ d=0:=by omega
 have z1:(d == 0)=false:=by simpa using z0
 have z2:IntKind.i64.wrap (d - 1)=d - 1:=by rw [IntKind.wrap_i64];omega
 obtain ⟨⟨Tx,ux⟩,q⟩:=s
 simp only [spv,iv] at h ⊢
 clear hk
 go_enter Tryz.func110,Tryz.ntmps110
 go_wp2_with fail
 refine wp_loop_rounds 2 ?_
 rw [rounds_succ]
 go_wp2_with fail
 obtain ⟨wA,hA,kW,wp,wx,wl⟩:=two_boxes w kn d ((Tx,ux),q)
 simp only [iv] at hA
 obtain ⟨x0,x1,_,_,x4⟩:=wx.facts
 have a0:=wp.c0
 have a1:=wp.c1
 have a2:=(kW.cell (p:=⟨cb,4,none⟩) kl).trans k4
 have a3:=(kW.cell (p:=⟨db,2,none⟩) l1).trans c3
 have a4:=(kW.cell (p:=⟨ad,ao,none⟩) l4).trans c4
 have s0:=eight ((Below.refl _ wA).drew) a0 a1 a2 a3 a4 x0 x1 x0
 rw [← hA]
 clear hA
 have HP:∀ w1,Calls Tryz.prog 151 #[.pointer (some ⟨cb,0,none⟩),.string pname,.iface T1 (.pointer (some ⟨b1,0,none⟩)),.pointer kn] w1 fun e w'=>∃ nb,e = .returned (.pointer (some ⟨nb,0,none⟩))∧Below w1.heap.size w1 w'∧w1.heap.size≤nb∧KnB w' nb 2 pname 0 .nilIface (.pointer none) (.iface T1 (.pointer (some ⟨b1,0,none⟩))) (.pointer kn) (.pointer (some ⟨cb,0,none⟩)):=fun w1=>withParam_ok
 go_region_held3 (fun w'=>w'.cell? ⟨w.heap.size,0,none⟩=some (.pointer kn)∧w'.cell? ⟨w.heap.size,1,none⟩=some (.int .i64 d)∧w'.cell? ⟨cb,4,none⟩=some (.pointer (some ⟨db,0,none⟩))∧w'.cell? ⟨db,2,none⟩=some (.iface T (.pointer (some ⟨b,0,none⟩)))∧w'.cell? ⟨ad,ao,none⟩=some (.iface T1 (.pointer (some ⟨b1,0,none⟩)))∧w'.cell? ⟨w.heap.size+1,0,none⟩=some (.iface Tx ux)∧w'.cell? ⟨w.heap.size+1,1,none⟩=some (.pointer q)∧w'.cell? ⟨w.heap.size+1,0,none⟩=some (.iface Tx ux)) (first | exact s0 | exact e4 | go_keep)
  (first | (go_at_call 151;refine (HP _).mono ?_;rintro e w1 ⟨nb,rfl,k1,hnb,hkn⟩;have kX:Below wA.heap.size wA w1:=(Below.refl _ _).drew.trans (k1.mono (by simp));have e4:=eight kX a0 a1 a2 a3 a4 x0 x1 x0))
 all_goals
  obtain ⟨b0,b1',b2,b3,b4,b5,b6,-⟩:=e4
  have hXs:=kX.size
  have hnb':wA.heap.size≤nb:=hnb
  have hl1:w.heap.size+1 < w1.heap.size:=by omega
  have hl2:cb < w1.heap.size:=by omega
  have hl3:db < w1.heap.size:=by have:db < w.heap.size:=l1;omega
  have kA:=kW.trans (kX.mono kW.size)
  have HO:=h w1.drew nb kA.drew (by omega) (hkn.same rfl)
  have hnl:=hkn.lt
  go_wp2_with fail
  rw [rounds_succ]
  go_wp2_with fail
  have t0:=six ((Below.refl _ w1).drew) b1' b2 b3 b5 b6 b5
  go_region_held3 (fun w'=>w'.cell? ⟨w.heap.size,1,none⟩=some (.int .i64 d)∧w'.cell? ⟨cb,4,none⟩=some (.pointer (some ⟨db,0,none⟩))∧w'.cell? ⟨db,2,none⟩=some (.iface T (.pointer (some ⟨b,0,none⟩)))∧w'.cell? ⟨w.heap.size+1,0,none⟩=some (.iface Tx ux)∧w'.cell? ⟨w.heap.size+1,1,none⟩=some (.pointer q)∧w'.cell? ⟨w.heap.size+1,0,none⟩=some (.iface Tx ux)) (first | exact t0 | exact f4 | go_keep)
   (first | (go_at_call 22;refine HO.mono ?_;rintro e w2 ⟨k2,K,cap,rfl,hM⟩;have kY:Below w1.heap.size w1 w2:=(Below.refl _ _).drew.trans (k2.mono (by simp));have f4:=six kY b1' b2 b3 b5 b6 b5))
  all_goals
   go_wp2_with fail
   go_ret
   exact (MadeC.under (L:=Ls) (C:=fun k=>C k∨w.heap.size≤k) ⟨k2,K,cap,rfl,hM⟩ kA.drew).more (by grind)
theorem named_def {C:Nat→Prop}{Ls:List SP}{w0 w:World}{kn:Option Addr}{d:Int}{b n na c cb:Nat}{p:Option Addr}{name:ByteArray}{x:IV} (hC:∀ k,C k→k < w0.heap.size) (hb:C b) (c0:w0.cell? ⟨b,0,none⟩=some (.string name)) (c1:w0.cell? ⟨b,1,none⟩=some (.slice p na c)) (hF:FindIs C w0 2 name na n kn (some ⟨cb,0,none⟩)) (hs:SameOn C w0 w) (hl:w0.heap.size≤w.heap.size)
  (h:∀ w1,Below w.heap.size w w1→Calls Tryz.prog 110 #[.agg #[.pointer kn,.int .i64 d],.pointer (some ⟨cb,0,none⟩),.slice p na c,.agg #[iv x,.pointer none]] w1 (MadeC Ls C w1)) :
  Calls Tryz.prog 63 #[.agg #[.pointer kn,.int .i64 d],.pointer (some ⟨b,0,none⟩),.agg #[iv x,.pointer none]] w (MadeC Ls C w):=by
 have n0:=hs.cell hb c0
 have n1:=hs.cell hb c1
 have n3:b < w.heap.size:=by have:=hC b hb;omega
 have hf:∀ w1,Below w.heap.size w w1→Calls Tryz.prog 55 #[.pointer kn,.int .u8 2,.string name,.int .i64 na] w1 fun e w'=>e = .returned (.pointer (some ⟨cb,0,none⟩))∧Below w1.heap.size w1 w':=fun w1 k=>kfind_ok (hF.move (C':=C) (hs.trans (fun j hj=>k.block j (by have:=hC j hj;omega))) (fun _ h=>h))
 obtain ⟨T,u⟩:=x
 simp only [iv] at h ⊢
 go_enter Tryz.func63,Tryz.ntmps63
 go_wp2_with fail
 obtain ⟨wA,hA,kW,wp,wf,wx,wl⟩:=three_boxes w kn d (.pointer (some ⟨b,0,none⟩)) 169 ((T,u),none)
 simp only [iv] at hA
 obtain ⟨x0,x1,_,_,x4⟩:=wx.facts
 have a0:=wp.c0
 have a1:=wp.c1
 have a2:=wf.cell
 have a3:=(kW.cell (p:=⟨b,0,none⟩) n3).trans n0
 have a4:=(kW.cell (p:=⟨b,1,none⟩) n3).trans n1
 have s0:=eight ((Below.refl _ wA).drew) a0 a1 a2 a3 a4 x0 x1 x0
 rw [← hA]
 clear hA
 go_region_held3 (fun w'=>w'.cell? ⟨w.heap.size,0,none⟩=some (.pointer kn)∧w'.cell? ⟨w.heap.size,1,none⟩=some (.int .i64 d)∧w'.cell? ⟨w.heap.size+1,0,none⟩=some (.pointer (some ⟨b,0,none⟩))∧w'.cell? ⟨b,0,none⟩=some (.string name)∧w'.cell? ⟨b,1,none⟩=some (.slice p na c)∧w'.cell? ⟨w.heap.size+2,0,none⟩=some (.iface T u)∧w'.cell? ⟨w.heap.size+2,1,none⟩=some (.pointer none)∧w'.cell? ⟨w.heap.size+2,0,none⟩=some (.iface T u)) (first | exact s0 | exact e4 | go_keep)
  (first | (go_at_call 55;refine (hf _ kW.drew).mono ?_;rintro e w1 ⟨rfl,k1⟩;have kX:Below wA.heap.size wA w1:=(Below.refl _ _).drew.trans (k1.mono (by simp));have e4:=eight kX a0 a1 a2 a3 a4 x0 x1 x0))
 all_goals
  obtain ⟨b0,b1,b2,b3,b4,b5,b6,-⟩:=e4
  have hXs:=kX.size
  have hWs:=kW.size
  have hl1:w.heap.size+2 < w1.heap.size:=by omega
  have hl2:b < w1.heap.size:=by omega
  have kA:=kW.trans (kX.mono kW.size)
  go_wp2_with fail
  have HCL:=h w1.drew kA.drew
  have t0:=six ((Below.refl _ w1).drew) b0 b1 b2 b4 b5 b6
  go_region_held3 (fun w'=>w'.cell? ⟨w.heap.size,0,none⟩=some (.pointer kn)∧w'.cell? ⟨w.heap.size,1,none⟩=some (.int .i64 d)∧w'.cell? ⟨w.heap.size+1,0,none⟩=some (.pointer (some ⟨b,0,none⟩))∧w'.cell? ⟨b,1,none⟩=some (.slice p na c)∧w'.cell? ⟨w.heap.size+2,0,none⟩=some (.iface T u)∧w'.cell? ⟨w.heap.size+2,1,none⟩=some (.pointer none)) (first | exact t0 | exact f4 | go_keep)
   (first | (go_at_call 110;refine HCL.mono ?_;rintro e w2 ⟨k2,K,cap,rfl,hM⟩;have kY:Below w1.heap.size w1 w2:=(Below.refl _ _).drew.trans (k2.mono (by simp));have f4:=six kY b0 b1 b2 b4 b5 b6))
  all_goals
   go_wp2_with fail
   go_ret
   exact MadeC.under ⟨k2,K,cap,rfl,hM⟩ kA.drew
end Go.Proofs.Tryz
