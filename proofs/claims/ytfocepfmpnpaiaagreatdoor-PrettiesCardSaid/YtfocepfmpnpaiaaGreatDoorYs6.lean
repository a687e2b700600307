import Derived.Test.YtfocepfmpnpaiaaGreatDoorYk3
import Derived.Test.YtfocepfmpnpaiaaGreatDoorYo6
set_option linter.all false
namespace Go.Proofs.Tryz
set_option maxHeartbeats 16000000
open Go.RowKit
set_option maxRecDepth 10000
section
variable {w : World} {wb b : Nat} {s : Bs × Bool}
theorem fw_Identity (hp:PlW w wb s) (hB:s.1.length+lenL [[46]]≤1000000000) :
  Calls Tryz.prog 23 #[.pointer (some ⟨wb,0,none⟩),.iface 93 (.pointer (some ⟨b,0,none⟩))] w (PutP wb s [[46]] w):=by
 have a0:=hitIdentity;have a1:=missDescent;have a2:=missLiteral;have a3:=missVariable;have a4:=missBreak;have a5:=missField;have a6:=missIndex;have a7:=missEach;have a8:=missOptional;have a9:=missCollect;have a10:=missBuild;have a11:=missCall;have a12:=missReduce;have a13:=missForeach;have a14:=missIf
 simp [lenL_cons,lenL_nil,lenL_app] at hB
 have P0:=PS.start hp
 go_enter Tryz.func23,Tryz.ntmps23
 go_wp2_with fail
 refine Calls.mono (P0.put1 ⟨#[46]⟩ (by decide) (by simp [lenL_cons,lenL_nil,lenL_app,dollar];omega)) ?_
 rintro e w1 ⟨rfl,P1⟩
 go_wp2_with fail
 go_end0
 exact P1.finish (by simp [dollar])
theorem fw_Descent (hp:PlW w wb s) (hB:s.1.length+lenL [[46,46]]≤1000000000) :
  Calls Tryz.prog 23 #[.pointer (some ⟨wb,0,none⟩),.iface 95 (.pointer (some ⟨b,0,none⟩))] w (PutP wb s [[46,46]] w):=by
 have a0:=missIdentity;have a1:=hitDescent;have a2:=missLiteral;have a3:=missVariable;have a4:=missBreak;have a5:=missField;have a6:=missIndex;have a7:=missEach;have a8:=missOptional;have a9:=missCollect;have a10:=missBuild;have a11:=missCall;have a12:=missReduce;have a13:=missForeach;have a14:=missIf
 simp [lenL_cons,lenL_nil,lenL_app] at hB
 have P0:=PS.start hp
 go_enter Tryz.func23,Tryz.ntmps23
 go_wp2_with fail
 refine Calls.mono (P0.put1 ⟨#[46,46]⟩ (by decide) (by simp [lenL_cons,lenL_nil,lenL_app,dollar];omega)) ?_
 rintro e w1 ⟨rfl,P1⟩
 go_wp2_with fail
 go_end0
 exact P1.finish (by simp [dollar])
theorem fw_Variable {n:ByteArray} (hbw:b < wb) (c0:w.cell? ⟨b,0,none⟩=some (.string n)) (hn:n.size≠0) (hp:PlW w wb s) (hB:s.1.length+lenL [(36 :: n.data.toList)]≤1000000000) :
  Calls Tryz.prog 23 #[.pointer (some ⟨wb,0,none⟩),.iface 102 (.pointer (some ⟨b,0,none⟩))] w (PutP wb s [(36 :: n.data.toList)] w):=by
 have a0:=missIdentity;have a1:=missDescent;have a2:=missLiteral;have a3:=hitVariable;have a4:=missBreak;have a5:=missField;have a6:=missIndex;have a7:=missEach;have a8:=missOptional;have a9:=missCollect;have a10:=missBuild;have a11:=missCall;have a12:=missReduce;have a13:=missForeach;have a14:=missIf
 simp [lenL_cons,lenL_nil,lenL_app] at hB
 have P0:=PS.start hp
 go_enter Tryz.func23,Tryz.ntmps23
 go_wp2_with fail
 refine Calls.mono (P0.put1 (⟨#[36]⟩ ++ n) (dollar_ne n) (by simp [lenL_cons,lenL_nil,lenL_app,dollar];omega)) ?_
 rintro e w1 ⟨rfl,P1⟩
 have y1_0:=P1.cell hbw c0
 go_wp2_with fail
 go_end0
 exact P1.finish (by simp [dollar])
theorem fw_Break {n:ByteArray} (hbw:b < wb) (c0:w.cell? ⟨b,0,none⟩=some (.string n)) (hn:n.size≠0) (hp:PlW w wb s) (hB:s.1.length+lenL [[98,114,101,97,107],(36 :: n.data.toList)]≤1000000000) :
  Calls Tryz.prog 23 #[.pointer (some ⟨wb,0,none⟩),.iface 105 (.pointer (some ⟨b,0,none⟩))] w (PutP wb s [[98,114,101,97,107],(36 :: n.data.toList)] w):=by
 have a0:=missIdentity;have a1:=missDescent;have a2:=missLiteral;have a3:=missVariable;have a4:=hitBreak;have a5:=missField;have a6:=missIndex;have a7:=missEach;have a8:=missOptional;have a9:=missCollect;have a10:=missBuild;have a11:=missCall;have a12:=missReduce;have a13:=missForeach;have a14:=missIf
 simp [lenL_cons,lenL_nil,lenL_app] at hB
 have P0:=PS.start hp
 go_enter Tryz.func23,Tryz.ntmps23
 go_wp2_with fail
 refine Calls.mono (P0.put2 ⟨#[98,114,101,97,107]⟩ (⟨#[36]⟩ ++ n) (by decide) (dollar_ne n) (by simp [lenL_cons,lenL_nil,lenL_app,dollar];omega)) ?_
 rintro e w1 ⟨rfl,P1⟩
 have y1_0:=P1.cell hbw c0
 go_wp2_with fail
 go_end0
 exact P1.finish (by simp [dollar])
theorem fw_Collect0 (hbw:b < wb) (c0:w.cell? ⟨b,0,none⟩=some .nilIface) (hp:PlW w wb s) (hB:s.1.length+lenL ([[91]] ++ ([[93]]))≤1000000000) :
  Calls Tryz.prog 23 #[.pointer (some ⟨wb,0,none⟩),.iface 112 (.pointer (some ⟨b,0,none⟩))] w (PutP wb s ([[91]] ++ ([[93]])) w):=by
 have a0:=missIdentity;have a1:=missDescent;have a2:=missLiteral;have a3:=missVariable;have a4:=missBreak;have a5:=missField;have a6:=missIndex;have a7:=missEach;have a8:=missOptional;have a9:=hitCollect;have a10:=missBuild;have a11:=missCall;have a12:=missReduce;have a13:=missForeach;have a14:=missIf
 simp [lenL_cons,lenL_nil,lenL_app] at hB
 have P0:=PS.start hp
 go_enter Tryz.func23,Tryz.ntmps23
 go_wp2_with fail
 refine Calls.mono (P0.put1 ⟨#[91]⟩ (by decide) (by simp [lenL_cons,lenL_nil,lenL_app,dollar];omega)) ?_
 rintro e w1 ⟨rfl,P1⟩
 have y1_0:=P1.cell hbw c0
 go_wp2_with fail
 refine Calls.mono (P1.put1 ⟨#[93]⟩ (by decide) (by simp [lenL_cons,lenL_nil,lenL_app,dollar];omega)) ?_
 rintro e w2 ⟨rfl,P2⟩
 have y2_0:=P2.cell hbw c0
 go_wp2_with fail
 go_end0
 exact P2.finish (by simp [dollar])
theorem fw_Collect1 {t0:Tn}{x0:Value} (hbw:b < wb) (c0:w.cell? ⟨b,0,none⟩=some x0) (r0:Rf (· < wb) w t0 x0) (f0:FilterOk t0) (hp:PlW w wb s) (hB:s.1.length+lenL ([[91]] ++ (toksT t0 ++ ([[93]])))≤1000000000) :
  Calls Tryz.prog 23 #[.pointer (some ⟨wb,0,none⟩),.iface 112 (.pointer (some ⟨b,0,none⟩))] w (PutP wb s ([[91]] ++ (toksT t0 ++ ([[93]]))) w):=by
 have a0:=missIdentity;have a1:=missDescent;have a2:=missLiteral;have a3:=missVariable;have a4:=missBreak;have a5:=missField;have a6:=missIndex;have a7:=missEach;have a8:=missOptional;have a9:=hitCollect;have a10:=missBuild;have a11:=missCall;have a12:=missReduce;have a13:=missForeach;have a14:=missIf
 obtain ⟨T0,d0,e0⟩:∃ T d,x0 = .iface T (.pointer (some ⟨d,0,none⟩)):=by obtain ⟨q,e,_,_⟩:=r0.shape;exact ⟨_,q,e⟩
 subst e0
 have R0:Aside (Rf (· < wb) w t0 (.iface T0 (.pointer (some ⟨d0,0,none⟩)))):=r0
 clear r0
 have F0:Aside (FilterOk t0):=f0
 clear f0
 simp [lenL_cons,lenL_nil,lenL_app] at hB
 have P0:=PS.start hp
 go_enter Tryz.func23,Tryz.ntmps23
 go_wp2_with fail
 refine Calls.mono (P0.put1 ⟨#[91]⟩ (by decide) (by simp [lenL_cons,lenL_nil,lenL_app,dollar];omega)) ?_
 rintro e w1 ⟨rfl,P1⟩
 have y1_0:=P1.cell hbw c0
 go_wp2_with fail
 refine Calls.mono (P1.fil F0.out R0.out (by simp [lenL_cons,lenL_nil,lenL_app,dollar];omega)) ?_
 rintro e w2 ⟨rfl,P2⟩
 have y2_0:=P2.cell hbw c0
 go_wp2_with fail
 refine Calls.mono (P2.put1 ⟨#[93]⟩ (by decide) (by simp [lenL_cons,lenL_nil,lenL_app,dollar];omega)) ?_
 rintro e w3 ⟨rfl,P3⟩
 have y3_0:=P3.cell hbw c0
 go_wp2_with fail
 go_end0
 exact P3.finish (by simp [dollar])
theorem fw_If {t0:Tn}{x0:Value}{t1:Tn}{x1:Value}{t2:Tn}{x2:Value} (hbw:b < wb) (c0:w.cell? ⟨b,0,none⟩=some x0) (r0:Rf (· < wb) w t0 x0) (c1:w.cell? ⟨b,1,none⟩=some x1) (r1:Rf (· < wb) w t1 x1) (c2:w.cell? ⟨b,2,none⟩=some x2) (r2:Rf (· < wb) w t2 x2) (f0:FilterOk t0) (f1:FilterOk t1) (f2:FilterOk t2) (hp:PlW w wb s) (hB:s.1.length+lenL ([[105,102]] ++ (toksT t0 ++ ([[116,104,101,110]] ++ (toksT t1 ++ ([[101,108,115,101]] ++ (toksT t2 ++ ([[101,110,100]])))))))≤1000000000) :
  Calls Tryz.prog 23 #[.pointer (some ⟨wb,0,none⟩),.iface 128 (.pointer (some ⟨b,0,none⟩))] w (PutP wb s ([[105,102]] ++ (toksT t0 ++ ([[116,104,101,110]] ++ (toksT t1 ++ ([[101,108,115,101]] ++ (toksT t2 ++ ([[101,110,100]]))))))) w):=by
 have a0:=missIdentity;have a1:=missDescent;have a2:=missLiteral;have a3:=missVariable;have a4:=missBreak;have a5:=missField;have a6:=missIndex;have a7:=missEach;have a8:=missOptional;have a9:=missCollect;have a10:=missBuild;have a11:=missCall;have a12:=missReduce;have a13:=missForeach;have a14:=hitIf
 obtain ⟨T0,d0,e0⟩:∃ T d,x0 = .iface T (.pointer (some ⟨d,0,none⟩)):=by obtain ⟨q,e,_,_⟩:=r0.shape;exact ⟨_,q,e⟩
 subst e0
 have R0:Aside (Rf (· < wb) w t0 (.iface T0 (.pointer (some ⟨d0,0,none⟩)))):=r0
 clear r0
 obtain ⟨T1,d1,e1⟩:∃ T d,x1 = .iface T (.pointer (some ⟨d,0,none⟩)):=by obtain ⟨q,e,_,_⟩:=r1.shape;exact ⟨_,q,e⟩
 subst e1
 have R1:Aside (Rf (· < wb) w t1 (.iface T1 (.pointer (some ⟨d1,0,none⟩)))):=r1
 clear r1
 obtain ⟨T2,d2,e2⟩:∃ T d,x2 = .iface T (.pointer (some ⟨d,0,none⟩)):=by obtain ⟨q,e,_,_⟩:=r2.shape;exact ⟨_,q,e⟩
 subst e2
 have R2:Aside (Rf (· < wb) w t2 (.iface T2 (.pointer (some ⟨d2,0,none⟩)))):=r2
 clear r2
 have F0:Aside (FilterOk t0):=f0
 clear f0
 have F1:Aside (FilterOk t1):=f1
 clear f1
 have F2:Aside (FilterOk t2):=f2
 clear f2
 simp [lenL_cons,lenL_nil,lenL_app] at hB
 have P0:=PS.start hp
 go_enter Tryz.func23,Tryz.ntmps23
 go_wp2_with fail
 refine Calls.mono (P0.put1 ⟨#[105,102]⟩ (by decide) (by simp [lenL_cons,lenL_nil,lenL_app,dollar];omega)) ?_
 rintro e w1 ⟨rfl,P1⟩
 have y1_0:=P1.cell hbw c0
 have y1_1:=P1.cell hbw c1
 have y1_2:=P1.cell hbw c2
 go_wp2_with fail
 refine Calls.mono (P1.fil F0.out R0.out (by simp [lenL_cons,lenL_nil,lenL_app,dollar];omega)) ?_
 rintro e w2 ⟨rfl,P2⟩
 have y2_0:=P2.cell hbw c0
 have y2_1:=P2.cell hbw c1
 have y2_2:=P2.cell hbw c2
 go_wp2_with fail
 refine Calls.mono (P2.put1 ⟨#[116,104,101,110]⟩ (by decide) (by simp [lenL_cons,lenL_nil,lenL_app,dollar];omega)) ?_
 rintro e w3 ⟨rfl,P3⟩
 have y3_0:=P3.cell hbw c0
 have y3_1:=P3.cell hbw c1
 have y3_2:=P3.cell hbw c2
 go_wp2_with fail
 refine Calls.mono (P3.fil F1.out R1.out (by simp [lenL_cons,lenL_nil,lenL_app,dollar];omega)) ?_
 rintro e w4 ⟨rfl,P4⟩
 have y4_0:=P4.cell hbw c0
 have y4_1:=P4.cell hbw c1
 have y4_2:=P4.cell hbw c2
 go_wp2_with fail
 refine Calls.mono (P4.put1 ⟨#[101,108,115,101]⟩ (by decide) (by simp [lenL_cons,lenL_nil,lenL_app,dollar];omega)) ?_
 rintro e w5 ⟨rfl,P5⟩
 have y5_0:=P5.cell hbw c0
 have y5_1:=P5.cell hbw c1
 have y5_2:=P5.cell hbw c2
 go_wp2_with fail
 refine Calls.mono (P5.fil F2.out R2.out (by simp [lenL_cons,lenL_nil,lenL_app,dollar];omega)) ?_
 rintro e w6 ⟨rfl,P6⟩
 have y6_0:=P6.cell hbw c0
 have y6_1:=P6.cell hbw c1
 have y6_2:=P6.cell hbw c2
 go_wp2_with fail
 refine Calls.mono (P6.put1 ⟨#[101,110,100]⟩ (by decide) (by simp [lenL_cons,lenL_nil,lenL_app,dollar];omega)) ?_
 rintro e w7 ⟨rfl,P7⟩
 have y7_0:=P7.cell hbw c0
 have y7_1:=P7.cell hbw c1
 have y7_2:=P7.cell hbw c2
 go_wp2_with fail
 go_end0
 exact P7.finish (by simp [dollar])
end
end Go.Proofs.Tryz
namespace Go.Proofs.Tryz
set_option maxHeartbeats 16000000
open Go.RowKit
set_option maxRecDepth 10000
section
variable {w : World} {wb b : Nat} {s : Bs × Bool}
theorem op_Binary {n:ByteArray}{t0:Tn}{x0:Value}{t1:Tn}{x1:Value} (hbw:b < wb) (c0:w.cell? ⟨b,0,none⟩=some x0) (r0:Rf (· < wb) w t0 x0) (c1:w.cell? ⟨b,1,none⟩=some (.string n)) (hn:n.size≠0) (c2:w.cell? ⟨b,2,none⟩=some x1) (r1:Rf (· < wb) w t1 x1) (f0:FilterOk t0) (f1:FilterOk t1) (hp:PlW w wb s) (hB:s.1.length+lenL (toksT t0 ++ ([n.data.toList] ++ (toksT t1)))≤1000000000) :
  Calls Tryz.prog 47 #[.pointer (some ⟨wb,0,none⟩),.iface 148 (.pointer (some ⟨b,0,none⟩))] w (PutP wb s (toksT t0 ++ ([n.data.toList] ++ (toksT t1))) w):=by
 have a0:=hitBinary;have a1:=missMinus;have a2:=missBind;have a3:=missLabel;have a4:=missTry;have a5:=missDef
 obtain ⟨T0,d0,e0⟩:∃ T d,x0 = .iface T (.pointer (some ⟨d,0,none⟩)):=by obtain ⟨q,e,_,_⟩:=r0.shape;exact ⟨_,q,e⟩
 subst e0
 have R0:Aside (Rf (· < wb) w t0 (.iface T0 (.pointer (some ⟨d0,0,none⟩)))):=r0
 clear r0
 obtain ⟨T1,d1,e1⟩:∃ T d,x1 = .iface T (.pointer (some ⟨d,0,none⟩)):=by obtain ⟨q,e,_,_⟩:=r1.shape;exact ⟨_,q,e⟩
 subst e1
 have R1:Aside (Rf (· < wb) w t1 (.iface T1 (.pointer (some ⟨d1,0,none⟩)))):=r1
 clear r1
 have F0:Aside (FilterOk t0):=f0
 clear f0
 have F1:Aside (FilterOk t1):=f1
 clear f1
 simp [lenL_cons,lenL_nil,lenL_app] at hB
 have P0:=PS.start hp
 go_enter Tryz.func47,Tryz.ntmps47
 go_wp2_with fail
 refine Calls.mono (P0.fil F0.out R0.out (by simp [lenL_cons,lenL_nil,lenL_app,dollar];omega)) ?_
 rintro e w1 ⟨rfl,P1⟩
 have y1_0:=P1.cell hbw c0
 have y1_1:=P1.cell hbw c1
 have y1_2:=P1.cell hbw c2
 go_wp2_with fail
 refine Calls.mono (P1.put1 n hn (by simp [lenL_cons,lenL_nil,lenL_app,dollar];omega)) ?_
 rintro e w2 ⟨rfl,P2⟩
 have y2_0:=P2.cell hbw c0
 have y2_1:=P2.cell hbw c1
 have y2_2:=P2.cell hbw c2
 go_wp2_with fail
 refine Calls.mono (P2.fil F1.out R1.out (by simp [lenL_cons,lenL_nil,lenL_app,dollar];omega)) ?_
 rintro e w3 ⟨rfl,P3⟩
 have y3_0:=P3.cell hbw c0
 have y3_1:=P3.cell hbw c1
 have y3_2:=P3.cell hbw c2
 go_wp2_with fail
 go_end0
 exact P3.finish (by simp [dollar])
theorem op_Minus {t0:Tn}{x0:Value} (hbw:b < wb) (c0:w.cell? ⟨b,0,none⟩=some x0) (r0:Rf (· < wb) w t0 x0) (f0:FilterOk t0) (hp:PlW w wb s) (hB:s.1.length+lenL ([[45]] ++ (toksT t0))≤1000000000) :
  Calls Tryz.prog 47 #[.pointer (some ⟨wb,0,none⟩),.iface 170 (.pointer (some ⟨b,0,none⟩))] w (PutP wb s ([[45]] ++ (toksT t0)) w):=by
 have a0:=missBinary;have a1:=hitMinus;have a2:=missBind;have a3:=missLabel;have a4:=missTry;have a5:=missDef
 obtain ⟨T0,d0,e0⟩:∃ T d,x0 = .iface T (.pointer (some ⟨d,0,none⟩)):=by obtain ⟨q,e,_,_⟩:=r0.shape;exact ⟨_,q,e⟩
 subst e0
 have R0:Aside (Rf (· < wb) w t0 (.iface T0 (.pointer (some ⟨d0,0,none⟩)))):=r0
 clear r0
 have F0:Aside (FilterOk t0):=f0
 clear f0
 simp [lenL_cons,lenL_nil,lenL_app] at hB
 have P0:=PS.start hp
 go_enter Tryz.func47,Tryz.ntmps47
 go_wp2_with fail
 refine Calls.mono (P0.put1 ⟨#[45]⟩ (by decide) (by simp [lenL_cons,lenL_nil,lenL_app,dollar];omega)) ?_
 rintro e w1 ⟨rfl,P1⟩
 have y1_0:=P1.cell hbw c0
 go_wp2_with fail
 refine Calls.mono (P1.fil F0.out R0.out (by simp [lenL_cons,lenL_nil,lenL_app,dollar];omega)) ?_
 rintro e w2 ⟨rfl,P2⟩
 have y2_0:=P2.cell hbw c0
 go_wp2_with fail
 go_end0
 exact P2.finish (by simp [dollar])
theorem op_Bind {n:ByteArray}{t0:Tn}{x0:Value}{t1:Tn}{x1:Value} (hbw:b < wb) (c0:w.cell? ⟨b,0,none⟩=some x0) (r0:Rf (· < wb) w t0 x0) (c1:w.cell? ⟨b,1,none⟩=some (.string n)) (hn:n.size≠0) (c2:w.cell? ⟨b,2,none⟩=some x1) (r1:Rf (· < wb) w t1 x1) (f0:PrimOk t0) (f1:FilterOk t1) (hp:PlW w wb s) (hB:s.1.length+lenL (primT (kindT t0) (toksT t0) ++ ([[97,115],(36 :: n.data.toList),[124]] ++ (toksT t1)))≤1000000000) :
  Calls Tryz.prog 47 #[.pointer (some ⟨wb,0,none⟩),.iface 172 (.pointer (some ⟨b,0,none⟩))] w (PutP wb s (primT (kindT t0) (toksT t0) ++ ([[97,115],(36 :: n.data.toList),[124]] ++ (toksT t1))) w):=by
 have a0:=missBinary;have a1:=missMinus;have a2:=hitBind;have a3:=missLabel;have a4:=missTry;have a5:=missDef
 obtain ⟨T0,d0,e0⟩:∃ T d,x0 = .iface T (.pointer (some ⟨d,0,none⟩)):=by obtain ⟨q,e,_,_⟩:=r0.shape;exact ⟨_,q,e⟩
 subst e0
 have R0:Aside (Rf (· < wb) w t0 (.iface T0 (.pointer (some ⟨d0,0,none⟩)))):=r0
 clear r0
 obtain ⟨T1,d1,e1⟩:∃ T d,x1 = .iface T (.pointer (some ⟨d,0,none⟩)):=by obtain ⟨q,e,_,_⟩:=r1.shape;exact ⟨_,q,e⟩
 subst e1
 have R1:Aside (Rf (· < wb) w t1 (.iface T1 (.pointer (some ⟨d1,0,none⟩)))):=r1
 clear r1
 have F0:Aside (PrimOk t0):=f0
 clear f0
 have F1:Aside (FilterOk t1):=f1
 clear f1
 simp [lenL_cons,lenL_nil,lenL_app] at hB
 have P0:=PS.start hp
 go_enter Tryz.func47,Tryz.ntmps47
 go_wp2_with fail
 refine Calls.mono (P0.prim F0.out R0.out (by simp [lenL_cons,lenL_nil,lenL_app,dollar];omega)) ?_
 rintro e w1 ⟨rfl,P1⟩
 have y1_0:=P1.cell hbw c0
 have y1_1:=P1.cell hbw c1
 have y1_2:=P1.cell hbw c2
 go_wp2_with fail
 refine Calls.mono (P1.put3 ⟨#[97,115]⟩ (⟨#[36]⟩ ++ n) ⟨#[124]⟩ (by decide) (dollar_ne n) (by decide) (by simp [lenL_cons,lenL_nil,lenL_app,dollar];omega)) ?_
 rintro e w2 ⟨rfl,P2⟩
 have y2_0:=P2.cell hbw c0
 have y2_1:=P2.cell hbw c1
 have y2_2:=P2.cell hbw c2
 go_wp2_with fail
 refine Calls.mono (P2.fil F1.out R1.out (by simp [lenL_cons,lenL_nil,lenL_app,dollar];omega)) ?_
 rintro e w3 ⟨rfl,P3⟩
 have y3_0:=P3.cell hbw c0
 have y3_1:=P3.cell hbw c1
 have y3_2:=P3.cell hbw c2
 go_wp2_with fail
 go_end0
 exact P3.finish (by simp [dollar])
theorem op_Label {n:ByteArray}{t0:Tn}{x0:Value} (hbw:b < wb) (c0:w.cell? ⟨b,0,none⟩=some (.string n)) (hn:n.size≠0) (c1:w.cell? ⟨b,1,none⟩=some x0) (r0:Rf (· < wb) w t0 x0) (f0:FilterOk t0) (hp:PlW w wb s) (hB:s.1.length+lenL ([[108,97,98,101,108],(36 :: n.data.toList),[124]] ++ (toksT t0))≤1000000000) :
  Calls Tryz.prog 47 #[.pointer (some ⟨wb,0,none⟩),.iface 175 (.pointer (some ⟨b,0,none⟩))] w (PutP wb s ([[108,97,98,101,108],(36 :: n.data.toList),[124]] ++ (toksT t0)) w):=by
 have a0:=missBinary;have a1:=missMinus;have a2:=missBind;have a3:=hitLabel;have a4:=missTry;have a5:=missDef
 obtain ⟨T0,d0,e0⟩:∃ T d,x0 = .iface T (.pointer (some ⟨d,0,none⟩)):=by obtain ⟨q,e,_,_⟩:=r0.shape;exact ⟨_,q,e⟩
 subst e0
 have R0:Aside (Rf (· < wb) w t0 (.iface T0 (.pointer (some ⟨d0,0,none⟩)))):=r0
 clear r0
 have F0:Aside (FilterOk t0):=f0
 clear f0
 simp [lenL_cons,lenL_nil,lenL_app] at hB
 have P0:=PS.start hp
 go_enter Tryz.func47,Tryz.ntmps47
 go_wp2_with fail
 refine Calls.mono (P0.put3 ⟨#[108,97,98,101,108]⟩ (⟨#[36]⟩ ++ n) ⟨#[124]⟩ (by decide) (dollar_ne n) (by decide) (by simp [lenL_cons,lenL_nil,lenL_app,dollar];omega)) ?_
 rintro e w1 ⟨rfl,P1⟩
 have y1_0:=P1.cell hbw c0
 have y1_1:=P1.cell hbw c1
 go_wp2_with fail
 refine Calls.mono (P1.fil F0.out R0.out (by simp [lenL_cons,lenL_nil,lenL_app,dollar];omega)) ?_
 rintro e w2 ⟨rfl,P2⟩
 have y2_0:=P2.cell hbw c0
 have y2_1:=P2.cell hbw c1
 go_wp2_with fail
 go_end0
 exact P2.finish (by simp [dollar])
theorem op_Try1 {t0:Tn}{x0:Value} (hbw:b < wb) (c0:w.cell? ⟨b,0,none⟩=some x0) (r0:Rf (· < wb) w t0 x0) (c1:w.cell? ⟨b,1,none⟩=some .nilIface) (f0:FilterOk t0) (hp:PlW w wb s) (hB:s.1.length+lenL ([[116,114,121]] ++ (toksT t0))≤1000000000) :
  Calls Tryz.prog 47 #[.pointer (some ⟨wb,0,none⟩),.iface 178 (.pointer (some ⟨b,0,none⟩))] w (PutP wb s ([[116,114,121]] ++ (toksT t0)) w):=by
 have a0:=missBinary;have a1:=missMinus;have a2:=missBind;have a3:=missLabel;have a4:=hitTry;have a5:=missDef
 obtain ⟨T0,d0,e0⟩:∃ T d,x0 = .iface T (.pointer (some ⟨d,0,none⟩)):=by obtain ⟨q,e,_,_⟩:=r0.shape;exact ⟨_,q,e⟩
 subst e0
 have R0:Aside (Rf (· < wb) w t0 (.iface T0 (.pointer (some ⟨d0,0,none⟩)))):=r0
 clear r0
 have F0:Aside (FilterOk t0):=f0
 clear f0
 simp [lenL_cons,lenL_nil,lenL_app] at hB
 have P0:=PS.start hp
 go_enter Tryz.func47,Tryz.ntmps47
 go_wp2_with fail
 refine Calls.mono (P0.put1 ⟨#[116,114,121]⟩ (by decide) (by simp [lenL_cons,lenL_nil,lenL_app,dollar];omega)) ?_
 rintro e w1 ⟨rfl,P1⟩
 have y1_0:=P1.cell hbw c0
 have y1_1:=P1.cell hbw c1
 go_wp2_with fail
 refine Calls.mono (P1.fil F0.out R0.out (by simp [lenL_cons,lenL_nil,lenL_app,dollar];omega)) ?_
 rintro e w2 ⟨rfl,P2⟩
 have y2_0:=P2.cell hbw c0
 have y2_1:=P2.cell hbw c1
 go_wp2_with fail
 go_end0
 exact P2.finish (by simp [dollar])
theorem op_Try2 {t0:Tn}{x0:Value}{t1:Tn}{x1:Value} (hbw:b < wb) (c0:w.cell? ⟨b,0,none⟩=some x0) (r0:Rf (· < wb) w t0 x0) (c1:w.cell? ⟨b,1,none⟩=some x1) (r1:Rf (· < wb) w t1 x1) (f0:FilterOk t0) (f1:FilterOk t1) (hp:PlW w wb s) (hB:s.1.length+lenL ([[116,114,121]] ++ (toksT t0 ++ ([[99,97,116,99,104]] ++ (toksT t1))))≤1000000000) :
  Calls Tryz.prog 47 #[.pointer (some ⟨wb,0,none⟩),.iface 178 (.pointer (some ⟨b,0,none⟩))] w (PutP wb s ([[116,114,121]] ++ (toksT t0 ++ ([[99,97,116,99,104]] ++ (toksT t1)))) w):=by
 have a0:=missBinary;have a1:=missMinus;have a2:=missBind;have a3:=missLabel;have a4:=hitTry;have a5:=missDef
 obtain ⟨T0,d0,e0⟩:∃ T d,x0 = .iface T (.pointer (some ⟨d,0,none⟩)):=by obtain ⟨q,e,_,_⟩:=r0.shape;exact ⟨_,q,e⟩
 subst e0
 have R0:Aside (Rf (· < wb) w t0 (.iface T0 (.pointer (some ⟨d0,0,none⟩)))):=r0
 clear r0
 obtain ⟨T1,d1,e1⟩:∃ T d,x1 = .iface T (.pointer (some ⟨d,0,none⟩)):=by obtain ⟨q,e,_,_⟩:=r1.shape;exact ⟨_,q,e⟩
 subst e1
 have R1:Aside (Rf (· < wb) w t1 (.iface T1 (.pointer (some ⟨d1,0,none⟩)))):=r1
 clear r1
 have F0:Aside (FilterOk t0):=f0
 clear f0
 have F1:Aside (FilterOk t1):=f1
 clear f1
 simp [lenL_cons,lenL_nil,lenL_app] at hB
 have P0:=PS.start hp
 go_enter Tryz.func47,Tryz.ntmps47
 go_wp2_with fail
 refine Calls.mono (P0.put1 ⟨#[116,114,121]⟩ (by decide) (by simp [lenL_cons,lenL_nil,lenL_app,dollar];omega)) ?_
 rintro e w1 ⟨rfl,P1⟩
 have y1_0:=P1.cell hbw c0
 have y1_1:=P1.cell hbw c1
 go_wp2_with fail
 refine Calls.mono (P1.fil F0.out R0.out (by simp [lenL_cons,lenL_nil,lenL_app,dollar];omega)) ?_
 rintro e w2 ⟨rfl,P2⟩
 have y2_0:=P2.cell hbw c0
 have y2_1:=P2.cell hbw c1
 go_wp2_with fail
 refine Calls.mono (P2.put1 ⟨#[99,97,116,99,104]⟩ (by decide) (by simp [lenL_cons,lenL_nil,lenL_app,dollar];omega)) ?_
 rintro e w3 ⟨rfl,P3⟩
 have y3_0:=P3.cell hbw c0
 have y3_1:=P3.cell hbw c1
 go_wp2_with fail
 refine Calls.mono (P3.fil F1.out R1.out (by simp [lenL_cons,lenL_nil,lenL_app,dollar];omega)) ?_
 rintro e w4 ⟨rfl,P4⟩
 have y4_0:=P4.cell hbw c0
 have y4_1:=P4.cell hbw c1
 go_wp2_with fail
 go_end0
 exact P4.finish (by simp [dollar])
end
end Go.Proofs.Tryz
namespace Go.Proofs.Tryz
set_option maxHeartbeats 16000000
open Go.RowKit
set_option maxRecDepth 10000
theorem toks_good:∀ (t:Tn),Gdt t→AllG (toksT t)∧toksT t≠[]
 | .done _,h=>h.elim
 | .ask nm kind k,⟨hg,hkids⟩=>by
  have ih:∀ i,i < (payN (k 0)).cnt→AllG (toksT (k (i+1))):=fun i hi=>(toks_good (k (i+1)) (hkids i hi)).1
  show AllG (tokN kind (payN (k 0)) (fun i=>toksT (k (i+1))) (fun i=>kindT (k (i+1))))∧tokN kind (payN (k 0)) (fun i=>toksT (k (i+1))) (fun i=>kindT (k (i+1)))≠[]
  rcases kind_cases hg.cnt with ⟨rfl,hq⟩ | ⟨rfl,hq⟩ | ⟨rfl,hq⟩ | ⟨rfl,hq⟩ | ⟨rfl,hq⟩ | ⟨rfl,hq⟩ | ⟨rfl,hq⟩ | ⟨rfl,hq⟩ | ⟨rfl,hq⟩ | ⟨rfl,hq⟩ | ⟨rfl,hq⟩ | ⟨rfl,hq⟩ | ⟨rfl,hq⟩ | ⟨rfl,hq⟩ | ⟨rfl,hq⟩ | ⟨rfl,hq⟩ | ⟨rfl,hq⟩ | ⟨rfl,hq⟩ | ⟨rfl,hq⟩ | ⟨rfl,hq⟩ | ⟨rfl,hq⟩
  ·exact ⟨.lit (by decide) .nil,by simp [tokN]⟩
  ·exact ⟨.lit (by decide) .nil,by simp [tokN]⟩
  ·exact ⟨.cons (gtk_litB (hg.val rfl)) .nil,by simp [tokN]⟩
  ·exact ⟨.var (hg.name rfl) .nil,by simp [tokN]⟩
  ·exact ⟨.lit (by decide) (.var (hg.name rfl) .nil),by simp [tokN]⟩
  ·refine ⟨.app ?_ (.lit (by decide) (.name (hg.name rfl) .nil)),by simp [tokN]⟩
   split
   ·exact .nil
   ·exact (ih 0 (by omega)).prim _
  ·exact ⟨.app ((ih 0 (by omega)).prim _) (.lit (by decide) (.app (ih 1 (by omega)) (.lit (by decide) .nil))),by simp [tokN]⟩
  ·exact ⟨.app ((ih 0 (by omega)).prim _) (.lit (by decide) (.lit (by decide) .nil)),by simp [tokN]⟩
  ·exact ⟨.app ((ih 0 (by omega)).prim _) (.lit (by decide) .nil),by simp [tokN]⟩
  ·refine ⟨.lit (by decide) (.app ?_ (.lit (by decide) .nil)),by simp [tokN]⟩
   split
   ·exact .nil
   ·exact (ih 0 (by omega))
  ·refine ⟨.lit (by decide) (.app (fun x hx=>?_) (.lit (by decide) .nil)),by simp [tokN]⟩
   unfold memsY at hx
   obtain ⟨j,hj,hx⟩:=List.mem_flatMap.1 hx
   have hj:=List.mem_range.1 hj
   have e:(payN (k 0)).names.getD j ⟨#[]⟩=(payN (k 0)).names[j]:=by simp [hj]
   rw [e] at hx
   have hm:=hg.mems rfl j _ (List.getElem?_eq_getElem hj)
   have h1:=ih (2 * j) (by omega)
   have h2:=ih (2 * j+1) (by omega)
   have:AllG (memY j (payN (k 0)).names[j] fun i=>toksT (k (i+1))):=by
    unfold memY
    refine .app ?_ (.app ?_ (.lit (by decide) h2))
    ·split
     ·exact .lit (by decide) .nil
     ·exact .nil
    ·unfold keyT
     split
     ·exact h1.brk
     ·rename_i n1
      split
      ·exact h1
      ·rename_i n2
       rcases hm with h | ⟨_,_,h | ⟨h,_⟩⟩
       ·exact absurd h n1
       ·exact absurd h n2
       ·exact .name h .nil
   exact this x hx
  ·refine ⟨.name (hg.name rfl) ?_,by simp [tokN]⟩
   split
   ·exact (AllG.semi fun i hi=>ih i hi).brk
   ·exact .nil
  ·exact ⟨(AllG.app (ih 0 (by omega)) (.cons (gtk_op (hg.op rfl)) (ih 1 (by omega)))).brk,by simp [tokN,brk]⟩
  ·exact ⟨(AllG.lit (by decide) (ih 0 (by omega))).brk,by simp [tokN,brk]⟩
  ·refine ⟨(AllG.lit (by decide) (.app (ih 0 (by omega)) ?_)).brk,by simp [tokN,brk]⟩
   split
   ·exact .nil
   ·exact .lit (by decide) (ih 1 (by omega))
  ·exact ⟨.lit (by decide) (.app (ih 0 (by omega)) (.lit (by decide) (.app (ih 1 (by omega)) (.lit (by decide) (.app (ih 2 (by omega)) (.lit (by decide) .nil)))))),by simp [tokN]⟩
  ·exact ⟨(AllG.app ((ih 0 (by omega)).prim _) (.lit (by decide) (.var (hg.name rfl) (.lit (by decide) (ih 1 (by omega)))))).brk,by simp [tokN,brk]⟩
  ·exact ⟨(AllG.lit (by decide) (.var (hg.name rfl) (.lit (by decide) (ih 0 (by omega))))).brk,by simp [tokN,brk]⟩
  ·exact ⟨.lit (by decide) (.app ((ih 0 (by omega)).prim _) (.lit (by decide) (.var (hg.name rfl) (AllG.semi fun i hi=>ih (i+1) (by omega)).brk))),by simp [tokN]⟩
  ·exact ⟨.lit (by decide) (.app ((ih 0 (by omega)).prim _) (.lit (by decide) (.var (hg.name rfl) (AllG.semi fun i hi=>ih (i+1) (by omega)).brk))),by simp [tokN]⟩
  ·refine ⟨(AllG.lit (by decide) (.name (hg.name rfl) (.app (.pars (hg.names rfl)) (.app ?_ (.lit (by decide) (.app (ih 0 (by omega)) (.lit (by decide) (ih 1 (by omega))))))))).brk,by simp [tokN,brk]⟩
   split
   ·exact .lit (by decide) .nil
   ·exact .nil
end Go.Proofs.Tryz
namespace Go.Proofs.Tryz
set_option maxHeartbeats 16000000
open Go.RowKit
set_option maxRecDepth 10000
def PlA (x:Bs) (a:World) (e:Ending) (w':World):Prop:=e = .returned (.string ⟨x.toArray⟩)∧Below a.heap.size a w'
abbrev TabW (w:World):Prop:=Lib.TabBelow Tryz.prog w.heap.size w "internal/strconv.uint64pow10" .u64 Lib.pow10Tab
theorem tab_up {a w:World} (h:TabW a) (k:Below a.heap.size a w):TabW w:=by
 intro w2 h2
 exact h w2 (k.trans (h2.mono k.size))
def RefOk (t:Tn):Prop:=∀ (p:Nat→Prop) (a w:World) (v:Value),Rn p a t v→TabW a→Below a.heap.size a w→lenL (toksT t)≤1000000000→Calls Tryz.prog 6 #[v] w (PlA (gl (toksT t)) a)
def BaseOk (t:Tn):Prop:=∀ (p:Nat→Prop) (a w:World) (v:Value),Rn p a t v→TabW a→Below a.heap.size a w→lenL (primT (kindT t) (toksT t))≤1000000000→Calls Tryz.prog 17 #[v] w (PlA (gl (primT (kindT t) (toksT t))) a)
theorem gl_len (l:List Bs):(gl l).length≤lenL l:=by
 have:=putL_len l ([],false)
 simpa [gl] using this
theorem sz (x:Bs):(⟨x.toArray⟩:ByteArray).size=x.length:=by rw [← bsize]
theorem Rn.view {p:Nat→Prop}{w:World}{s:String}{kind:Nat}{k:Nat→Tn}{v:Value} (h:Rn p w (.ask s kind k) v):∃ b a cap,v = .pointer (some ⟨b,0,none⟩)∧b < w.heap.size∧
  (∀ j u,(cellsN kind (payN (k 0)))[j]? = some u→w.cell? ⟨b,j,none⟩=some u)∧w.cell? ⟨b,7,none⟩=some (.slice a (payN (k 0)).cnt cap)∧
  (0 < (payN (k 0)).cnt→∃ d,a=some ⟨d,0,none⟩∧d < w.heap.size∧∀ i,i < (payN (k 0)).cnt→∃ q,w.cell? ⟨d,i,none⟩=some (.pointer (some ⟨q,0,none⟩))∧Rn p w (k (i+1)) (.pointer (some ⟨q,0,none⟩)))∧
  ∃ a' cap',w.cell? ⟨b,8,none⟩=some (.slice a' (parR kind (payN (k 0))).length cap')∧(0 < (parR kind (payN (k 0))).length→∃ d,a'=some ⟨d,0,none⟩∧d < w.heap.size∧∀ i x,(parR kind (payN (k 0)))[i]? = some x→w.cell? ⟨d,i,none⟩=some (.string x)):=by
 obtain ⟨b,rfl,_,hl,hc,⟨r,vs,h7,ow,_,hk⟩,r',h8,ow',_⟩:=h
 obtain ⟨a,cap,rfl,ha⟩:=row_of ow
 obtain ⟨a',cap',rfl,ha'⟩:=row_of ow'
 refine ⟨b,a,cap,rfl,hl,hc,h7,fun h0=>?_,a',cap',h8,fun h0=>?_⟩
 ·rcases ha with ⟨_,e⟩ | ⟨d,rfl,_,hd,hcl⟩
  ·omega
  ·refine ⟨d,rfl,hd,fun i hi=>?_⟩
   have hi':i < vs.length:=by have:=ow.1;omega
   have hx:=List.getElem?_eq_getElem hi'
   have hr:=hk i _ hx
   match hh:k (i+1),hr with
   | .ask _ _ _,hr =>
    obtain ⟨q,e,_⟩:=hr
    have hr:=hk i _ hx
    rw [e] at hx hr
    rw [hh] at hr
    exact ⟨q,hcl i _ hx,hr⟩
 ·rcases ha' with ⟨_,e⟩ | ⟨d,rfl,_,hd,hcl⟩
  ·omega
  ·refine ⟨d,rfl,hd,fun i x hx=>hcl i _ ?_⟩
   rw [List.getElem?_map,hx]
   rfl
theorem op_other {kind:Nat}{y:Pyl} (hk:kind < 21) (ho:kind=12→y.name.data.toList∈opsL):(kind≠15→((opR kind y).toList == [105,102])=false)∧(kind≠18→((opR kind y).toList == [114,101,100,117,99,101])=false)∧(kind≠19→((opR kind y).toList == [102,111,114,101,97,99,104])=false)∧(kind≠0→((opR kind y).toList == [46])=false):=by
 rw [ByteArray.toList_eq]
 by_cases h:kind=12
 ·subst h
  have e:(opR 12 y).data.toList=y.name.data.toList:=rfl
  rw [e]
  have:∀ x∈opsL,(x == [105,102])=false∧(x == [114,101,100,117,99,101])=false∧(x == [102,111,114,101,97,99,104])=false∧(x == [46])=false:=by decide
  have:=this _ (ho rfl)
  exact ⟨fun _=>this.1,fun _=>this.2.1,fun _=>this.2.2.1,fun _=>this.2.2.2⟩
 ·have:∀ k:Fin 21,k.1≠12→(k.1≠15→((opR k.1 Pyl.none).data.toList == [105,102])=false)∧(k.1≠18→((opR k.1 Pyl.none).data.toList == [114,101,100,117,99,101])=false)∧(k.1≠19→((opR k.1 Pyl.none).data.toList == [102,111,114,101,97,99,104])=false)∧(k.1≠0→((opR k.1 Pyl.none).data.toList == [46])=false):=by decide
  have e:opR kind y=opR kind Pyl.none:=by unfold opR;rw [if_neg h,if_neg h]
  rw [e]
  exact this ⟨kind,hk⟩ h
theorem Text_lit (hIt:ItoaAt) {v:Nat×Int×ByteArray} (hv:GVal v) {a w:World} (ht:TabW a) (kw:Below a.heap.size a w):Calls Tryz.prog 13 #[.agg (valR v).toArray] w (PlA (litB v) a):=by
 obtain ⟨k,n,x⟩:=v
 obtain ⟨hk,hd,hs⟩:=hv
 have hk:k≤4:=hk
 have ka:∀ o,Below a.heap.size a (w.alloc o):=fun o=>kw.alloc kw.size o
 have ka:Aside (∀ o,Below a.heap.size a (w.alloc o)):=ka
 have hx4:k=4→x.size≤2000:=hs
 have hx3:k=3→x.size≤18∧∀ c∈x.data.toList,isDigitB c=true:=fun e=>(hd e).2
 clear hd hs
 have tw:Aside (∀ o,TabW (w.alloc o)):=fun o=>tab_up ht (ka.out o)
 match k,hk with
 | 0,_ =>
  show Calls Tryz.prog 13 #[.agg #[.int .i64 0,.int .i64 0,.string ⟨#[]⟩,.slice none 0 0,.slice none 0 0]] w (PlA [110,117,108,108] a)
  go_enter Tryz.func13,Tryz.ntmps13
  go_wp2_with fail
  go_ret
  exact ⟨rfl,ka.out _⟩
 | 1,_ =>
  show Calls Tryz.prog 13 #[.agg #[.int .i64 1,.int .i64 0,.string ⟨#[]⟩,.slice none 0 0,.slice none 0 0]] w (PlA [102,97,108,115,101] a)
  go_enter Tryz.func13,Tryz.ntmps13
  go_wp2_with fail
  go_ret
  exact ⟨rfl,ka.out _⟩
 | 2,_ =>
  show Calls Tryz.prog 13 #[.agg #[.int .i64 2,.int .i64 0,.string ⟨#[]⟩,.slice none 0 0,.slice none 0 0]] w (PlA [116,114,117,101] a)
  go_enter Tryz.func13,Tryz.ntmps13
  go_wp2_with fail
  go_ret
  exact ⟨rfl,ka.out _⟩
 | 3,_ =>
  have hr:=digN_range (hx3 rfl).1 (hx3 rfl).2
  obtain ⟨m,hm⟩:∃ m,digN x=m:=⟨_,rfl⟩
  rw [hm] at hr
  have hm:Hid (digN x=m):=hm
  have e:(valR (3,n,x)).toArray = #[.int .i64 3,.int .i64 (digN x),.string ⟨#[]⟩,.slice none 0 0,.slice none 0 0]:=rfl
  have e2:litB (3,n,x)=Lib.itoa (digN x):=rfl
  rw [e,e2,hm.out]
  clear e e2 hx3 hx4
  go_enter Tryz.func13,Tryz.ntmps13
  go_wp2_with fail
  refine Calls.mono (hIt m _ (by omega) (by omega) (tw.out _)) ?_
  rintro e w1 ⟨rfl,k1⟩
  have kf:=(ka.out _).trans (k1.mono (ka.out _).size)
  go_wp2_with fail
  go_ret
  exact ⟨rfl,kf⟩
 | 4,_ =>
  have hx:=hx4 rfl
  have e:(valR (4,n,x)).toArray = #[.int .i64 4,.int .i64 0,.string x,.slice none 0 0,.slice none 0 0]:=rfl
  have e2:litB (4,n,x)=quoteY x.data.toList:=rfl
  rw [e,e2]
  clear e e2 hx3 hx4
  go_enter Tryz.func13,Tryz.ntmps13
  go_wp2_with fail
  refine Calls.mono (Quote_ok x _ hx) ?_
  rintro e w1 ⟨rfl,k1⟩
  have kf:=(ka.out _).trans (k1.mono (ka.out _).size)
  go_wp2_with fail
  go_ret
  exact ⟨rfl,kf⟩
theorem base_ok {t:Tn} (hg:Gdt t) (hf:RefOk t):BaseOk t:=by
 intro p a w v hr ht kw hB
 match t,hg,hf,hr,hB with
 | .ask nm kind k,hg,hf,hr,hB =>
  obtain ⟨b,aa,cap,rfl,hb,hc,_⟩:=hr.view
  have c0:a.cell? ⟨b,0,none⟩=some (.string (opR kind (payN (k 0)))):=hc 0 _ rfl
  have hkl:=kind_lt hg.1.cnt
  have hoo:=op_other (y:=payN (k 0)) hkl (fun e=>hg.1.op e)
  have HR:Aside (Rn p a (.ask nm kind k) (.pointer (some ⟨b,0,none⟩))):=hr
  have hB':lenL (primT kind (toksT (.ask nm kind k)))≤1000000000:=hB
  show Calls _ _ _ _ (PlA (gl (primT kind (toksT (.ask nm kind k)))) a)
  obtain ⟨l,hl⟩:∃ l,toksT (.ask nm kind k)=l:=⟨_,rfl⟩
  have hcall:∀ w,Below a.heap.size a w→lenL l≤1000000000→Calls Tryz.prog 6 #[.pointer (some ⟨b,0,none⟩)] w (PlA (gl l) a):=fun w k h=>by rw [← hl] at h ⊢;exact hf p a w _ HR.out ht k h
  have hcall:Aside (∀ w,Below a.heap.size a w→lenL l≤1000000000→Calls Tryz.prog 6 #[.pointer (some ⟨b,0,none⟩)] w (PlA (gl l) a)):=hcall
  rw [hl] at hB' ⊢
  clear hl hB hf hr hc hg ht
  unfold primT at hB' ⊢
  have hgl:=gl_len l
  have hsz:=sz (gl l)
  by_cases h15:kind=15∨kind=18∨kind=19
  ·rw [if_pos h15] at hB' ⊢
   rw [lenL_brk] at hB'
   have hfin:Hid (((⟨#[40]⟩:ByteArray) ++ (⟨(gl l).toArray⟩:ByteArray) ++ (⟨#[41]⟩:ByteArray))=⟨(gl (brk l)).toArray⟩):=ba_eq (by
    unfold brk
    rw [gl_cons rfl,gl_app (x:=[41]) rfl]
    simp [gl_nil])
   have h15':kind=15∨kind=18∨kind=19:=h15
   rcases h15' with rfl | rfl | rfl
   all_goals
    have c0':a.cell? ⟨b,0,none⟩=some (.string _):=c0
    clear c0 hoo
    simp only [opR] at c0'
    go_enter Tryz.func17,Tryz.ntmps17
    go_wp2_with fail
    refine Calls.mono (hcall.out w kw (by omega)) ?_
    rintro e w1 ⟨rfl,k1⟩
    have d0:=(k1.cell (p:=⟨b,0,none⟩) hb).trans c0'
    go_wp2_with fail
    go_ret
    exact ⟨by rw [← hfin.out];rfl,k1⟩
  ·rw [if_neg h15] at hB' ⊢
   have o1:=hoo.1 (fun e=>h15 (.inl e))
   have o2:=hoo.2.1 (fun e=>h15 (.inr (.inl e)))
   have o3:=hoo.2.2.1 (fun e=>h15 (.inr (.inr e)))
   obtain ⟨op,hop⟩:∃ op,opR kind (payN (k 0))=op:=⟨_,rfl⟩
   rw [hop] at c0 o1 o2 o3
   clear hop hoo h15
   go_enter Tryz.func17,Tryz.ntmps17
   go_wp2_with fail
   refine Calls.mono (hcall.out w kw (by omega)) ?_
   rintro e w1 ⟨rfl,k1⟩
   have d0:=(k1.cell (p:=⟨b,0,none⟩) hb).trans c0
   go_wp2_with fail
   go_ret
   exact ⟨rfl,k1⟩
end Go.Proofs.Tryz
namespace Go.Proofs.Tryz
set_option maxHeartbeats 16000000
open Go.RowKit
set_option maxRecDepth 10000
def HasT (f:Nat) (v:Value) (l:List Bs) (a:World):Prop:=∀ w,Below a.heap.size a w→Calls Tryz.prog f #[v] w (PlA (gl l) a)
section
variable {a w : World} {b d cap : Nat}
theorem bh_field0 {n:ByteArray}{q0:Nat}{l0:List Bs} (kw:Below a.heap.size a w) (hb:b < a.heap.size) (c0:a.cell? ⟨b,0,none⟩=some (.string ⟨#[102,105,101,108,100]⟩)) (c1:a.cell? ⟨b,1,none⟩=some (.string n)) (hn:n.size≤2000) (c7:a.cell? ⟨b,7,none⟩=some (.slice (some ⟨d,0,none⟩) 1 cap)) (hd:d < a.heap.size) (e0:a.cell? ⟨d,0,none⟩=some (.pointer (some ⟨q0,0,none⟩))) (h0:HasT 17 (.pointer (some ⟨q0,0,none⟩)) l0 a) (g0:lenL l0≤1000000000) (o0:a.cell? ⟨q0,0,none⟩=some (.string ⟨#[46]⟩)) (hq0:q0 < a.heap.size):Calls Tryz.prog 14 #[.pointer (some ⟨b,0,none⟩)] w (PlA (gl [[46],n.data.toList]) a):=by
 have H0:Aside (HasT 17 (.pointer (some ⟨q0,0,none⟩)) l0 a):=h0
 clear h0
 have s0:=gl_len l0
 have z0:=sz (gl l0)
 have hfin:Hid (((⟨#[46]⟩:ByteArray) ++ n)=⟨(gl [[46],n.data.toList]).toArray⟩):=ba_eq (by rw [gl_cons rfl,gl_one];simp)
 have u0:=(kw.cell (p:=⟨b,0,none⟩) hb).trans c0
 have u1:=(kw.cell (p:=⟨b,1,none⟩) hb).trans c1
 have u7:=(kw.cell (p:=⟨b,7,none⟩) hb).trans c7
 have ue0:=(kw.cell (p:=⟨d,0,none⟩) hd).trans e0
 go_enter Tryz.func14,Tryz.ntmps14
 go_wp2_with fail
 refine Calls.mono (H0.out w kw) ?_
 rintro e w1 ⟨rfl,k1⟩
 have yq:=(k1.cell (p:=⟨q0,0,none⟩) hq0).trans o0
 have y1_0:=(k1.cell (p:=⟨b,0,none⟩) hb).trans c0
 have y1_1:=(k1.cell (p:=⟨b,1,none⟩) hb).trans c1
 have y1_7:=(k1.cell (p:=⟨b,7,none⟩) hb).trans c7
 have y1_e0:=(k1.cell (p:=⟨d,0,none⟩) hd).trans e0
 go_wp2_with fail
 go_ret
 exact ⟨by rw [← hfin.out];rfl,k1⟩
theorem bh_field1 {n:ByteArray}{q0:Nat}{l0:List Bs} (kw:Below a.heap.size a w) (hb:b < a.heap.size) (c0:a.cell? ⟨b,0,none⟩=some (.string ⟨#[102,105,101,108,100]⟩)) (c1:a.cell? ⟨b,1,none⟩=some (.string n)) (hn:n.size≤2000) (c7:a.cell? ⟨b,7,none⟩=some (.slice (some ⟨d,0,none⟩) 1 cap)) (hd:d < a.heap.size) (e0:a.cell? ⟨d,0,none⟩=some (.pointer (some ⟨q0,0,none⟩))) (h0:HasT 17 (.pointer (some ⟨q0,0,none⟩)) l0 a) (g0:lenL l0≤1000000000) {op0:ByteArray} (o0:a.cell? ⟨q0,0,none⟩=some (.string op0)) (ho0:(op0.toList == [46])=false) (hq0:q0 < a.heap.size):Calls Tryz.prog 14 #[.pointer (some ⟨b,0,none⟩)] w (PlA (gl (l0 ++ [[46],n.data.toList])) a):=by
 have H0:Aside (HasT 17 (.pointer (some ⟨q0,0,none⟩)) l0 a):=h0
 clear h0
 have s0:=gl_len l0
 have z0:=sz (gl l0)
 have hfin:Hid (((⟨(gl l0).toArray⟩:ByteArray) ++ (⟨#[46]⟩:ByteArray) ++ n)=⟨(gl (l0 ++ [[46],n.data.toList])).toArray⟩):=ba_eq (by rw [gl_app rfl,gl_one];simp)
 have u0:=(kw.cell (p:=⟨b,0,none⟩) hb).trans c0
 have u1:=(kw.cell (p:=⟨b,1,none⟩) hb).trans c1
 have u7:=(kw.cell (p:=⟨b,7,none⟩) hb).trans c7
 have ue0:=(kw.cell (p:=⟨d,0,none⟩) hd).trans e0
 go_enter Tryz.func14,Tryz.ntmps14
 go_wp2_with fail
 refine Calls.mono (H0.out w kw) ?_
 rintro e w1 ⟨rfl,k1⟩
 have yq:=(k1.cell (p:=⟨q0,0,none⟩) hq0).trans o0
 have y1_0:=(k1.cell (p:=⟨b,0,none⟩) hb).trans c0
 have y1_1:=(k1.cell (p:=⟨b,1,none⟩) hb).trans c1
 have y1_7:=(k1.cell (p:=⟨b,7,none⟩) hb).trans c7
 have y1_e0:=(k1.cell (p:=⟨d,0,none⟩) hd).trans e0
 go_wp2_with fail
 go_ret
 exact ⟨by rw [← hfin.out];rfl,k1⟩
theorem bh_each {q0:Nat}{l0:List Bs} (kw:Below a.heap.size a w) (hb:b < a.heap.size) (c0:a.cell? ⟨b,0,none⟩=some (.string ⟨#[101,97,99,104]⟩)) (c7:a.cell? ⟨b,7,none⟩=some (.slice (some ⟨d,0,none⟩) 1 cap)) (hd:d < a.heap.size) (e0:a.cell? ⟨d,0,none⟩=some (.pointer (some ⟨q0,0,none⟩))) (h0:HasT 17 (.pointer (some ⟨q0,0,none⟩)) l0 a) (g0:lenL l0≤1000000000):Calls Tryz.prog 14 #[.pointer (some ⟨b,0,none⟩)] w (PlA (gl (l0 ++ [[91],[93]])) a):=by
 have H0:Aside (HasT 17 (.pointer (some ⟨q0,0,none⟩)) l0 a):=h0
 clear h0
 have s0:=gl_len l0
 have z0:=sz (gl l0)
 have hfin:Hid (((⟨(gl l0).toArray⟩:ByteArray) ++ (⟨#[91,93]⟩:ByteArray))=⟨(gl (l0 ++ [[91],[93]])).toArray⟩):=ba_eq (by rw [gl_app rfl,gl_one];simp)
 have u0:=(kw.cell (p:=⟨b,0,none⟩) hb).trans c0
 have u7:=(kw.cell (p:=⟨b,7,none⟩) hb).trans c7
 have ue0:=(kw.cell (p:=⟨d,0,none⟩) hd).trans e0
 go_enter Tryz.func14,Tryz.ntmps14
 go_wp2_with fail
 refine Calls.mono (H0.out w kw) ?_
 rintro e w1 ⟨rfl,k1⟩
 have y1_0:=(k1.cell (p:=⟨b,0,none⟩) hb).trans c0
 have y1_7:=(k1.cell (p:=⟨b,7,none⟩) hb).trans c7
 have y1_e0:=(k1.cell (p:=⟨d,0,none⟩) hd).trans e0
 go_wp2_with fail
 go_ret
 exact ⟨by rw [← hfin.out];rfl,k1⟩
theorem bh_index {q0:Nat}{l0:List Bs}{q1:Nat}{l1:List Bs} (kw:Below a.heap.size a w) (hb:b < a.heap.size) (c0:a.cell? ⟨b,0,none⟩=some (.string ⟨#[105,110,100,101,120]⟩)) (c7:a.cell? ⟨b,7,none⟩=some (.slice (some ⟨d,0,none⟩) 2 cap)) (hd:d < a.heap.size) (e0:a.cell? ⟨d,0,none⟩=some (.pointer (some ⟨q0,0,none⟩))) (e1:a.cell? ⟨d,1,none⟩=some (.pointer (some ⟨q1,0,none⟩))) (h0:HasT 17 (.pointer (some ⟨q0,0,none⟩)) l0 a) (g0:lenL l0≤1000000000) (h1:HasT 6 (.pointer (some ⟨q1,0,none⟩)) l1 a) (g1:lenL l1≤1000000000):Calls Tryz.prog 14 #[.pointer (some ⟨b,0,none⟩)] w (PlA (gl (l0 ++ [91] :: (l1 ++ [[93]]))) a):=by
 have H0:Aside (HasT 17 (.pointer (some ⟨q0,0,none⟩)) l0 a):=h0
 clear h0
 have s0:=gl_len l0
 have z0:=sz (gl l0)
 have H1:Aside (HasT 6 (.pointer (some ⟨q1,0,none⟩)) l1 a):=h1
 clear h1
 have s1:=gl_len l1
 have z1:=sz (gl l1)
 have hfin:Hid (((⟨(gl l0).toArray⟩:ByteArray) ++ (⟨#[91]⟩:ByteArray) ++ (⟨(gl l1).toArray⟩:ByteArray) ++ (⟨#[93]⟩:ByteArray))=⟨(gl (l0 ++ [91] :: (l1 ++ [[93]]))).toArray⟩):=ba_eq (by rw [gl_app rfl,gl_app rfl,gl_nil];simp)
 have u0:=(kw.cell (p:=⟨b,0,none⟩) hb).trans c0
 have u7:=(kw.cell (p:=⟨b,7,none⟩) hb).trans c7
 have ue0:=(kw.cell (p:=⟨d,0,none⟩) hd).trans e0
 have ue1:=(kw.cell (p:=⟨d,1,none⟩) hd).trans e1
 go_enter Tryz.func14,Tryz.ntmps14
 go_wp2_with fail
 refine Calls.mono (H0.out w kw) ?_
 rintro e w1 ⟨rfl,k1⟩
 have y1_0:=(k1.cell (p:=⟨b,0,none⟩) hb).trans c0
 have y1_7:=(k1.cell (p:=⟨b,7,none⟩) hb).trans c7
 have y1_e0:=(k1.cell (p:=⟨d,0,none⟩) hd).trans e0
 have y1_e1:=(k1.cell (p:=⟨d,1,none⟩) hd).trans e1
 go_wp2_with fail
 refine Calls.mono (H1.out w1 k1) ?_
 rintro e w2 ⟨rfl,k2⟩
 have y2_0:=(k2.cell (p:=⟨b,0,none⟩) hb).trans c0
 have y2_7:=(k2.cell (p:=⟨b,7,none⟩) hb).trans c7
 have y2_e0:=(k2.cell (p:=⟨d,0,none⟩) hd).trans e0
 have y2_e1:=(k2.cell (p:=⟨d,1,none⟩) hd).trans e1
 go_wp2_with fail
 go_ret
 exact ⟨by rw [← hfin.out];rfl,k2⟩
theorem bh_ask {q0:Nat}{l0:List Bs} (kw:Below a.heap.size a w) (hb:b < a.heap.size) (c0:a.cell? ⟨b,0,none⟩=some (.string ⟨#[63]⟩)) (c7:a.cell? ⟨b,7,none⟩=some (.slice (some ⟨d,0,none⟩) 1 cap)) (hd:d < a.heap.size) (e0:a.cell? ⟨d,0,none⟩=some (.pointer (some ⟨q0,0,none⟩))) (h0:HasT 17 (.pointer (some ⟨q0,0,none⟩)) l0 a) (g0:lenL l0≤1000000000):Calls Tryz.prog 14 #[.pointer (some ⟨b,0,none⟩)] w (PlA (gl (l0 ++ [[63]])) a):=by
 have H0:Aside (HasT 17 (.pointer (some ⟨q0,0,none⟩)) l0 a):=h0
 clear h0
 have s0:=gl_len l0
 have z0:=sz (gl l0)
 have hfin:Hid (((⟨(gl l0).toArray⟩:ByteArray) ++ (⟨#[63]⟩:ByteArray))=⟨(gl (l0 ++ [[63]])).toArray⟩):=ba_eq (by rw [gl_app rfl,gl_nil];simp)
 have u0:=(kw.cell (p:=⟨b,0,none⟩) hb).trans c0
 have u7:=(kw.cell (p:=⟨b,7,none⟩) hb).trans c7
 have ue0:=(kw.cell (p:=⟨d,0,none⟩) hd).trans e0
 go_enter Tryz.func14,Tryz.ntmps14
 go_wp2_with fail
 refine Calls.mono (H0.out w kw) ?_
 rintro e w1 ⟨rfl,k1⟩
 have y1_0:=(k1.cell (p:=⟨b,0,none⟩) hb).trans c0
 have y1_7:=(k1.cell (p:=⟨b,7,none⟩) hb).trans c7
 have y1_e0:=(k1.cell (p:=⟨d,0,none⟩) hd).trans e0
 go_wp2_with fail
 go_ret
 exact ⟨by rw [← hfin.out];rfl,k1⟩
theorem rp_dot (kw:Below a.heap.size a w) (hb:b < a.heap.size) (c0:a.cell? ⟨b,0,none⟩=some (.string ⟨#[46]⟩)):Calls Tryz.prog 6 #[.pointer (some ⟨b,0,none⟩)] w (PlA (gl [[46]]) a):=by
 have hfin:Hid ((⟨#[46]⟩:ByteArray)=⟨(gl [[46]]).toArray⟩):=ba_eq (by rw [gl_one])
 have u0:=(kw.cell (p:=⟨b,0,none⟩) hb).trans c0
 go_enter Tryz.func6,Tryz.ntmps6
 go_wp2_with fail
 go_ret
 exact ⟨by rw [← hfin.out];rfl,kw⟩
theorem rp_dots (kw:Below a.heap.size a w) (hb:b < a.heap.size) (c0:a.cell? ⟨b,0,none⟩=some (.string ⟨#[46,46]⟩)):Calls Tryz.prog 6 #[.pointer (some ⟨b,0,none⟩)] w (PlA (gl [[46,46]]) a):=by
 have hfin:Hid ((⟨#[46,46]⟩:ByteArray)=⟨(gl [[46,46]]).toArray⟩):=ba_eq (by rw [gl_one])
 have u0:=(kw.cell (p:=⟨b,0,none⟩) hb).trans c0
 go_enter Tryz.func6,Tryz.ntmps6
 go_wp2_with fail
 go_ret
 exact ⟨by rw [← hfin.out];rfl,kw⟩
theorem rp_var {n:ByteArray} (kw:Below a.heap.size a w) (hb:b < a.heap.size) (c0:a.cell? ⟨b,0,none⟩=some (.string ⟨#[118,97,114]⟩)) (c1:a.cell? ⟨b,1,none⟩=some (.string n)) (hn:n.size≤2000):Calls Tryz.prog 6 #[.pointer (some ⟨b,0,none⟩)] w (PlA (gl [36 :: n.data.toList]) a):=by
 have hfin:Hid (((⟨#[36]⟩:ByteArray) ++ n)=⟨(gl [36 :: n.data.toList]).toArray⟩):=ba_eq (by rw [gl_one];simp)
 have u0:=(kw.cell (p:=⟨b,0,none⟩) hb).trans c0
 have u1:=(kw.cell (p:=⟨b,1,none⟩) hb).trans c1
 go_enter Tryz.func6,Tryz.ntmps6
 go_wp2_with fail
 go_ret
 exact ⟨by rw [← hfin.out];rfl,kw⟩
theorem rp_break {n:ByteArray} (kw:Below a.heap.size a w) (hb:b < a.heap.size) (c0:a.cell? ⟨b,0,none⟩=some (.string ⟨#[98,114,101,97,107]⟩)) (c1:a.cell? ⟨b,1,none⟩=some (.string n)) (hn:n.size≤2000):Calls Tryz.prog 6 #[.pointer (some ⟨b,0,none⟩)] w (PlA (gl [[98,114,101,97,107],36 :: n.data.toList]) a):=by
 have hfin:Hid (((⟨#[98,114,101,97,107,32,36]⟩:ByteArray) ++ n)=⟨(gl [[98,114,101,97,107],36 :: n.data.toList]).toArray⟩):=ba_eq (by rw [gl_word rfl rfl,gl_one];simp)
 have u0:=(kw.cell (p:=⟨b,0,none⟩) hb).trans c0
 have u1:=(kw.cell (p:=⟨b,1,none⟩) hb).trans c1
 go_enter Tryz.func6,Tryz.ntmps6
 go_wp2_with fail
 go_ret
 exact ⟨by rw [← hfin.out];rfl,kw⟩
theorem rp_list {q0:Nat}{l0:List Bs} (kw:Below a.heap.size a w) (hb:b < a.heap.size) (c0:a.cell? ⟨b,0,none⟩=some (.string ⟨#[108,105,115,116]⟩)) (c7:a.cell? ⟨b,7,none⟩=some (.slice (some ⟨d,0,none⟩) 1 cap)) (hd:d < a.heap.size) (e0:a.cell? ⟨d,0,none⟩=some (.pointer (some ⟨q0,0,none⟩))) (h0:HasT 6 (.pointer (some ⟨q0,0,none⟩)) l0 a) (g0:lenL l0≤1000000000):Calls Tryz.prog 6 #[.pointer (some ⟨b,0,none⟩)] w (PlA (gl ([91] :: (l0 ++ [[93]]))) a):=by
 have H0:Aside (HasT 6 (.pointer (some ⟨q0,0,none⟩)) l0 a):=h0
 clear h0
 have s0:=gl_len l0
 have z0:=sz (gl l0)
 have hfin:Hid (((⟨#[91]⟩:ByteArray) ++ (⟨(gl l0).toArray⟩:ByteArray) ++ (⟨#[93]⟩:ByteArray))=⟨(gl ([91] :: (l0 ++ [[93]]))).toArray⟩):=ba_eq (by rw [gl_cons rfl,gl_app rfl,gl_nil];simp)
 have u0:=(kw.cell (p:=⟨b,0,none⟩) hb).trans c0
 have u7:=(kw.cell (p:=⟨b,7,none⟩) hb).trans c7
 have ue0:=(kw.cell (p:=⟨d,0,none⟩) hd).trans e0
 go_enter Tryz.func6,Tryz.ntmps6
 go_wp2_with fail
 refine Calls.mono (H0.out w kw) ?_
 rintro e w1 ⟨rfl,k1⟩
 have y1_0:=(k1.cell (p:=⟨b,0,none⟩) hb).trans c0
 have y1_7:=(k1.cell (p:=⟨b,7,none⟩) hb).trans c7
 have y1_e0:=(k1.cell (p:=⟨d,0,none⟩) hd).trans e0
 go_wp2_with fail
 go_ret
 exact ⟨by rw [← hfin.out];rfl,k1⟩
theorem in_neg {q0:Nat}{l0:List Bs} (kw:Below a.heap.size a w) (hb:b < a.heap.size) (c0:a.cell? ⟨b,0,none⟩=some (.string ⟨#[110,101,103]⟩)) (c7:a.cell? ⟨b,7,none⟩=some (.slice (some ⟨d,0,none⟩) 1 cap)) (hd:d < a.heap.size) (e0:a.cell? ⟨d,0,none⟩=some (.pointer (some ⟨q0,0,none⟩))) (h0:HasT 6 (.pointer (some ⟨q0,0,none⟩)) l0 a) (g0:lenL l0≤1000000000):Calls Tryz.prog 19 #[.pointer (some ⟨b,0,none⟩)] w (PlA (gl ([45] :: l0)) a):=by
 have H0:Aside (HasT 6 (.pointer (some ⟨q0,0,none⟩)) l0 a):=h0
 clear h0
 have s0:=gl_len l0
 have z0:=sz (gl l0)
 have hfin:Hid (((⟨#[45]⟩:ByteArray) ++ (⟨(gl l0).toArray⟩:ByteArray))=⟨(gl ([45] :: l0)).toArray⟩):=ba_eq (by rw [gl_cons rfl];simp)
 have u0:=(kw.cell (p:=⟨b,0,none⟩) hb).trans c0
 have u7:=(kw.cell (p:=⟨b,7,none⟩) hb).trans c7
 have ue0:=(kw.cell (p:=⟨d,0,none⟩) hd).trans e0
 go_enter Tryz.func19,Tryz.ntmps19
 go_wp2_with fail
 refine Calls.mono (H0.out w kw) ?_
 rintro e w1 ⟨rfl,k1⟩
 have y1_0:=(k1.cell (p:=⟨b,0,none⟩) hb).trans c0
 have y1_7:=(k1.cell (p:=⟨b,7,none⟩) hb).trans c7
 have y1_e0:=(k1.cell (p:=⟨d,0,none⟩) hd).trans e0
 go_wp2_with fail
 go_ret
 exact ⟨by rw [← hfin.out];rfl,k1⟩
theorem rp_list0 {r:Option Addr} (kw:Below a.heap.size a w) (hb:b < a.heap.size) (c0:a.cell? ⟨b,0,none⟩=some (.string ⟨#[108,105,115,116]⟩)) (c7:a.cell? ⟨b,7,none⟩=some (.slice r 0 cap)):Calls Tryz.prog 6 #[.pointer (some ⟨b,0,none⟩)] w (PlA (gl [[91],[93]]) a):=by
 have u0:=(kw.cell (p:=⟨b,0,none⟩) hb).trans c0
 have u7:=(kw.cell (p:=⟨b,7,none⟩) hb).trans c7
 have hfin:Hid ((⟨#[91,93]⟩:ByteArray)=⟨(gl [[91],[93]]).toArray⟩):=by show _=_;rfl
 go_enter Tryz.func6,Tryz.ntmps6
 go_wp2_with fail
 go_ret
 exact ⟨by rw [← hfin.out];rfl,kw⟩
theorem rp_behind {op:ByteArray}{l:List Bs} (hop:op.data.toList=[102,105,101,108,100]∨op.data.toList=[101,97,99,104]∨op.data.toList=[105,110,100,101,120]∨op.data.toList=[63]) (kw:Below a.heap.size a w) (hb:b < a.heap.size) (c0:a.cell? ⟨b,0,none⟩=some (.string op)) (h:HasT 14 (.pointer (some ⟨b,0,none⟩)) l a):Calls Tryz.prog 6 #[.pointer (some ⟨b,0,none⟩)] w (PlA (gl l) a):=by
 have H:Aside (HasT 14 (.pointer (some ⟨b,0,none⟩)) l a):=h
 clear h
 rcases hop with e | e | e | e
 all_goals
  rw [ba_eq e] at c0
  have u0:=(kw.cell (p:=⟨b,0,none⟩) hb).trans c0
  go_enter Tryz.func6,Tryz.ntmps6
  go_wp2_with fail
  refine Calls.mono (H.out w kw) ?_
  rintro e w1 ⟨rfl,k1⟩
  go_wp2_with fail
  go_ret
  exact ⟨rfl,k1⟩
theorem rp_val (hIt:ItoaAt) {v:Nat×Int×ByteArray} (hv:GVal v) (ht:TabW a) (kw:Below a.heap.size a w) (hb:b < a.heap.size) (c0:a.cell? ⟨b,0,none⟩=some (.string ⟨#[118,97,108]⟩)) (cv:∀ j u,(valR v)[j]? = some u→a.cell? ⟨b,j+2,none⟩=some u):Calls Tryz.prog 6 #[.pointer (some ⟨b,0,none⟩)] w (PlA (gl [litB v]) a):=by
 rw [gl_one]
 have hT:=Text_lit hIt hv ht kw
 have v0:=cv 0 _ rfl
 have v1:=cv 1 _ rfl
 have v2:=cv 2 _ rfl
 have v3:=cv 3 _ rfl
 have v4:=cv 4 _ rfl
 unfold valR at hT
 obtain ⟨x0,hx0⟩:∃ x,(if v.1=3 then digN v.2.2 else 0)=x:=⟨_,rfl⟩
 obtain ⟨x1,hx1⟩:∃ x,(if v.1=4 then v.2.2 else (⟨#[]⟩:ByteArray))=x:=⟨_,rfl⟩
 obtain ⟨x2,hx2⟩:∃ x,((v.1:Nat):Int)=x:=⟨_,rfl⟩
 obtain ⟨L,hL⟩:∃ L,litB v=L:=⟨_,rfl⟩
 rw [hx0,hx1,hx2,hL] at hT
 rw [hx2] at v0
 rw [hx0] at v1
 rw [hx1] at v2
 rw [hL]
 have hT:Aside (Calls Tryz.prog 13 #[.agg #[.int .i64 x2,.int .i64 x0,.string x1,.slice none 0 0,.slice none 0 0]] w (PlA L a)):=hT
 clear hx0 hx1 hx2 hL hv cv
 have u0:=(kw.cell (p:=⟨b,0,none⟩) hb).trans c0
 have u2:=(kw.cell (p:=⟨b,2,none⟩) hb).trans v0
 have u3:=(kw.cell (p:=⟨b,3,none⟩) hb).trans v1
 have u4:=(kw.cell (p:=⟨b,4,none⟩) hb).trans v2
 have u5:=(kw.cell (p:=⟨b,5,none⟩) hb).trans v3
 have u6:=(kw.cell (p:=⟨b,6,none⟩) hb).trans v4
 go_enter Tryz.func6,Tryz.ntmps6
 go_wp2_with fail
 refine Calls.mono hT.out ?_
 rintro e w1 ⟨rfl,k1⟩
 go_wp2_with fail
 go_ret
 exact ⟨rfl,k1⟩
end
end Go.Proofs.Tryz
