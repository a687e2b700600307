import Derived.Test.YtfocepfmpnpaiaaGreatDoorYqc
import Derived.Test.YtfocepfmpnpaiaaGreatDoorYs6
import Derived.Deep.RegionHeld3
set_option linter.all false
namespace Go.Proofs.Tryz
set_option maxHeartbeats 16000000
open Go.RowKit
set_option maxRecDepth 10000
section
variable {w : World} {wb b : Nat} {s : Bs × Bool}
theorem pf_Field0 {n:ByteArray}{d:Nat} (hbw:b < wb) (c0:w.cell? ⟨b,0,none⟩=some (.iface 93 (.pointer (some ⟨d,0,none⟩)))) (c1:w.cell? ⟨b,1,none⟩=some (.string n)) (hn:n.size≠0) (hp:PlW w wb s) (hB:s.1.length+lenL [[46],n.data.toList]≤1000000000) :
  Calls Tryz.prog 43 #[.pointer (some ⟨wb,0,none⟩),.iface 108 (.pointer (some ⟨b,0,none⟩))] w (PutP wb s [[46],n.data.toList] w):=by
 have a0:=hitField;have a1:=hitIdentity
 simp [lenL_cons,lenL_nil,lenL_app] at hB
 have P0:=PS.start hp
 go_enter Tryz.func43,Tryz.ntmps43
 go_wp2_with fail
 refine Calls.mono (P0.put2 ⟨#[46]⟩ n (by decide) hn (by simp [lenL_cons,lenL_nil,lenL_app];omega)) ?_
 rintro e w1 ⟨rfl,P1⟩
 go_wp2_with fail
 go_end0
 exact P1.finish (by simp)
theorem pf_Field1 {n:ByteArray}{t0:Tn}{x0:Value} (hg:Gdt t0) (hk:kindT t0≠0) (hbw:b < wb) (c0:w.cell? ⟨b,0,none⟩=some x0) (r0:Rf (· < wb) w t0 x0) (c1:w.cell? ⟨b,1,none⟩=some (.string n)) (hn:n.size≠0) (f0:PrimOk t0) (hp:PlW w wb s) (hB:s.1.length+lenL (primT (kindT t0) (toksT t0) ++ [[46],n.data.toList])≤1000000000) :
  Calls Tryz.prog 43 #[.pointer (some ⟨wb,0,none⟩),.iface 108 (.pointer (some ⟨b,0,none⟩))] w (PutP wb s (primT (kindT t0) (toksT t0) ++ [[46],n.data.toList]) w):=by
 have a0:=hitField;have a1:=missIdentity
 obtain ⟨T0,d0,hT0,e0⟩:∃ T d,T≠93∧x0 = .iface T (.pointer (some ⟨d,0,none⟩)):=by
  obtain ⟨q,e,_,_⟩:=r0.shape
  exact ⟨_,q,(typF_ne ⟨kindT t0,hg.klt⟩).2.2.2 hk,e⟩
 subst e0
 have R0:Aside (Rf (· < wb) w t0 (.iface T0 (.pointer (some ⟨d0,0,none⟩)))):=r0
 have F0:Aside (PrimOk t0):=f0
 clear r0 f0
 simp [lenL_cons,lenL_nil,lenL_app] at hB
 have P0:=PS.start hp
 go_enter Tryz.func43,Tryz.ntmps43
 go_wp2_with fail
 refine Calls.mono (P0.prim F0.out R0.out (by simp [lenL_cons,lenL_nil,lenL_app];omega)) ?_
 rintro e w1 ⟨rfl,P1⟩
 have y1:=P1.cell hbw c1
 go_wp2_with fail
 refine Calls.mono (P1.put2 ⟨#[46]⟩ n (by decide) hn (by simp [lenL_cons,lenL_nil,lenL_app];omega)) ?_
 rintro e w2 ⟨rfl,P2⟩
 go_wp2_with fail
 go_end0
 exact P2.finish (by simp)
theorem fw_post {T:Nat}{l:List Bs} (hT:T=108∨T=109∨T=110∨T=111) (hc:Calls Tryz.prog 43 #[.pointer (some ⟨wb,0,none⟩),.iface T (.pointer (some ⟨b,0,none⟩))] w (PutP wb s l w)) :
  Calls Tryz.prog 23 #[.pointer (some ⟨wb,0,none⟩),.iface T (.pointer (some ⟨b,0,none⟩))] w (PutP wb s l w):=by
 have a0:=missIdentity;have a1:=missDescent;have a2:=missLiteral;have a3:=missVariable;have a4:=missBreak
 rcases hT with rfl | rfl | rfl | rfl
 ·have a5:=hitField;have a6:=missIndex;have a7:=missEach;have a8:=missOptional
  go_enter Tryz.func23,Tryz.ntmps23
  go_wp2_with fail
  refine Calls.mono hc ?_
  rintro e w1 ⟨rfl,h1,h2⟩
  go_wp2_with fail
  go_end0
  exact ⟨rfl,h1,h2⟩
 ·have a5:=missField;have a6:=hitIndex;have a7:=missEach;have a8:=missOptional
  go_enter Tryz.func23,Tryz.ntmps23
  go_wp2_with fail
  refine Calls.mono hc ?_
  rintro e w1 ⟨rfl,h1,h2⟩
  go_wp2_with fail
  go_end0
  exact ⟨rfl,h1,h2⟩
 ·have a5:=missField;have a6:=missIndex;have a7:=hitEach;have a8:=missOptional
  go_enter Tryz.func23,Tryz.ntmps23
  go_wp2_with fail
  refine Calls.mono hc ?_
  rintro e w1 ⟨rfl,h1,h2⟩
  go_wp2_with fail
  go_end0
  exact ⟨rfl,h1,h2⟩
 ·have a5:=missField;have a6:=missIndex;have a7:=missEach;have a8:=hitOptional
  go_enter Tryz.func23,Tryz.ntmps23
  go_wp2_with fail
  refine Calls.mono hc ?_
  rintro e w1 ⟨rfl,h1,h2⟩
  go_wp2_with fail
  go_end0
  exact ⟨rfl,h1,h2⟩
theorem fw_open {T:Nat}{l:List Bs} (hT:T=148∨T=170∨T=178∨T=172∨T=175∨T=138)
  (hc:∀ (w':World) (s':Bs×Bool),PlW w' wb s'→KpW wb w w'→s'.1.length+lenL l≤1000000000→Calls Tryz.prog 47 #[.pointer (some ⟨wb,0,none⟩),.iface T (.pointer (some ⟨b,0,none⟩))] w' (PutP wb s' l w')) (hp:PlW w wb s) (hB:s.1.length+lenL (brk l)≤1000000000) :
  Calls Tryz.prog 23 #[.pointer (some ⟨wb,0,none⟩),.iface T (.pointer (some ⟨b,0,none⟩))] w (PutP wb s (brk l) w):=by
 have a0:=missIdentity;have a1:=missDescent;have a2:=missLiteral;have a3:=missVariable;have a4:=missBreak;have a5:=missField;have a6:=missIndex;have a7:=missEach;have a8:=missOptional;have a9:=missCollect;have a10:=missBuild;have a11:=missCall;have a12:=missReduce;have a13:=missForeach;have a14:=missIf
 rw [lenL_brk] at hB
 have P0:=PS.start hp
 have HC:Aside (∀ (w':World) (s':Bs×Bool),PlW w' wb s'→KpW wb w w'→s'.1.length+lenL l≤1000000000→Calls Tryz.prog 47 #[.pointer (some ⟨wb,0,none⟩),.iface T (.pointer (some ⟨b,0,none⟩))] w' (PutP wb s' l w')):=hc
 clear hc
 rcases hT with rfl | rfl | rfl | rfl | rfl | rfl
 all_goals
  go_enter Tryz.func23,Tryz.ntmps23
  go_wp2_with fail
  refine Calls.mono (P0.put1 ⟨#[40]⟩ (by decide) (by simp [lenL_cons,lenL_nil];omega)) ?_
  rintro e w1 ⟨rfl,P1⟩
  go_wp2_with fail
  refine Calls.mono (HC.out w1 _ P1.pl P1.kp (P1.len _ (by simp [lenL_cons,lenL_nil,lenL_app];omega))) ?_
  intro e w2 h2
  obtain ⟨e2,P2⟩:=P1.next h2
  subst e2
  clear h2
  go_wp2_with fail
  refine Calls.mono (P2.put1 ⟨#[41]⟩ (by decide) (by simp [lenL_cons,lenL_nil,lenL_app];omega)) ?_
  rintro e w3 ⟨rfl,P3⟩
  go_wp2_with fail
  go_end0
  exact P3.finish (by simp [brk])
end
end Go.Proofs.Tryz
namespace Go.Proofs.Tryz
set_option maxHeartbeats 16000000
open Go.RowKit
set_option maxRecDepth 10000
section
variable {w : World} {wb b : Nat} {s : Bs × Bool}
theorem valV_shape {q:Nat×Int×ByteArray} (h:q.1≤4):∃ T u,valV q = .iface T u∧(u = .agg #[]∨(∃ b,u = .bool b)∨(∃ n,u = .int .i64 n)∨∃ x,u = .string x):=by
 unfold valV
 split
 ·exact ⟨_,_,rfl,.inl rfl⟩
 ·exact ⟨_,_,rfl,.inr (.inl ⟨_,rfl⟩)⟩
 ·exact ⟨_,_,rfl,.inr (.inl ⟨_,rfl⟩)⟩
 ·exact ⟨_,_,rfl,.inr (.inr (.inl ⟨_,rfl⟩))⟩
 ·exact ⟨_,_,rfl,.inr (.inr (.inr ⟨_,rfl⟩))⟩
theorem fw_Literal (hA:AppendsIntY) {q:Nat×Int×ByteArray} (hq:GVal q) (hbw:b < wb) (c0:w.cell? ⟨b,0,none⟩=some (valV q)) (hp:PlW w wb s) (hB:s.1.length+lenL [litB q]≤1000000000) :
  Calls Tryz.prog 23 #[.pointer (some ⟨wb,0,none⟩),.iface 96 (.pointer (some ⟨b,0,none⟩))] w (PutP wb s [litB q] w):=by
 have a0:=missIdentity;have a1:=missDescent;have a2:=hitLiteral
 have hw:=hp.lt
 have ht:Lib.TabBelow Tryz.prog w.heap.size w "internal/strconv.uint64pow10" .u64 Lib.pow10Tab:=by
  intro w2 h2
  exact hp.tab w2 (h2.mono (Nat.le_of_lt hw))
 have hcan:=Canon_lit hA hq ht
 have hne:litB q≠[]:=by
  obtain ⟨k,n,x⟩:=q
  have hk:k≤4:=hq.1
  match k,hk with
  | 0,_=>simp [litB]
  | 1,_=>simp [litB]
  | 2,_=>simp [litB]
  | 3,_ =>
   show Lib.itoa (digN x)≠[]
   exact itoaY_ne _
  | 4,_ =>
   show quoteY x.data.toList≠[]
   simp [quoteY]
 obtain ⟨L,hL⟩:∃ L,litB q=L:=⟨_,rfl⟩
 rw [hL] at hcan hB hne ⊢
 obtain ⟨T,u,hv,hu⟩:=valV_shape hq.1
 rw [hv] at c0 hcan
 have HC:Aside (Calls Tryz.prog 42 #[.iface T u] w fun e w'=>e = .returned (.string ⟨L.toArray⟩)∧Below w.heap.size w w'):=hcan
 have hne:Aside (L≠[]):=hne
 clear hL hv hcan hq
 have P0:=PS.start hp
 rcases hu with rfl | ⟨b0,rfl⟩ | ⟨n0,rfl⟩ | ⟨x0,rfl⟩
 all_goals
  go_enter Tryz.func23,Tryz.ntmps23
  go_wp2_with fail
  refine Calls.mono HC.out ?_
  rintro e w1 ⟨rfl,k1⟩
  have P1:=P0.below k1
  go_wp2_with fail
  refine Calls.mono (P1.put1 ⟨L.toArray⟩ (by have:=List.length_pos_iff.2 hne.out;rw [← bsize];simpa using hne.out) (by simpa using hB)) ?_
  rintro e w2 ⟨rfl,P2⟩
  go_wp2_with fail
  go_end0
  exact P2.finish (by simp)
end
end Go.Proofs.Tryz
namespace Go.Proofs.Tryz
set_option maxHeartbeats 16000000
open Go.RowKit
set_option maxRecDepth 10000
section
variable {w : World} {wb b : Nat} {s : Bs × Bool}
theorem pf_Index {t0:Tn}{x0:Value}{t1:Tn}{x1:Value} (hbw:b < wb) (c0:w.cell? ⟨b,0,none⟩=some x0) (r0:Rf (· < wb) w t0 x0) (c1:w.cell? ⟨b,1,none⟩=some x1) (r1:Rf (· < wb) w t1 x1) (f0:PrimOk t0) (f1:FilterOk t1) (hp:PlW w wb s) (hB:s.1.length+lenL (primT (kindT t0) (toksT t0) ++ ([[91]] ++ (toksT t1 ++ ([[93]]))))≤1000000000) :
  Calls Tryz.prog 43 #[.pointer (some ⟨wb,0,none⟩),.iface 109 (.pointer (some ⟨b,0,none⟩))] w (PutP wb s (primT (kindT t0) (toksT t0) ++ ([[91]] ++ (toksT t1 ++ ([[93]])))) w):=by
 have a0:=missField;have a1:=hitIndex;have a2:=missEach;have a3:=missOptional
 obtain ⟨T0,d0,e0⟩:∃ T d,x0 = .iface T (.pointer (some ⟨d,0,none⟩)):=by obtain ⟨q,e,_,_⟩:=r0.shape;exact ⟨_,q,e⟩
 subst e0
 have R0:Aside (Rf (· < wb) w t0 (.iface T0 (.pointer (some ⟨d0,0,none⟩)))):=r0
 clear r0
 obtain ⟨T1,d1,e1⟩:∃ T d,x1 = .iface T (.pointer (some ⟨d,0,none⟩)):=by obtain ⟨q,e,_,_⟩:=r1.shape;exact ⟨_,q,e⟩
 subst e1
 have R1:Aside (Rf (· < wb) w t1 (.iface T1 (.pointer (some ⟨d1,0,none⟩)))):=r1
 clear r1
 have F0:Aside (PrimOk t0):=f0
 clear f0
 have F1:Aside (FilterOk t1):=f1
 clear f1
 simp [lenL_cons,lenL_nil,lenL_app] at hB
 have P0:=PS.start hp
 go_enter Tryz.func43,Tryz.ntmps43
 go_wp2_with fail
 refine Calls.mono (P0.prim F0.out R0.out (by simp [lenL_cons,lenL_nil,lenL_app,dollar];omega)) ?_
 rintro e w1 ⟨rfl,P1⟩
 have y1_0:=P1.cell hbw c0
 have y1_1:=P1.cell hbw c1
 go_wp2_with fail
 refine Calls.mono (P1.put1 ⟨#[91]⟩ (by decide) (by simp [lenL_cons,lenL_nil,lenL_app,dollar];omega)) ?_
 rintro e w2 ⟨rfl,P2⟩
 have y2_0:=P2.cell hbw c0
 have y2_1:=P2.cell hbw c1
 go_wp2_with fail
 refine Calls.mono (P2.fil F1.out R1.out (by simp [lenL_cons,lenL_nil,lenL_app,dollar];omega)) ?_
 rintro e w3 ⟨rfl,P3⟩
 have y3_0:=P3.cell hbw c0
 have y3_1:=P3.cell hbw c1
 go_wp2_with fail
 refine Calls.mono (P3.put1 ⟨#[93]⟩ (by decide) (by simp [lenL_cons,lenL_nil,lenL_app,dollar];omega)) ?_
 rintro e w4 ⟨rfl,P4⟩
 have y4_0:=P4.cell hbw c0
 have y4_1:=P4.cell hbw c1
 go_wp2_with fail
 go_end0
 exact P4.finish (by simp [dollar])
theorem pf_Each {t0:Tn}{x0:Value} (hbw:b < wb) (c0:w.cell? ⟨b,0,none⟩=some x0) (r0:Rf (· < wb) w t0 x0) (f0:PrimOk t0) (hp:PlW w wb s) (hB:s.1.length+lenL (primT (kindT t0) (toksT t0) ++ ([[91],[93]]))≤1000000000) :
  Calls Tryz.prog 43 #[.pointer (some ⟨wb,0,none⟩),.iface 110 (.pointer (some ⟨b,0,none⟩))] w (PutP wb s (primT (kindT t0) (toksT t0) ++ ([[91],[93]])) w):=by
 have a0:=missField;have a1:=missIndex;have a2:=hitEach;have a3:=missOptional
 obtain ⟨T0,d0,e0⟩:∃ T d,x0 = .iface T (.pointer (some ⟨d,0,none⟩)):=by obtain ⟨q,e,_,_⟩:=r0.shape;exact ⟨_,q,e⟩
 subst e0
 have R0:Aside (Rf (· < wb) w t0 (.iface T0 (.pointer (some ⟨d0,0,none⟩)))):=r0
 clear r0
 have F0:Aside (PrimOk t0):=f0
 clear f0
 simp [lenL_cons,lenL_nil,lenL_app] at hB
 have P0:=PS.start hp
 go_enter Tryz.func43,Tryz.ntmps43
 go_wp2_with fail
 refine Calls.mono (P0.prim F0.out R0.out (by simp [lenL_cons,lenL_nil,lenL_app,dollar];omega)) ?_
 rintro e w1 ⟨rfl,P1⟩
 have y1_0:=P1.cell hbw c0
 go_wp2_with fail
 refine Calls.mono (P1.put2 ⟨#[91]⟩ ⟨#[93]⟩ (by decide) (by decide) (by simp [lenL_cons,lenL_nil,lenL_app,dollar];omega)) ?_
 rintro e w2 ⟨rfl,P2⟩
 have y2_0:=P2.cell hbw c0
 go_wp2_with fail
 go_end0
 exact P2.finish (by simp [dollar])
theorem pf_Optional {t0:Tn}{x0:Value} (hbw:b < wb) (c0:w.cell? ⟨b,0,none⟩=some x0) (r0:Rf (· < wb) w t0 x0) (f0:PrimOk t0) (hp:PlW w wb s) (hB:s.1.length+lenL (primT (kindT t0) (toksT t0) ++ ([[63]]))≤1000000000) :
  Calls Tryz.prog 43 #[.pointer (some ⟨wb,0,none⟩),.iface 111 (.pointer (some ⟨b,0,none⟩))] w (PutP wb s (primT (kindT t0) (toksT t0) ++ ([[63]])) w):=by
 have a0:=missField;have a1:=missIndex;have a2:=missEach;have a3:=hitOptional
 obtain ⟨T0,d0,e0⟩:∃ T d,x0 = .iface T (.pointer (some ⟨d,0,none⟩)):=by obtain ⟨q,e,_,_⟩:=r0.shape;exact ⟨_,q,e⟩
 subst e0
 have R0:Aside (Rf (· < wb) w t0 (.iface T0 (.pointer (some ⟨d0,0,none⟩)))):=r0
 clear r0
 have F0:Aside (PrimOk t0):=f0
 clear f0
 simp [lenL_cons,lenL_nil,lenL_app] at hB
 have P0:=PS.start hp
 go_enter Tryz.func43,Tryz.ntmps43
 go_wp2_with fail
 refine Calls.mono (P0.prim F0.out R0.out (by simp [lenL_cons,lenL_nil,lenL_app,dollar];omega)) ?_
 rintro e w1 ⟨rfl,P1⟩
 have y1_0:=P1.cell hbw c0
 go_wp2_with fail
 refine Calls.mono (P1.put1 ⟨#[63]⟩ (by decide) (by simp [lenL_cons,lenL_nil,lenL_app,dollar];omega)) ?_
 rintro e w2 ⟨rfl,P2⟩
 have y2_0:=P2.cell hbw c0
 go_wp2_with fail
 go_end0
 exact P2.finish (by simp [dollar])
end
end Go.Proofs.Tryz
namespace Go.Proofs.Tryz
set_option maxHeartbeats 16000000
open Go.RowKit
set_option maxRecDepth 10000
theorem GNm.ne {x:ByteArray} (h:GNm x):x.size≠0:=by
 rw [← bsize]
 intro e
 exact h.1 (List.length_eq_zero_iff.1 e)
theorem op_ne {x:ByteArray} (h:x.data.toList∈opsL):x.size≠0:=by
 rw [← bsize]
 intro e
 have:=List.length_eq_zero_iff.1 e
 rw [this] at h
 revert h
 decide
theorem toks_ask (s:String) (kind:Nat) (k:Nat→Tn):toksT (.ask s kind k)=tokN kind (payN (k 0)) (fun i=>toksT (k (i+1))) (fun i=>kindT (k (i+1))):=rfl
section
theorem fw_Build {w:World}{wb b:Nat}{s:Bs×Bool}{l:List Bs} (hc:Calls Tryz.prog 44 #[.pointer (some ⟨wb,0,none⟩),.pointer (some ⟨b,0,none⟩)] w (PutP wb s l w)) :
  Calls Tryz.prog 23 #[.pointer (some ⟨wb,0,none⟩),.iface 115 (.pointer (some ⟨b,0,none⟩))] w (PutP wb s l w):=by
 have a0:=missIdentity;have a1:=missDescent;have a2:=missLiteral;have a3:=missVariable;have a4:=missBreak;have a5:=missField;have a6:=missIndex;have a7:=missEach;have a8:=missOptional;have a9:=missCollect;have a10:=hitBuild
 go_enter Tryz.func23,Tryz.ntmps23
 go_wp2_with fail
 refine Calls.mono hc ?_
 rintro e w1 ⟨rfl,h1,h2⟩
 go_wp2_with fail
 go_end0
 exact ⟨rfl,h1,h2⟩
theorem filter_w (hA:AppendsIntY):∀ (t:Tn),Gdt t→FilterOk t
 | .done _,h=>h.elim
 | .ask nm kind k,⟨hg,hkids⟩=>by
  have ih:∀ i,i < (payN (k 0)).cnt→FilterOk (k (i+1)):=fun i hi=>filter_w hA (k (i+1)) (hkids i hi)
  have ip:∀ i,i < (payN (k 0)).cnt→PrimOk (k (i+1)):=fun i hi=>prim_ok (hkids i hi) (ih i hi)
  intro w wb v s hr hp hB
  rw [toks_ask] at hB ⊢
  obtain ⟨b,rfl,hbw,hlt,hc,hrow⟩:=hr
  have hbw:b < wb:=hbw
  rcases kind_cases hg.cnt with ⟨rfl,hq⟩ | ⟨rfl,hq⟩ | ⟨rfl,hq⟩ | ⟨rfl,hq⟩ | ⟨rfl,hq⟩ | ⟨rfl,hq⟩ | ⟨rfl,hq⟩ | ⟨rfl,hq⟩ | ⟨rfl,hq⟩ | ⟨rfl,hq⟩ | ⟨rfl,hq⟩ | ⟨rfl,hq⟩ | ⟨rfl,hq⟩ | ⟨rfl,hq⟩ | ⟨rfl,hq⟩ | ⟨rfl,hq⟩ | ⟨rfl,hq⟩ | ⟨rfl,hq⟩ | ⟨rfl,hq⟩ | ⟨rfl,hq⟩ | ⟨rfl,hq⟩
  ·exact fw_Identity hp hB
  ·exact fw_Descent hp hB
  ·obtain ⟨_,c0,rfl⟩:=hc 0 (.error (valV (payN (k 0)).val)) rfl
   exact fw_Literal hA (hg.val rfl) hbw c0 hp hB
  ·obtain ⟨_,c0,rfl⟩:=hc 0 (.error (.string (payN (k 0)).name)) rfl
   exact fw_Variable hbw c0 (hg.name rfl).ne hp hB
  ·obtain ⟨_,c0,rfl⟩:=hc 0 (.error (.string (payN (k 0)).name)) rfl
   exact fw_Break hbw c0 (hg.name rfl).ne hp hB
  ·obtain ⟨x0,c0,r0⟩:=hc 0 (.ok 0) rfl
   obtain ⟨_,c1,rfl⟩:=hc 1 (.error (.string (payN (k 0)).name)) rfl
   have hg0:=hkids 0 (by omega)
   by_cases hk0:kindT (k 1)=0
   ·have e0:tokN 5 (payN (k 0)) (fun i=>toksT (k (i+1))) (fun i=>kindT (k (i+1)))=[[46],(payN (k 0)).name.data.toList]:=by show (if kindT (k 1)=0 then [] else _) ++ _=_;rw [if_pos hk0];rfl
    rw [e0] at hB ⊢
    obtain ⟨d,e,_,_⟩:=r0.shape
    rw [hk0] at e
    rw [e] at c0
    exact fw_post (.inl rfl) (pf_Field0 hbw c0 c1 (hg.name rfl).ne hp hB)
   ·have e0:tokN 5 (payN (k 0)) (fun i=>toksT (k (i+1))) (fun i=>kindT (k (i+1)))=primT (kindT (k 1)) (toksT (k 1)) ++ [[46],(payN (k 0)).name.data.toList]:=by show (if kindT (k 1)=0 then [] else _) ++ _=_;rw [if_neg hk0]
    rw [e0] at hB ⊢
    exact fw_post (.inl rfl) (pf_Field1 hg0 hk0 hbw c0 r0 c1 (hg.name rfl).ne (ip 0 (by omega)) hp hB)
  ·obtain ⟨x0,c0,r0⟩:=hc 0 (.ok 0) rfl
   obtain ⟨x1,c1,r1⟩:=hc 1 (.ok 1) rfl
   exact fw_post (.inr (.inl rfl)) (pf_Index hbw c0 r0 c1 r1 (ip 0 (by omega)) (ih 1 (by omega)) hp hB)
  ·obtain ⟨x0,c0,r0⟩:=hc 0 (.ok 0) rfl
   exact fw_post (.inr (.inr (.inl rfl))) (pf_Each hbw c0 r0 (ip 0 (by omega)) hp hB)
  ·obtain ⟨x0,c0,r0⟩:=hc 0 (.ok 0) rfl
   exact fw_post (.inr (.inr (.inr rfl))) (pf_Optional hbw c0 r0 (ip 0 (by omega)) hp hB)
  ·by_cases h0:(payN (k 0)).cnt=0
   ·have e0:tokN 9 (payN (k 0)) (fun i=>toksT (k (i+1))) (fun i=>kindT (k (i+1)))=[[91],[93]]:=by show [91] :: ((if (payN (k 0)).cnt=0 then [] else _) ++ _)=_;rw [if_pos h0];rfl
    rw [e0] at hB ⊢
    obtain ⟨_,c0,rfl⟩:=hc 0 (.error .nilIface) (by show (if (payN (k 0)).cnt=0 then _ else _:List (Option Cd))[0]? = _;rw [if_pos h0];rfl)
    exact fw_Collect0 hbw c0 hp hB
   ·have e0:tokN 9 (payN (k 0)) (fun i=>toksT (k (i+1))) (fun i=>kindT (k (i+1)))=[91] :: (toksT (k 1) ++ [[93]]):=by show [91] :: ((if (payN (k 0)).cnt=0 then [] else _) ++ _)=_;rw [if_neg h0]
    rw [e0] at hB ⊢
    obtain ⟨x0,c0,r0⟩:=hc 0 (.ok 0) (by show (if (payN (k 0)).cnt=0 then _ else _:List (Option Cd))[0]? = _;rw [if_neg h0];rfl)
    exact fw_Collect1 hbw c0 r0 (ih 0 (by omega)) hp hB
  ·obtain ⟨r,vs,c0,ow,hgp,hlen,hv⟩:=hrow 0 _ _ _ _ rfl
   obtain ⟨a,cap,rfl,hra⟩:=row_of ow
   refine fw_Build (build_ok_w (k:=k) (names:=(payN (k 0)).names) rfl hg.fewn hbw c0 (fun i hi=>ih i (by omega)) (fun h0=>?_) hp hB)
   rcases hra with ⟨_,h1⟩ | ⟨d,rfl,hd,hdl,hcl⟩
   ·omega
   ·refine ⟨d,rfl,hgp d hd,fun i x hx=>?_⟩
    obtain ⟨v0,v2,⟨u1,v1,r1⟩,⟨u3,v3,r3⟩⟩:=mem_at (k:=k) hv (i:=i) (x:=x) hx
    obtain ⟨d1,e1,_,_⟩:=r1.shape
    obtain ⟨d3,e3,_,_⟩:=r3.shape
    rw [e1] at v1 r1
    rw [e3] at v3 r3
    refine ⟨hcl _ _ v0,hcl _ _ v2,⟨_,d1,hcl _ _ v1,r1⟩,⟨_,d3,hcl _ _ v3,r3⟩,?_⟩
    rw [← bsize]
    intro e
    have e:=List.length_eq_zero_iff.1 e
    rcases hg.mems rfl i x hx with h | ⟨_,_,h | ⟨h,_⟩⟩
    ·rw [h] at e;cases e
    ·rw [h] at e;cases e
    ·exact h.1 e
  ·obtain ⟨_,c0,rfl⟩:=hc 0 (.error (.string (payN (k 0)).name)) rfl
   obtain ⟨r,vs,c1,ow,hgp,hlen,hv⟩:=hrow 1 _ _ _ _ rfl
   have hnb:=fun d hd=>noB_row (d:=d) ow hd (by decide)
   obtain ⟨a,cap,rfl,hra⟩:=row_of ow
   by_cases h0:0 < (payN (k 0)).cnt
   ·have e0:tokN 11 (payN (k 0)) (fun i=>toksT (k (i+1))) (fun i=>kindT (k (i+1)))=(payN (k 0)).name.data.toList :: brk (semiT (payN (k 0)).cnt fun i=>toksT (k (i+1))):=by show _ :: (if 0 < (payN (k 0)).cnt then _ else [])=_;rw [if_pos h0]
    rw [e0] at hB ⊢
    rcases hra with ⟨_,h1⟩ | ⟨d,rfl,hd,hdl,hcl⟩
    ·omega
    ·exact fw_Call1 (f:=fun i=>k (i+1)) hbw c0 (hg.name rfl).ne c1 h0 hg.few ih (fun i hi=>by obtain ⟨x,hx,hr⟩:=hv i (.ok i) (by simp [hi]);exact ⟨x,hcl i x hx,hr⟩) (hnb d hd) (hgp d hd) hp hB
   ·have e0:tokN 11 (payN (k 0)) (fun i=>toksT (k (i+1))) (fun i=>kindT (k (i+1)))=[(payN (k 0)).name.data.toList]:=by show _ :: (if 0 < (payN (k 0)).cnt then _ else [])=_;rw [if_neg h0]
    rw [e0] at hB ⊢
    have h00:(payN (k 0)).cnt=0:=by omega
    rw [h00] at c1
    exact fw_Call0 hbw c0 (hg.name rfl).ne c1 hp hB
  ·obtain ⟨x0,c0,r0⟩:=hc 0 (.ok 0) rfl
   obtain ⟨_,c1,rfl⟩:=hc 1 (.error (.string (payN (k 0)).name)) rfl
   obtain ⟨x1,c2,r1⟩:=hc 2 (.ok 1) rfl
   refine fw_open (.inl rfl) (fun w' s' hp' kk hB'=>?_) hp hB
   exact op_Binary hbw ((kk.low.cell (p:=⟨b,0,none⟩) hbw).trans c0) (r0.keep (fun _ h _=>h) kk.low.size (fun b hb _=>kk.low.block b hb)) ((kk.low.cell (p:=⟨b,1,none⟩) hbw).trans c1) (op_ne (hg.op rfl)) ((kk.low.cell (p:=⟨b,2,none⟩) hbw).trans c2) (r1.keep (fun _ h _=>h) kk.low.size (fun b hb _=>kk.low.block b hb)) (ih 0 (by omega)) (ih 1 (by omega)) hp' hB'
  ·obtain ⟨x0,c0,r0⟩:=hc 0 (.ok 0) rfl
   refine fw_open (.inr (.inl rfl)) (fun w' s' hp' kk hB'=>?_) hp hB
   exact op_Minus hbw ((kk.low.cell (p:=⟨b,0,none⟩) hbw).trans c0) (r0.keep (fun _ h _=>h) kk.low.size (fun b hb _=>kk.low.block b hb)) (ih 0 (by omega)) hp' hB'
  ·rcases hq with hq | hq
   ·have e0:tokN 14 (payN (k 0)) (fun i=>toksT (k (i+1))) (fun i=>kindT (k (i+1)))=brk ([[116,114,121]] ++ toksT (k 1)):=by show brk ([116,114,121] :: (_ ++ (if (payN (k 0)).cnt=1 then [] else _)))=_;rw [if_pos hq];simp
    rw [e0] at hB ⊢
    obtain ⟨x0,c0,r0⟩:=hc 0 (.ok 0) (by show (if (payN (k 0)).cnt=1 then _ else _:List (Option Cd))[0]? = _;rw [if_pos hq];rfl)
    obtain ⟨_,c1,rfl⟩:=hc 1 (.error .nilIface) (by show (if (payN (k 0)).cnt=1 then _ else _:List (Option Cd))[1]? = _;rw [if_pos hq];rfl)
    refine fw_open (.inr (.inr (.inl rfl))) (fun w' s' hp' kk hB'=>?_) hp hB
    exact op_Try1 hbw ((kk.low.cell (p:=⟨b,0,none⟩) hbw).trans c0) (r0.keep (fun _ h _=>h) kk.low.size (fun b hb _=>kk.low.block b hb)) ((kk.low.cell (p:=⟨b,1,none⟩) hbw).trans c1) (ih 0 (by omega)) hp' hB'
   ·have e0:tokN 14 (payN (k 0)) (fun i=>toksT (k (i+1))) (fun i=>kindT (k (i+1)))=brk ([[116,114,121]] ++ (toksT (k 1) ++ ([[99,97,116,99,104]] ++ toksT (k 2)))):=by show brk ([116,114,121] :: (_ ++ (if (payN (k 0)).cnt=1 then [] else _)))=_;rw [if_neg (by omega)];simp
    rw [e0] at hB ⊢
    obtain ⟨x0,c0,r0⟩:=hc 0 (.ok 0) (by show (if (payN (k 0)).cnt=1 then _ else _:List (Option Cd))[0]? = _;rw [if_neg (by omega)];rfl)
    obtain ⟨x1,c1,r1⟩:=hc 1 (.ok 1) (by show (if (payN (k 0)).cnt=1 then _ else _:List (Option Cd))[1]? = _;rw [if_neg (by omega)];rfl)
    refine fw_open (.inr (.inr (.inl rfl))) (fun w' s' hp' kk hB'=>?_) hp hB
    exact op_Try2 hbw ((kk.low.cell (p:=⟨b,0,none⟩) hbw).trans c0) (r0.keep (fun _ h _=>h) kk.low.size (fun b hb _=>kk.low.block b hb)) ((kk.low.cell (p:=⟨b,1,none⟩) hbw).trans c1) (r1.keep (fun _ h _=>h) kk.low.size (fun b hb _=>kk.low.block b hb)) (ih 0 (by omega)) (ih 1 (by omega)) hp' hB'
  ·obtain ⟨x0,c0,r0⟩:=hc 0 (.ok 0) rfl
   obtain ⟨x1,c1,r1⟩:=hc 1 (.ok 1) rfl
   obtain ⟨x2,c2,r2⟩:=hc 2 (.ok 2) rfl
   exact fw_If hbw c0 r0 c1 r1 c2 r2 (ih 0 (by omega)) (ih 1 (by omega)) (ih 2 (by omega)) hp hB
  ·obtain ⟨x0,c0,r0⟩:=hc 0 (.ok 0) rfl
   obtain ⟨_,c1,rfl⟩:=hc 1 (.error (.string (payN (k 0)).name)) rfl
   obtain ⟨x1,c2,r1⟩:=hc 2 (.ok 1) rfl
   refine fw_open (.inr (.inr (.inr (.inl rfl)))) (fun w' s' hp' kk hB'=>?_) hp hB
   exact op_Bind hbw ((kk.low.cell (p:=⟨b,0,none⟩) hbw).trans c0) (r0.keep (fun _ h _=>h) kk.low.size (fun b hb _=>kk.low.block b hb)) ((kk.low.cell (p:=⟨b,1,none⟩) hbw).trans c1) (hg.name rfl).ne ((kk.low.cell (p:=⟨b,2,none⟩) hbw).trans c2) (r1.keep (fun _ h _=>h) kk.low.size (fun b hb _=>kk.low.block b hb)) (ip 0 (by omega)) (ih 1 (by omega)) hp' hB'
  ·obtain ⟨_,c0,rfl⟩:=hc 0 (.error (.string (payN (k 0)).name)) rfl
   obtain ⟨x0,c1,r0⟩:=hc 1 (.ok 0) rfl
   refine fw_open (.inr (.inr (.inr (.inr (.inl rfl))))) (fun w' s' hp' kk hB'=>?_) hp hB
   exact op_Label hbw ((kk.low.cell (p:=⟨b,0,none⟩) hbw).trans c0) (hg.name rfl).ne ((kk.low.cell (p:=⟨b,1,none⟩) hbw).trans c1) (r0.keep (fun _ h _=>h) kk.low.size (fun b hb _=>kk.low.block b hb)) (ih 0 (by omega)) hp' hB'
  ·have e2:(semiT 2 fun i=>toksT (k (i+1+1)))=toksT (k 2) ++ [59] :: toksT (k 3):=by simp [semiT,List.range,List.range.loop]
   have e0:tokN 18 (payN (k 0)) (fun i=>toksT (k (i+1))) (fun i=>kindT (k (i+1)))=[114,101,100,117,99,101] :: (primT (kindT (k 1)) (toksT (k 1)) ++ [97,115] :: (36 :: (payN (k 0)).name.data.toList) :: brk (toksT (k 2) ++ [59] :: toksT (k 3))):=by rw [← e2];rfl
   rw [e0] at hB ⊢
   obtain ⟨x0,c0,r0⟩:=hc 0 (.ok 0) rfl
   obtain ⟨_,c1,rfl⟩:=hc 1 (.error (.string (payN (k 0)).name)) rfl
   obtain ⟨x1,c2,r1⟩:=hc 2 (.ok 1) rfl
   obtain ⟨x2,c3,r2⟩:=hc 3 (.ok 2) rfl
   exact fw_Reduce hbw c0 r0 c1 c2 r1 c3 r2 (ip 0 (by omega)) (ih 1 (by omega)) (ih 2 (by omega)) hp hB
  ·have e2:(semiT 3 fun i=>toksT (k (i+1+1)))=toksT (k 2) ++ [59] :: (toksT (k 3) ++ [59] :: toksT (k 4)):=by simp [semiT,List.range,List.range.loop]
   have e0:tokN 19 (payN (k 0)) (fun i=>toksT (k (i+1))) (fun i=>kindT (k (i+1)))=[102,111,114,101,97,99,104] :: (primT (kindT (k 1)) (toksT (k 1)) ++ [97,115] :: (36 :: (payN (k 0)).name.data.toList) :: brk (toksT (k 2) ++ [59] :: (toksT (k 3) ++ [59] :: toksT (k 4)))):=by rw [← e2];rfl
   rw [e0] at hB ⊢
   obtain ⟨x0,c0,r0⟩:=hc 0 (.ok 0) rfl
   obtain ⟨_,c1,rfl⟩:=hc 1 (.error (.string (payN (k 0)).name)) rfl
   obtain ⟨x1,c2,r1⟩:=hc 2 (.ok 1) rfl
   obtain ⟨x2,c3,r2⟩:=hc 3 (.ok 2) rfl
   obtain ⟨x3,c4,r3⟩:=hc 4 (.ok 3) rfl
   exact fw_Foreach hbw c0 r0 c1 c2 r1 c3 r2 c4 r3 (ip 0 (by omega)) (ih 1 (by omega)) (ih 2 (by omega)) (ih 3 (by omega)) hp hB
  ·obtain ⟨_,c0,rfl⟩:=hc 0 (.error (.string (payN (k 0)).name)) rfl
   obtain ⟨r,vs,c1,ow,hgp,hlen,hv⟩:=hrow 1 _ _ _ _ rfl
   obtain ⟨a,cap,rfl,hra⟩:=row_of ow
   obtain ⟨x0,c2,r0⟩:=hc 2 (.ok 0) rfl
   obtain ⟨x1,c3,r1⟩:=hc 3 (.ok 1) rfl
   refine fw_open (.inr (.inr (.inr (.inr (.inr rfl))))) (fun w' s' hp' kk hB'=>?_) hp hB
   refine op_Def (l:=(payN (k 0)).names) hbw ((kk.low.cell (p:=⟨b,0,none⟩) hbw).trans c0) (hg.name rfl).ne ((kk.low.cell (p:=⟨b,1,none⟩) hbw).trans c1) ((kk.low.cell (p:=⟨b,2,none⟩) hbw).trans c2) (r0.keep (fun _ h _=>h) kk.low.size (fun b hb _=>kk.low.block b hb)) ((kk.low.cell (p:=⟨b,3,none⟩) hbw).trans c3) (r1.keep (fun _ h _=>h) kk.low.size (fun b hb _=>kk.low.block b hb)) (ih 0 (by omega)) (ih 1 (by omega)) hg.fewn (fun x hx=>(hg.names rfl x hx).ne) (fun h0=>?_) hp' hB'
   rcases hra with ⟨_,h1⟩ | ⟨d,rfl,hd,hdl,hcl⟩
   ·omega
   ·refine ⟨d,rfl,hgp d hd,fun i x hx=>?_⟩
    obtain ⟨_,h1,rfl⟩:=hv i (.error (.string x)) (by simp [hx])
    exact (kk.low.cell (p:=⟨d,i,none⟩) (hgp d hd)).trans (hcl i _ h1)
theorem plain_w (hA:AppendsIntY) {w:World}{v:Value}{t:Tn}{p:Nat→Prop} (hg:Gdt t) (hr:Rf p w t v) (hB:lenL (toksT t)≤1000000000) (hne:(putL ([],false) (toksT t)).1≠[]) (ht:Lib.TabBelow Tryz.prog w.heap.size w "internal/strconv.uint64pow10" .u64 Lib.pow10Tab) :
  Calls Tryz.prog 8 #[v] w fun e w'=>e = .returned (.string ⟨(putL ([],false) (toksT t)).1.toArray⟩)∧Below w.heap.size w w':=by
 have hr:Rf (· < w.heap.size) w t v:=hr.keep (fun _ _ hb=>hb) (Nat.le_refl _) (fun _ _ _=>rfl)
 obtain ⟨T,b,e⟩:∃ T d,v = .iface T (.pointer (some ⟨d,0,none⟩)):=by obtain ⟨q,e,_,_⟩:=hr.shape;exact ⟨_,q,e⟩
 subst e
 have kB:=below_alloc w (.cells #[.slice none 0 0,.bool false] 67)
 have hpl:PlW (w.alloc (.cells #[.slice none 0 0,.bool false] 67)) w.heap.size ([],false) :=
  ⟨⟨.slice none 0 0,heap_new _ _,World.ownsRow_nil _ _ _ _⟩,fun w2 h2=>ht w2 (kB.trans h2)⟩
 have hf:=filter_w hA t hg _ w.heap.size _ ([],false) (hr.keep (fun _ h _=>h) kB.size (fun b _ hb=>kB.block b hb)) hpl (by simpa using hB)
 obtain ⟨out,ho⟩:∃ out,putL ([],false) (toksT t)=out:=⟨_,rfl⟩
 rw [ho] at hne ⊢
 have hne:Aside (out.1≠[]):=hne
 have HO:Hid _:=ho
 clear ho
 go_enter Tryz.func8,Tryz.ntmps8
 go_wp2_with fail
 refine Calls.mono hf ?_
 rintro e w1 ⟨rfl,hP,hK⟩
 rw [HO.out] at hP
 obtain ⟨ov,hb,hown⟩:=hP.has
 obtain ⟨c0,c1,c2,c3,c4⟩:=wtwo hb
 obtain ⟨g,c,rfl,hc⟩:=owns_bytes hown hne.out
 have hcv:=run_convert_bytes_back (P:=Tryz.prog) w1 65 9 5 ⟨g,0,none⟩ c out.1 Tryz.underlying65 Tryz.underlying5 Tryz.underlying9 hc
 have hBB:Below w.heap.size w w1:=kB.trans hK.low
 go_wp2_with fail
 go_ret
 exact ⟨rfl,hBB⟩
end
end Go.Proofs.Tryz
