import Derived.Test.YtfocepfmpnpaiaaGreatDoorYc4
set_option linter.all false
namespace Go.Proofs.Tryz
set_option maxHeartbeats 16000000
open Go.RowKit
set_option maxRecDepth 10000
theorem condition_ok {P:Ps}{B:Nat} (hP:SndP P B) {w:World}{rb tb:Nat}{L:List Tok} (h:RdP w rb tb L) (hB:8 * L.length+5≤B) :
  Calls Tryz.prog 111 #[.pointer (some ⟨rb,0,none⟩)] w (Gv rb tb w L (ifS P L)):=by
 have hn:=(Nq.start h).own (.cells #[.nilIface,.nilIface,.nilIface] 130)
 have hc:=Cl.start w [.nilIface,.nilIface,.nilIface] 130
 go_enter Tryz.func111,Tryz.ntmps111
 go_wp2_with fail
 refine Calls.mono (hP.filter hn.rd (by omega)) ?_
 rintro e w1 ⟨v1,L1,rfl,o1,k1,r1,b1,s1,f1⟩
 have hc:=hc.call hn (.head _) k1
 have hn:=hn.item k1 r1 f1
 have x1:=cells_one o1
 have y1:=hc.store 0 o1 (by simp)
 go_wp2_with fail
 rw [y1]
 go_wp2_with fail
 have hn:=hn.set (o:=0) v1 (.head _)
 have hc:=hc.set 0 v1 (by simp)
 refine Calls.mono (expectQ hn.rd) ?_
 rintro e w2 ⟨rfl,L2,k2,r2,b2,f2,s2⟩
 have hc:=hc.call hn (.head _) k2
 have hn:=hn.call k2 r2
 go_wp2_with fail
 refine Calls.mono (hP.filter hn.rd (by omega)) ?_
 rintro e w3 ⟨v3,L3,rfl,o3,k3,r3,b3,s3,f3⟩
 have hc:=hc.call hn (.head _) k3
 have hn:=hn.item k3 r3 f3
 have x3:=cells_one o3
 have y3:=hc.store 1 o3 (by simp)
 go_wp2_with fail
 rw [y3]
 go_wp2_with fail
 have hn:=hn.set (o:=1) v3 (.head _)
 have hc:=hc.set 1 v3 (by simp)
 refine Calls.mono (expectQ hn.rd) ?_
 rintro e w4 ⟨rfl,L4,k4,r4,b4,f4,s4⟩
 have hc:=hc.call hn (.head _) k4
 have hn:=hn.call k4 r4
 go_wp2_with fail
 refine Calls.mono (hP.filter hn.rd (by omega)) ?_
 rintro e w5 ⟨v5,L5,rfl,o5,k5,r5,b5,s5,f5⟩
 have hc:=hc.call hn (.head _) k5
 have hn:=hn.item k5 r5 f5
 have x5:=cells_one o5
 have y5:=hc.store 2 o5 (by simp)
 go_wp2_with fail
 rw [y5]
 go_wp2_with fail
 have hn:=hn.set (o:=2) v5 (.head _)
 have hc:=hc.set 2 v5 (by simp)
 refine Calls.mono (expectQ hn.rd) ?_
 rintro e w6 ⟨rfl,L6,k6,r6,b6,f6,s6⟩
 have hc:=hc.call hn (.head _) k6
 have hn:=hn.call k6 r6
 go_wp2_with fail
 go_ret
 have t5:Sx L5 L6:=s6
 have t4:=s5.trans t5
 have t3:=s4.trans t4
 have t2:=s3.trans t3
 have t1:=s2.trans t2
 have t0:=s1.trans t1
 refine ⟨.iface (typF 15) (.pointer (some ⟨w.heap.size,0,none⟩)),L6,rfl,rfl,hn.kept,hn.rd,by omega,t0,?_⟩
 refine Fn.thn f1 (fun a1 e1 _=>Fn.thn f2 (fun _ _ _=>Fn.thn f3 (fun a3 e3 _=>Fn.thn f4 (fun _ _ _=>Fn.thn f5 (fun a5 e5 _=>Fn.thn f6 (fun _ _ _=>Fn.ok ?_) (Sx.refl _)) t5) t4) t3) t2) t1
 have hm:=hn.mine _ (.head _)
 exact Rf.mk hm.1 hm.2 rfl ⟨⟨_,(hc.cell 0).trans rfl,hn.kid (.tail _ (.tail _ (.head _))) e1⟩,⟨_,(hc.cell 1).trans rfl,hn.kid (.tail _ (.head _)) e3⟩,⟨_,(hc.cell 2).trans rfl,hn.kid (.head _) e5⟩,trivial⟩
end Go.Proofs.Tryz
namespace Go.Proofs.Tryz
set_option maxHeartbeats 16000000
open Go.RowKit
set_option maxRecDepth 10000
theorem acc_false {s:ByteArray}{L l:List Tok} (e:acc s L=(false,l)):l=L:=by
 unfold acc at e
 split at e
 ·split at e
  ·cases e
  ·cases e;rfl
 ·cases e;rfl
theorem acceptT {w:World}{rb tb:Nat}{L L1:List Tok}{s:ByteArray} (h:RdP w rb tb L) (e:acc s L=(true,L1)) :
  Calls Tryz.prog 37 #[.pointer (some ⟨rb,0,none⟩),.string s] w fun e w'=>e = .returned (.bool true)∧KeptB rb tb w w'∧RdP w' rb tb L1:=by
 have:=acceptQ (s:=s) h
 rwa [e] at this
theorem acceptF {w:World}{rb tb:Nat}{L L1:List Tok}{s:ByteArray} (h:RdP w rb tb L) (e:acc s L=(false,L1)) :
  Calls Tryz.prog 37 #[.pointer (some ⟨rb,0,none⟩),.string s] w fun e w'=>e = .returned (.bool false)∧KeptB rb tb w w'∧RdP w' rb tb L:=by
 have:=acceptQ (s:=s) h
 rw [e,acc_false e] at this
 exact this
theorem sx_acct {s:ByteArray}{L L1:List Tok} (e:acc s L=(true,L1)):Sx L L1:=fun k=>by rw [acc_one k] at e;cases e
def Gs (rb tb:Nat) (w:World) (L:List Tok) (x:Out (Tn×ByteArray)) (e:Ending) (w':World):Prop :=
 ∃ v n L',e = .returned (.tuple #[v,.string n])∧v.oneCell'=true∧KeptB rb tb w w'∧RdP w' rb tb L'∧L'.length≤L.length∧Sx L L'∧Fn x L' fun t=>Rf (w.heap.size≤·) w' t.1 v∧n=t.2
theorem source_ok {P:Ps}{B:Nat} (hP:SndP P B) {w:World}{rb tb:Nat}{L:List Tok} (h:RdP w rb tb L) (hB:8 * L.length+2≤B) :
  Calls Tryz.prog 128 #[.pointer (some ⟨rb,0,none⟩)] w (Gs rb tb w L (sourceS P L)):=by
 have hn:=Nq.start h
 have hfd:=field_text
 go_enter Tryz.func128,Tryz.ntmps128
 go_wp2_with fail
 refine Calls.mono (hP.post hn.rd (by omega)) ?_
 rintro e w1 ⟨v1,L1,rfl,o1,k1,r1,b1,s1,f1⟩
 have hn:=hn.item k1 r1 f1
 have x1:=cells_one o1
 have z1:=x1
 unfold Value.cells at z1
 go_wp2_with fail
 refine Calls.mono (expectQ hn.rd) ?_
 rintro e w2 ⟨rfl,L2,k2,r2,b2,f2,s2⟩
 have hn:=hn.call k2 r2
 go_wp2_with fail
 refine Calls.mono (expectKindQ hn.rd (by decide) (by decide)) ?_
 rintro e w3 ⟨c3,n3,p3,L3,rfl,k3,r3,b3,f3,s3⟩
 have hn:=hn.call k3 r3
 go_wp2_with fail
 refine Calls.mono (expectQ hn.rd) ?_
 rintro e w4 ⟨rfl,L4,k4,r4,b4,f4,s4⟩
 have hn:=hn.call k4 r4
 go_wp2_with fail
 go_ret2
 have t4:Sx L4 L4:=Sx.refl _
 have t3:Sx L3 L4:=s4.trans t4
 have t2:Sx L2 L4:=s3.trans t3
 have t1:Sx L1 L4:=s2.trans t2
 have t0:Sx L L4:=s1.trans t1
 refine ⟨v1,n3,L4,rfl,o1,hn.kept,hn.rd,by omega,t0,?_⟩
 exact Fn.thn f1 (fun a1 e1 g1=>Fn.thn f2 (fun a2 e2 g2=>Fn.thn f3 (fun a3 e3 g3=>Fn.thn f4 (fun a4 e4 g4=>Fn.ok ⟨hn.kid (.head _) e1,g3.1⟩) t4) t3) t2) t1
def fstO {α β:Type} (x:Out (α×β)):Out α:=match x with
 | .ok (a,l)=>.ok (a.1,l)
 | .error r=>.error r
theorem fst_ok {α β:Type}{x:Out (α×β)}{a:α×β}{l:List Tok} (h:x = .ok (a,l)):fstO x = .ok (a.1,l):=by subst h;rfl
theorem Fn.fst {α β:Type}{x:Out (α×β)}{L:List Tok}{g:α→Prop}{k:α×β→Prop} (h:Fn x L fun t=>g t.1∧k t):Fn (fstO x) L g:=by
 match x,h with
 | .ok (a,l),h=>exact ⟨h.1,h.2.1⟩
 | .error r,h=>exact h
theorem reduce_ok {P:Ps}{B:Nat} (hP:SndP P B) {w:World}{rb tb:Nat}{L:List Tok} (h:RdP w rb tb L) (hB:8 * L.length+5≤B) :
  Calls Tryz.prog 109 #[.pointer (some ⟨rb,0,none⟩)] w (Gv rb tb w L (reduceS P L)):=by
 have hn:=Nq.start h
 have hc:=Cl.start w [.nilIface,.string ⟨#[]⟩,.nilIface,.nilIface] 124
 have hn:=hn.own (.cells #[.nilIface,.string ⟨#[]⟩,.nilIface,.nilIface] 124)
 go_enter Tryz.func109,Tryz.ntmps109
 go_wp2_with fail
 refine Calls.mono (source_ok hP hn.rd (by omega)) ?_
 rintro e w1 ⟨v1,n1,L1,rfl,o1,k1,r1,b1,s1,f1⟩
 have f0:=Fn.fst (g:=fun t=>Rf (_≤·) w1 t v1) (k:=fun t=>n1=t.2) f1
 have hc:=hc.call hn (.head _) k1
 have hn:=hn.item k1 r1 f0
 have x1:=cells_one o1
 have y1:=hc.store 0 o1 (by simp)
 go_wp2_with fail
 rw [y1]
 have hn:=hn.set (o:=0) v1 (.head _)
 have hc:=hc.set 0 v1 (by simp)
 have q1:=hc.cell
 have q2:=hc.free
 go_wp2_with fail
 have hn:=hn.set (o:=1) (.string n1) (.head _)
 have hc:=hc.set 1 (.string n1) (by simp)
 refine Calls.mono (hP.filter hn.rd (by omega)) ?_
 rintro e w2 ⟨v2,L2,rfl,o2,k2,r2,b2,s2,f2⟩
 have hc:=hc.call hn (.head _) k2
 have hn:=hn.item k2 r2 f2
 have x2:=cells_one o2
 have z2:=x2
 unfold Value.cells at z2
 have y2:=hc.store1 2 o2 (by simp)
 go_wp2_with fail
 have hn:=hn.set (o:=2) v2 (.head _)
 have hc:=hc.set 2 v2 (by simp)
 refine Calls.mono (expectQ hn.rd) ?_
 rintro e w3 ⟨rfl,L3,k3,r3,b3,f3,s3⟩
 have hc:=hc.call hn (.head _) k3
 have hn:=hn.call k3 r3
 go_wp2_with fail
 refine Calls.mono (hP.filter hn.rd (by omega)) ?_
 rintro e w4 ⟨v4,L4,rfl,o4,k4,r4,b4,s4,f4⟩
 have hc:=hc.call hn (.head _) k4
 have hn:=hn.item k4 r4 f4
 have x4:=cells_one o4
 have z4:=x4
 unfold Value.cells at z4
 have y4:=hc.store1 3 o4 (by simp)
 go_wp2_with fail
 have hn:=hn.set (o:=3) v4 (.head _)
 have hc:=hc.set 3 v4 (by simp)
 refine Calls.mono (expectQ hn.rd) ?_
 rintro e w5 ⟨rfl,L5,k5,r5,b5,f5,s5⟩
 have hc:=hc.call hn (.head _) k5
 have hn:=hn.call k5 r5
 go_wp2_with fail
 go_ret
 have t5:Sx L5 L5:=Sx.refl _
 have t4:Sx L4 L5:=s5.trans t5
 have t3:Sx L3 L5:=s4.trans t4
 have t2:Sx L2 L5:=s3.trans t3
 have t1:Sx L1 L5:=s2.trans t2
 have t0:Sx L L5:=s1.trans t1
 refine ⟨.iface (typF 18) (.pointer (some ⟨w.heap.size,0,none⟩)),L5,rfl,rfl,hn.kept,hn.rd,by omega,t0,?_⟩
 refine Fn.thn f1 (fun a1 e1 g1=>Fn.thn f2 (fun a2 e2 g2=>Fn.thn f3 (fun a3 e3 g3=>Fn.thn f4 (fun a4 e4 g4=>Fn.thn f5 (fun a5 e5 g5=>Fn.ok ?_) t5) t4) t3) t2) t1
 have hm:=hn.mine _ (.head _)
 have e1f:=fst_ok e1
 exact Rf.mk hm.1 hm.2 rfl ⟨⟨_,(hc.cell 0).trans rfl,hn.kid (.tail _ (.tail _ (.head _))) e1f⟩,(hc.cell 1).trans (congrArg (fun x=>some (Value.string x)) g1.2),⟨_,(hc.cell 2).trans rfl,hn.kid (.tail _ (.head _)) e2⟩,⟨_,(hc.cell 3).trans rfl,hn.kid (.head _) e4⟩,trivial⟩
theorem foreach_ok {P:Ps}{B:Nat} (hP:SndP P B) {w:World}{rb tb:Nat}{L:List Tok} (h:RdP w rb tb L) (hB:8 * L.length+5≤B) :
  Calls Tryz.prog 110 #[.pointer (some ⟨rb,0,none⟩)] w (Gv rb tb w L (foreachS P L)):=by
 have hn:=Nq.start h
 have hc:=Cl.start w [.nilIface,.string ⟨#[]⟩,.nilIface,.nilIface,.nilIface] 127
 have hn:=hn.own (.cells #[.nilIface,.string ⟨#[]⟩,.nilIface,.nilIface,.nilIface] 127)
 go_enter Tryz.func110,Tryz.ntmps110
 go_wp2_with fail
 refine Calls.mono (source_ok hP hn.rd (by omega)) ?_
 rintro e w1 ⟨v1,n1,L1,rfl,o1,k1,r1,b1,s1,f1⟩
 have f0:=Fn.fst (g:=fun t=>Rf (_≤·) w1 t v1) (k:=fun t=>n1=t.2) f1
 have hc:=hc.call hn (.head _) k1
 have hn:=hn.item k1 r1 f0
 have x1:=cells_one o1
 have y1:=hc.store 0 o1 (by simp)
 go_wp2_with fail
 rw [y1]
 have hn:=hn.set (o:=0) v1 (.head _)
 have hc:=hc.set 0 v1 (by simp)
 have q1:=hc.cell
 have q2:=hc.free
 go_wp2_with fail
 have hn:=hn.set (o:=1) (.string n1) (.head _)
 have hc:=hc.set 1 (.string n1) (by simp)
 refine Calls.mono (hP.filter hn.rd (by omega)) ?_
 rintro e w2 ⟨v2,L2,rfl,o2,k2,r2,b2,s2,f2⟩
 have hc:=hc.call hn (.head _) k2
 have hn:=hn.item k2 r2 f2
 have x2:=cells_one o2
 have z2:=x2
 unfold Value.cells at z2
 have y2:=hc.store1 2 o2 (by simp)
 go_wp2_with fail
 have hn:=hn.set (o:=2) v2 (.head _)
 have hc:=hc.set 2 v2 (by simp)
 refine Calls.mono (expectQ hn.rd) ?_
 rintro e w3 ⟨rfl,L3,k3,r3,b3,f3,s3⟩
 have hc:=hc.call hn (.head _) k3
 have hn:=hn.call k3 r3
 go_wp2_with fail
 refine Calls.mono (hP.filter hn.rd (by omega)) ?_
 rintro e w4 ⟨v4,L4,rfl,o4,k4,r4,b4,s4,f4⟩
 have hc:=hc.call hn (.head _) k4
 have hn:=hn.item k4 r4 f4
 have x4:=cells_one o4
 have z4:=x4
 unfold Value.cells at z4
 have y4:=hc.store1 3 o4 (by simp)
 go_wp2_with fail
 have hn:=hn.set (o:=3) v4 (.head _)
 have hc:=hc.set 3 v4 (by simp)
 refine Calls.mono (expectQ hn.rd) ?_
 rintro e w5 ⟨rfl,L5,k5,r5,b5,f5,s5⟩
 have hc:=hc.call hn (.head _) k5
 have hn:=hn.call k5 r5
 go_wp2_with fail
 refine Calls.mono (hP.filter hn.rd (by omega)) ?_
 rintro e w6 ⟨v6,L6,rfl,o6,k6,r6,b6,s6,f6⟩
 have hc:=hc.call hn (.head _) k6
 have hn:=hn.item k6 r6 f6
 have x6:=cells_one o6
 have z6:=x6
 unfold Value.cells at z6
 have y6:=hc.store1 4 o6 (by simp)
 go_wp2_with fail
 have hn:=hn.set (o:=4) v6 (.head _)
 have hc:=hc.set 4 v6 (by simp)
 refine Calls.mono (expectQ hn.rd) ?_
 rintro e w7 ⟨rfl,L7,k7,r7,b7,f7,s7⟩
 have hc:=hc.call hn (.head _) k7
 have hn:=hn.call k7 r7
 go_wp2_with fail
 go_ret
 have t7:Sx L7 L7:=Sx.refl _
 have t6:Sx L6 L7:=s7.trans t7
 have t5:Sx L5 L7:=s6.trans t6
 have t4:Sx L4 L7:=s5.trans t5
 have t3:Sx L3 L7:=s4.trans t4
 have t2:Sx L2 L7:=s3.trans t3
 have t1:Sx L1 L7:=s2.trans t2
 have t0:Sx L L7:=s1.trans t1
 refine ⟨.iface (typF 19) (.pointer (some ⟨w.heap.size,0,none⟩)),L7,rfl,rfl,hn.kept,hn.rd,by omega,t0,?_⟩
 refine Fn.thn f1 (fun a1 e1 g1=>Fn.thn f2 (fun a2 e2 g2=>Fn.thn f3 (fun a3 e3 g3=>Fn.thn f4 (fun a4 e4 g4=>Fn.thn f5 (fun a5 e5 g5=>Fn.thn f6 (fun a6 e6 g6=>Fn.thn f7 (fun a7 e7 g7=>Fn.ok ?_) t7) t6) t5) t4) t3) t2) t1
 have hm:=hn.mine _ (.head _)
 have e1f:=fst_ok e1
 exact Rf.mk hm.1 hm.2 rfl ⟨⟨_,(hc.cell 0).trans rfl,hn.kid (.tail _ (.tail _ (.tail _ (.head _)))) e1f⟩,(hc.cell 1).trans (congrArg (fun x=>some (Value.string x)) g1.2),⟨_,(hc.cell 2).trans rfl,hn.kid (.tail _ (.tail _ (.head _))) e2⟩,⟨_,(hc.cell 3).trans rfl,hn.kid (.tail _ (.head _)) e4⟩,⟨_,(hc.cell 4).trans rfl,hn.kid (.head _) e6⟩,trivial⟩
end Go.Proofs.Tryz
namespace Go.Proofs.Tryz
set_option maxHeartbeats 16000000
open Go.RowKit
set_option maxRecDepth 10000
theorem txt_eq {a b:ByteArray} (h:a=b):some (Value.string a)=some (Value.string b):=by rw [h]
theorem pos_eq {a b:Int} (h:a=b):some (Value.int .i64 a)=some (Value.int .i64 b):=by rw [h]
theorem bound_label {P:Ps}{B:Nat} (hP:SndP P B) {w:World}{rb tb:Nat}{L:List Tok}{M0:List Tok} (h:RdP w rb tb L) (hB:8 * L.length+2≤B)  (d0:acc sLabel L=(true,M0)) :
  Calls Tryz.prog 88 #[.pointer (some ⟨rb,0,none⟩)] w (Gv rb tb w L (labelS P M0)):=by
  have hn:=Nq.start h
  have hfd:=field_text
  go_enter Tryz.func88,Tryz.ntmps88
  go_wp2_with fail
  refine Calls.mono (acceptT hn.rd d0) ?_
  rintro e w1 ⟨rfl,k1,r1⟩
  have b1:=acc_true d0
  have s1:=sx_acct d0
  have hn:=hn.call k1 r1
  go_wp2_with fail
  refine Calls.mono (expectKindQ hn.rd (by decide) (by decide)) ?_
  rintro e w2 ⟨c2,n2,p2,L2,rfl,k2,r2,b2,f2,s2⟩
  have hn:=hn.call k2 r2
  go_wp2_with fail
  refine Calls.mono (expectQ hn.rd) ?_
  rintro e w3 ⟨rfl,L3,k3,r3,b3,f3,s3⟩
  have hn:=hn.call k3 r3
  go_wp2_with fail
  refine Calls.mono (hP.oper 1 (by omega) (by omega) hn.rd (by omega)) ?_
  rintro e w4 ⟨v4,L4,rfl,o4,k4,r4,b4,s4,f4⟩
  have hn:=hn.item k4 r4 f4
  have x4:=cells_one o4
  have z4:=x4
  unfold Value.cells at z4
  go_wp2_with fail
  have hc:=Cl.start w4 [.string n2,v4] 177
  have hn:=hn.own (.cells #[.string n2,v4] 177)
  go_ret
  have t4:Sx L4 L4:=Sx.refl _
  have t3:Sx L3 L4:=s4.trans t4
  have t2:Sx L2 L4:=s3.trans t3
  have t1:Sx M0 L4:=s2.trans t2
  have t0:Sx L L4:=s1.trans t1
  refine ⟨.iface (typF 17) (.pointer (some ⟨w4.heap.size,0,none⟩)),L4,rfl,rfl,hn.kept,hn.rd,by omega,t0,?_⟩
  have hm:=hn.mine _ (.head _)
  exact Fn.thn f2 (fun a2 e2 g2=>Fn.thn f3 (fun a3 e3 g3=>Fn.thn f4 (fun a4 e4 g4=>Fn.ok (Rf.mk hm.1 hm.2 rfl ⟨(hc.cell 0).trans (txt_eq g2.1),⟨_,(hc.cell 1).trans rfl,hn.kid (.head _) e4⟩,trivial⟩)) t4) t3) t2
theorem bound_try {P:Ps}{B:Nat} (hP:SndP P B) {w:World}{rb tb:Nat}{L:List Tok}{M0 M1:List Tok} (h:RdP w rb tb L) (hB:8 * L.length+2≤B) (d0:acc sLabel L=(false,M0)) (d1:acc sTry L=(true,M1)) :
  Calls Tryz.prog 88 #[.pointer (some ⟨rb,0,none⟩)] w (Gv rb tb w L (tryS P M1)):=by
  have hn:=Nq.start h
  have hfd:=field_text
  go_enter Tryz.func88,Tryz.ntmps88
  go_wp2_with fail
  refine Calls.mono (acceptF hn.rd d0) ?_
  rintro e w1 ⟨rfl,k1,r1⟩
  have hn:=hn.call k1 r1
  go_wp2_with fail
  refine Calls.mono (acceptT hn.rd d1) ?_
  rintro e w2 ⟨rfl,k2,r2⟩
  have b2:=acc_true d1
  have s2:=sx_acct d1
  have hn:=hn.call k2 r2
  go_wp2_with fail
  refine Calls.mono (hP.minus hn.rd (by omega)) ?_
  rintro e w3 ⟨v3,L3,rfl,o3,k3,r3,b3,s3,f3⟩
  have hn:=hn.item k3 r3 f3
  have x3:=cells_one o3
  have z3:=x3
  unfold Value.cells at z3
  go_wp2_with fail
  have hc:=Cl.start w3 [v3,.nilIface] 180
  have hn:=hn.own (.cells #[v3,.nilIface] 180)
  cases d9:acc sCatch L3 with
  | mk b9 M9 =>
  cases b9 with
  | false =>
   refine Calls.mono (acceptF hn.rd d9) ?_
   rintro e w4 ⟨rfl,k4,r4⟩
   have hc:=hc.call hn (.head _) k4
   have hn:=hn.call k4 r4
   go_wp2_with fail
   go_ret
   have t3:Sx L3 L3:=Sx.refl _
   have t2:Sx M1 L3:=s3.trans t3
   have t0:Sx L L3:=s2.trans t2
   refine ⟨.iface (typF 14) (.pointer (some ⟨w3.heap.size,0,none⟩)),L3,rfl,rfl,hn.kept,hn.rd,by omega,t0,?_⟩
   have hm:=hn.mine _ (.head _)
   refine Fn.thn f3 (fun a3 e3 g3=>?_) t3
   simp only [d9]
   exact Fn.ok (Rf.mk hm.1 hm.2 rfl ⟨⟨_,(hc.cell 0).trans rfl,hn.kid (.head _) e3⟩,(hc.cell 1).trans rfl,trivial⟩)
  | true =>
   refine Calls.mono (acceptT hn.rd d9) ?_
   rintro e w4 ⟨rfl,k4,r4⟩
   have b4:=acc_true d9
   have s4:=sx_acct d9
   have hc:=hc.call hn (.head _) k4
   have hn:=hn.call k4 r4
   go_wp2_with fail
   refine Calls.mono (hP.minus hn.rd (by omega)) ?_
   rintro e w5 ⟨v5,L5,rfl,o5,k5,r5,b5,s5,f5⟩
   have hc:=hc.call hn (.head _) k5
   have hn:=hn.item k5 r5 f5
   have x5:=cells_one o5
   have z5:=x5
   unfold Value.cells at z5
   have y5:=hc.store1 1 o5 (by simp)
   go_wp2_with fail
   have hn:=hn.set (o:=1) v5 (.head _)
   have hc:=hc.set 1 v5 (by simp)
   go_ret
   have t5:Sx L5 L5:=Sx.refl _
   have t4:Sx M9 L5:=s5.trans t5
   have t3:Sx L3 L5:=s4.trans t4
   have t2:Sx M1 L5:=s3.trans t3
   have t0:Sx L L5:=s2.trans t2
   refine ⟨.iface (typF 14) (.pointer (some ⟨w3.heap.size,0,none⟩)),L5,rfl,rfl,hn.kept,hn.rd,by omega,t0,?_⟩
   have hm:=hn.mine _ (.head _)
   refine Fn.thn f3 (fun a3 e3 g3=>?_) t3
   simp only [d9]
   exact Fn.thn f5 (fun a5 e5 g5=>Fn.ok (Rf.mk hm.1 hm.2 rfl ⟨⟨_,(hc.cell 0).trans rfl,hn.kid (.tail _ (.head _)) e3⟩,⟨_,(hc.cell 1).trans rfl,hn.kid (.head _) e5⟩,trivial⟩)) t5
theorem bound_reduce {P:Ps}{B:Nat} (hP:SndP P B) {w:World}{rb tb:Nat}{L:List Tok}{M0 M1 M2:List Tok} (h:RdP w rb tb L) (hB:8 * L.length+2≤B) (d0:acc sLabel L=(false,M0)) (d1:acc sTry L=(false,M1)) (d2:acc sReduce L=(true,M2)) :
  Calls Tryz.prog 88 #[.pointer (some ⟨rb,0,none⟩)] w (Gv rb tb w L (reduceS P M2)):=by
  have hn:=Nq.start h
  have hfd:=field_text
  go_enter Tryz.func88,Tryz.ntmps88
  go_wp2_with fail
  refine Calls.mono (acceptF hn.rd d0) ?_
  rintro e w1 ⟨rfl,k1,r1⟩
  have hn:=hn.call k1 r1
  go_wp2_with fail
  refine Calls.mono (acceptF hn.rd d1) ?_
  rintro e w2 ⟨rfl,k2,r2⟩
  have hn:=hn.call k2 r2
  go_wp2_with fail
  refine Calls.mono (acceptT hn.rd d2) ?_
  rintro e w3 ⟨rfl,k3,r3⟩
  have b3:=acc_true d2
  have s3:=sx_acct d2
  have hn:=hn.call k3 r3
  go_wp2_with fail
  refine Calls.mono (reduce_ok hP hn.rd (by omega)) ?_
  rintro e w4 ⟨v4,L4,rfl,o4,k4,r4,b4,s4,f4⟩
  have hn:=hn.item k4 r4 f4
  go_wp2_with fail
  go_ret
  have t4:Sx L4 L4:=Sx.refl _
  have t3:Sx M2 L4:=s4.trans t4
  have t0:Sx L L4:=s3.trans t3
  exact ⟨v4,L4,rfl,o4,hn.kept,hn.rd,by omega,t0,f4.mono fun t ht _=>hn.kid (.head _) ht⟩
theorem bound_foreach {P:Ps}{B:Nat} (hP:SndP P B) {w:World}{rb tb:Nat}{L:List Tok}{M0 M1 M2 M3:List Tok} (h:RdP w rb tb L) (hB:8 * L.length+2≤B) (d0:acc sLabel L=(false,M0)) (d1:acc sTry L=(false,M1)) (d2:acc sReduce L=(false,M2)) (d3:acc sForeach L=(true,M3)) :
  Calls Tryz.prog 88 #[.pointer (some ⟨rb,0,none⟩)] w (Gv rb tb w L (foreachS P M3)):=by
  have hn:=Nq.start h
  have hfd:=field_text
  go_enter Tryz.func88,Tryz.ntmps88
  go_wp2_with fail
  refine Calls.mono (acceptF hn.rd d0) ?_
  rintro e w1 ⟨rfl,k1,r1⟩
  have hn:=hn.call k1 r1
  go_wp2_with fail
  refine Calls.mono (acceptF hn.rd d1) ?_
  rintro e w2 ⟨rfl,k2,r2⟩
  have hn:=hn.call k2 r2
  go_wp2_with fail
  refine Calls.mono (acceptF hn.rd d2) ?_
  rintro e w3 ⟨rfl,k3,r3⟩
  have hn:=hn.call k3 r3
  go_wp2_with fail
  refine Calls.mono (acceptT hn.rd d3) ?_
  rintro e w4 ⟨rfl,k4,r4⟩
  have b4:=acc_true d3
  have s4:=sx_acct d3
  have hn:=hn.call k4 r4
  go_wp2_with fail
  refine Calls.mono (foreach_ok hP hn.rd (by omega)) ?_
  rintro e w5 ⟨v5,L5,rfl,o5,k5,r5,b5,s5,f5⟩
  have hn:=hn.item k5 r5 f5
  go_wp2_with fail
  go_ret
  have t5:Sx L5 L5:=Sx.refl _
  have t4:Sx M3 L5:=s5.trans t5
  have t0:Sx L L5:=s4.trans t4
  exact ⟨v5,L5,rfl,o5,hn.kept,hn.rd,by omega,t0,f5.mono fun t ht _=>hn.kid (.head _) ht⟩
theorem bound_if {P:Ps}{B:Nat} (hP:SndP P B) {w:World}{rb tb:Nat}{L:List Tok}{M0 M1 M2 M3 M4:List Tok} (h:RdP w rb tb L) (hB:8 * L.length+2≤B) (d0:acc sLabel L=(false,M0)) (d1:acc sTry L=(false,M1)) (d2:acc sReduce L=(false,M2)) (d3:acc sForeach L=(false,M3)) (d4:acc sIf L=(true,M4)) :
  Calls Tryz.prog 88 #[.pointer (some ⟨rb,0,none⟩)] w (Gv rb tb w L (ifS P M4)):=by
  have hn:=Nq.start h
  have hfd:=field_text
  go_enter Tryz.func88,Tryz.ntmps88
  go_wp2_with fail
  refine Calls.mono (acceptF hn.rd d0) ?_
  rintro e w1 ⟨rfl,k1,r1⟩
  have hn:=hn.call k1 r1
  go_wp2_with fail
  refine Calls.mono (acceptF hn.rd d1) ?_
  rintro e w2 ⟨rfl,k2,r2⟩
  have hn:=hn.call k2 r2
  go_wp2_with fail
  refine Calls.mono (acceptF hn.rd d2) ?_
  rintro e w3 ⟨rfl,k3,r3⟩
  have hn:=hn.call k3 r3
  go_wp2_with fail
  refine Calls.mono (acceptF hn.rd d3) ?_
  rintro e w4 ⟨rfl,k4,r4⟩
  have hn:=hn.call k4 r4
  go_wp2_with fail
  refine Calls.mono (acceptT hn.rd d4) ?_
  rintro e w5 ⟨rfl,k5,r5⟩
  have b5:=acc_true d4
  have s5:=sx_acct d4
  have hn:=hn.call k5 r5
  go_wp2_with fail
  refine Calls.mono (condition_ok hP hn.rd (by omega)) ?_
  rintro e w6 ⟨v6,L6,rfl,o6,k6,r6,b6,s6,f6⟩
  have hn:=hn.item k6 r6 f6
  go_wp2_with fail
  go_ret
  have t6:Sx L6 L6:=Sx.refl _
  have t5:Sx M4 L6:=s6.trans t6
  have t0:Sx L L6:=s5.trans t5
  exact ⟨v6,L6,rfl,o6,hn.kept,hn.rd,by omega,t0,f6.mono fun t ht _=>hn.kid (.head _) ht⟩
theorem bound_bind {P:Ps}{B:Nat} (hP:SndP P B) {w:World}{rb tb:Nat}{L:List Tok}{M0 M1 M2 M3 M4:List Tok} (h:RdP w rb tb L) (hB:8 * L.length+2≤B) (d0:acc sLabel L=(false,M0)) (d1:acc sTry L=(false,M1)) (d2:acc sReduce L=(false,M2)) (d3:acc sForeach L=(false,M3)) (d4:acc sIf L=(false,M4)) :
  Calls Tryz.prog 88 #[.pointer (some ⟨rb,0,none⟩)] w (Gv rb tb w L (bindS P L)):=by
  have hn:=Nq.start h
  have hfd:=field_text
  go_enter Tryz.func88,Tryz.ntmps88
  go_wp2_with fail
  refine Calls.mono (acceptF hn.rd d0) ?_
  rintro e w1 ⟨rfl,k1,r1⟩
  have hn:=hn.call k1 r1
  go_wp2_with fail
  refine Calls.mono (acceptF hn.rd d1) ?_
  rintro e w2 ⟨rfl,k2,r2⟩
  have hn:=hn.call k2 r2
  go_wp2_with fail
  refine Calls.mono (acceptF hn.rd d2) ?_
  rintro e w3 ⟨rfl,k3,r3⟩
  have hn:=hn.call k3 r3
  go_wp2_with fail
  refine Calls.mono (acceptF hn.rd d3) ?_
  rintro e w4 ⟨rfl,k4,r4⟩
  have hn:=hn.call k4 r4
  go_wp2_with fail
  refine Calls.mono (acceptF hn.rd d4) ?_
  rintro e w5 ⟨rfl,k5,r5⟩
  have hn:=hn.call k5 r5
  go_wp2_with fail
  refine Calls.mono (hP.post hn.rd (by omega)) ?_
  rintro e w6 ⟨v6,L6,rfl,o6,k6,r6,b6,s6,f6⟩
  have hn:=hn.item k6 r6 f6
  have x6:=cells_one o6
  have z6:=x6
  unfold Value.cells at z6
  go_wp2_with fail
  cases d9:acc sAs L6 with
  | mk b9 M9 =>
  cases b9 with
  | false =>
   refine Calls.mono (acceptF hn.rd d9) ?_
   rintro e w7 ⟨rfl,k7,r7⟩
   have hn:=hn.call k7 r7
   go_wp2_with fail
   go_ret
   have t6:Sx L6 L6:=Sx.refl _
   have t0:Sx L L6:=s6.trans t6
   refine ⟨v6,L6,rfl,o6,hn.kept,hn.rd,by omega,t0,?_⟩
   refine Fn.thn f6 (fun a6 e6 g6=>?_) t6
   simp only [d9]
   exact Fn.ok (hn.kid (.head _) e6)
  | true =>
   refine Calls.mono (acceptT hn.rd d9) ?_
   rintro e w7 ⟨rfl,k7,r7⟩
   have b7:=acc_true d9
   have s7:=sx_acct d9
   have hn:=hn.call k7 r7
   go_wp2_with fail
   refine Calls.mono (expectKindQ hn.rd (by decide) (by decide)) ?_
   rintro e w8 ⟨c8,n8,p8,L8,rfl,k8,r8,b8,f8,s8⟩
   have hn:=hn.call k8 r8
   go_wp2_with fail
   refine Calls.mono (expectQ hn.rd) ?_
   rintro e w9 ⟨rfl,L9,k9,r9,b9,f9,s9⟩
   have hn:=hn.call k9 r9
   go_wp2_with fail
   refine Calls.mono (hP.oper 1 (by omega) (by omega) hn.rd (by omega)) ?_
   rintro e w10 ⟨v10,L10,rfl,o10,k10,r10,b10,s10,f10⟩
   have hn:=hn.item k10 r10 f10
   have x10:=cells_one o10
   have z10:=x10
   unfold Value.cells at z10
   go_wp2_with fail
   have hc:=Cl.start w10 [v6,.string n8,v10] 174
   have hn:=hn.own (.cells #[v6,.string n8,v10] 174)
   go_ret
   have t10:Sx L10 L10:=Sx.refl _
   have t9:Sx L9 L10:=s10.trans t10
   have t8:Sx L8 L10:=s9.trans t9
   have t7:Sx M9 L10:=s8.trans t8
   have t6:Sx L6 L10:=s7.trans t7
   have t0:Sx L L10:=s6.trans t6
   refine ⟨.iface (typF 16) (.pointer (some ⟨w10.heap.size,0,none⟩)),L10,rfl,rfl,hn.kept,hn.rd,by omega,t0,?_⟩
   have hm:=hn.mine _ (.head _)
   refine Fn.thn f6 (fun a6 e6 g6=>?_) t6
   simp only [d9]
   exact Fn.thn f8 (fun a8 e8 g8=>Fn.thn f9 (fun a9 e9 g9=>Fn.thn f10 (fun a10 e10 g10=>Fn.ok (Rf.mk hm.1 hm.2 rfl ⟨⟨_,(hc.cell 0).trans rfl,hn.kid (.tail _ (.head _)) e6⟩,(hc.cell 1).trans (txt_eq g8.1),⟨_,(hc.cell 2).trans rfl,hn.kid (.head _) e10⟩,trivial⟩)) t10) t9) t8
theorem bound_ok {P:Ps}{B:Nat} (hP:SndP P B) {w:World}{rb tb:Nat}{L:List Tok} (h:RdP w rb tb L) (hB:8 * L.length+2≤B) :
  Calls Tryz.prog 88 #[.pointer (some ⟨rb,0,none⟩)] w (Gv rb tb w L (boundS P L)):=by
 cases d0:acc sLabel L with
 | mk b0 M0 =>
 cases b0 with
 | true =>
  rw [show boundS P L=labelS P M0 by simp [boundS,d0]]
  exact bound_label hP h hB d0
 | false =>
 cases d1:acc sTry L with
 | mk b1 M1 =>
 cases b1 with
 | true =>
  rw [show boundS P L=tryS P M1 by simp [boundS,d0,d1]]
  exact bound_try hP h hB d0 d1
 | false =>
 cases d2:acc sReduce L with
 | mk b2 M2 =>
 cases b2 with
 | true =>
  rw [show boundS P L=reduceS P M2 by simp [boundS,d0,d1,d2]]
  exact bound_reduce hP h hB d0 d1 d2
 | false =>
 cases d3:acc sForeach L with
 | mk b3 M3 =>
 cases b3 with
 | true =>
  rw [show boundS P L=foreachS P M3 by simp [boundS,d0,d1,d2,d3]]
  exact bound_foreach hP h hB d0 d1 d2 d3
 | false =>
 cases d4:acc sIf L with
 | mk b4 M4 =>
 cases b4 with
 | true =>
  rw [show boundS P L=ifS P M4 by simp [boundS,d0,d1,d2,d3,d4]]
  exact bound_if hP h hB d0 d1 d2 d3 d4
 | false =>
 rw [show boundS P L=bindS P L by simp [boundS,d0,d1,d2,d3,d4]]
 exact bound_bind hP h hB d0 d1 d2 d3 d4
end Go.Proofs.Tryz
namespace Go.Proofs.Tryz
set_option maxHeartbeats 16000000
open Go.RowKit
set_option maxRecDepth 10000
theorem field_pos (k p:Int) (t:ByteArray) (w:World):Sem.run Tryz.prog (Instr.field 62 (.agg #[.int .u8 k,.string t,.int .i64 p]) 2) w = .ok (.int .i64 p) w:=by kernel_rfl
theorem minus_ok {P:Ps}{B:Nat} (hP:SndP P B) {w:World}{rb tb:Nat}{L:List Tok} (h:RdP w rb tb L) (hB:8 * L.length+2≤B) :
  Calls Tryz.prog 69 #[.pointer (some ⟨rb,0,none⟩)] w (Gv rb tb w L (minusS P L)):=by
 have hn:=Nq.start h
 cases d0:acc sMinus L with
 | mk b0 M0 =>
 cases b0 with
 | true =>
  rw [show minusS P L=thn (P 1 M0) fun a l2=>.ok (nd 13 Pyl.none [a],l2) by simp [minusS,d0]]
  go_enter Tryz.func69,Tryz.ntmps69
  go_wp2_with fail
  refine Calls.mono (acceptT hn.rd d0) ?_
  rintro e w1 ⟨rfl,k1,r1⟩
  have b1:=acc_true d0
  have s1:=sx_acct d0
  have hn:=hn.call k1 r1
  go_wp2_with fail
  refine Calls.mono (hP.minus hn.rd (by omega)) ?_
  rintro e w2 ⟨v2,L2,rfl,o2,k2,r2,b2,s2,f2⟩
  have hn:=hn.item k2 r2 f2
  have x2:=cells_one o2
  have z2:=x2
  unfold Value.cells at z2
  go_wp2_with fail
  have hc:=Cl.start w2 [v2] 171
  have hn:=hn.own (.cells #[v2] 171)
  go_ret
  have t2:Sx L2 L2:=Sx.refl _
  have t1:Sx M0 L2:=s2.trans t2
  have t0:Sx L L2:=s1.trans t1
  refine ⟨.iface (typF 13) (.pointer (some ⟨w2.heap.size,0,none⟩)),L2,rfl,rfl,hn.kept,hn.rd,by omega,t0,?_⟩
  have hm:=hn.mine _ (.head _)
  exact Fn.thn f2 (fun a2 e2 g2=>Fn.ok (Rf.mk hm.1 hm.2 rfl ⟨⟨_,(hc.cell 0).trans rfl,hn.kid (.head _) e2⟩,trivial⟩)) t2
 | false =>
  rw [show minusS P L=boundS P L by simp [minusS,d0]]
  go_enter Tryz.func69,Tryz.ntmps69
  go_wp2_with fail
  refine Calls.mono (acceptF hn.rd d0) ?_
  rintro e w1 ⟨rfl,k1,r1⟩
  have hn:=hn.call k1 r1
  go_wp2_with fail
  refine Calls.mono (bound_ok hP hn.rd (by omega)) ?_
  rintro e w2 ⟨v2,L2,rfl,o2,k2,r2,b2,s2,f2⟩
  have hn:=hn.item k2 r2 f2
  go_wp2_with fail
  go_ret
  have t2:Sx L2 L2:=Sx.refl _
  have t0:Sx L L2:=s2.trans t2
  exact ⟨v2,L2,rfl,o2,hn.kept,hn.rd,by omega,t0,f2.mono fun t ht _=>hn.kid (.head _) ht⟩
theorem filter_ok {P:Ps}{B:Nat} (hP:SndP P B) (hD:∀ {w:World}{rb tb:Nat}{L:List Tok},RdP w rb tb L→8 * L.length+5≤B→Calls Tryz.prog 38 #[.pointer (some ⟨rb,0,none⟩)] w (Gv rb tb w L (defS P L))) {w:World}{rb tb:Nat}{L:List Tok} (h:RdP w rb tb L) (hB:8 * L.length+4≤B) :
  Calls Tryz.prog 21 #[.pointer (some ⟨rb,0,none⟩)] w (Gv rb tb w L (filterS P L)):=by
 have hn:=Nq.start h
 cases d0:acc sDef L with
 | mk b0 M0 =>
 cases b0 with
 | true =>
  rw [show filterS P L=defS P M0 by simp [filterS,d0]]
  go_enter Tryz.func21,Tryz.ntmps21
  go_wp2_with fail
  refine Calls.mono (acceptT hn.rd d0) ?_
  rintro e w1 ⟨rfl,k1,r1⟩
  have b1:=acc_true d0
  have s1:=sx_acct d0
  have hn:=hn.call k1 r1
  go_wp2_with fail
  refine Calls.mono (hD hn.rd (by omega)) ?_
  rintro e w2 ⟨v2,L2,rfl,o2,k2,r2,b2,s2,f2⟩
  have hn:=hn.item k2 r2 f2
  go_wp2_with fail
  go_ret
  have t2:Sx L2 L2:=Sx.refl _
  have t1:Sx M0 L2:=s2.trans t2
  have t0:Sx L L2:=s1.trans t1
  exact ⟨v2,L2,rfl,o2,hn.kept,hn.rd,by omega,t0,f2.mono fun t ht _=>hn.kid (.head _) ht⟩
 | false =>
  rw [show filterS P L=P 11 L by simp [filterS,d0]]
  go_enter Tryz.func21,Tryz.ntmps21
  go_wp2_with fail
  refine Calls.mono (acceptF hn.rd d0) ?_
  rintro e w1 ⟨rfl,k1,r1⟩
  have hn:=hn.call k1 r1
  go_wp2_with fail
  refine Calls.mono (hP.oper 1 (by omega) (by omega) hn.rd (by omega)) ?_
  rintro e w2 ⟨v2,L2,rfl,o2,k2,r2,b2,s2,f2⟩
  have hn:=hn.item k2 r2 f2
  go_wp2_with fail
  go_ret
  have t2:Sx L2 L2:=Sx.refl _
  have t0:Sx L L2:=s2.trans t2
  exact ⟨v2,L2,rfl,o2,hn.kept,hn.rd,by omega,t0,f2.mono fun t ht _=>hn.kid (.head _) ht⟩
theorem wordy_ok {w:World}{rb tb:Nat}{L:List Tok} (h:RdP w rb tb L) :
  Calls Tryz.prog 138 #[.pointer (some ⟨rb,0,none⟩)] w (Gv rb tb w L (wordyS L)):=by
 have hn:=Nq.start h
 have hfd:=field_text
 have hfp:=field_pos
 cases d0:acc sNull L with
 | mk b0 M0 =>
 cases b0 with
 | true =>
  rw [show wordyS L = .ok (litT (0,0,⟨#[]⟩),M0) by simp [wordyS,d0]]
  go_enter Tryz.func138,Tryz.ntmps138
  go_wp2_with fail
  refine Calls.mono (acceptT hn.rd d0) ?_
  rintro e w1 ⟨rfl,k1,r1⟩
  have b1:=acc_true d0
  have s1:=sx_acct d0
  have hn:=hn.call k1 r1
  go_wp2_with fail
  have hc:=Cl.start w1 [.iface 196 (.agg #[])] 101
  have hn:=hn.own (.cells #[.iface 196 (.agg #[])] 101)
  go_ret
  have t1:Sx M0 M0:=Sx.refl _
  have t0:Sx L M0:=s1.trans t1
  refine ⟨.iface (typF 2) (.pointer (some ⟨w1.heap.size,0,none⟩)),M0,rfl,rfl,hn.kept,hn.rd,by omega,t0,?_⟩
  have hm:=hn.mine _ (.head _)
  exact Fn.ok (Rf.mk hm.1 hm.2 rfl ⟨(hc.cell 0).trans rfl,trivial⟩)
 | false =>
 cases d1:acc sFalse L with
 | mk b1 M1 =>
 cases b1 with
 | true =>
  rw [show wordyS L = .ok (litT (1,0,⟨#[]⟩),M1) by simp [wordyS,d0,d1]]
  go_enter Tryz.func138,Tryz.ntmps138
  go_wp2_with fail
  refine Calls.mono (acceptF hn.rd d0) ?_
  rintro e w1 ⟨rfl,k1,r1⟩
  have hn:=hn.call k1 r1
  go_wp2_with fail
  refine Calls.mono (acceptT hn.rd d1) ?_
  rintro e w2 ⟨rfl,k2,r2⟩
  have b2:=acc_true d1
  have s2:=sx_acct d1
  have hn:=hn.call k2 r2
  go_wp2_with fail
  have hc:=Cl.start w2 [.iface 197 (.bool false)] 101
  have hn:=hn.own (.cells #[.iface 197 (.bool false)] 101)
  go_ret
  have t2:Sx M1 M1:=Sx.refl _
  have t0:Sx L M1:=s2.trans t2
  refine ⟨.iface (typF 2) (.pointer (some ⟨w2.heap.size,0,none⟩)),M1,rfl,rfl,hn.kept,hn.rd,by omega,t0,?_⟩
  have hm:=hn.mine _ (.head _)
  exact Fn.ok (Rf.mk hm.1 hm.2 rfl ⟨(hc.cell 0).trans rfl,trivial⟩)
 | false =>
 cases d2:acc sTrueW L with
 | mk b2 M2 =>
 cases b2 with
 | true =>
  rw [show wordyS L = .ok (litT (2,0,⟨#[]⟩),M2) by simp [wordyS,d0,d1,d2]]
  go_enter Tryz.func138,Tryz.ntmps138
  go_wp2_with fail
  refine Calls.mono (acceptF hn.rd d0) ?_
  rintro e w1 ⟨rfl,k1,r1⟩
  have hn:=hn.call k1 r1
  go_wp2_with fail
  refine Calls.mono (acceptF hn.rd d1) ?_
  rintro e w2 ⟨rfl,k2,r2⟩
  have hn:=hn.call k2 r2
  go_wp2_with fail
  refine Calls.mono (acceptT hn.rd d2) ?_
  rintro e w3 ⟨rfl,k3,r3⟩
  have b3:=acc_true d2
  have s3:=sx_acct d2
  have hn:=hn.call k3 r3
  go_wp2_with fail
  have hc:=Cl.start w3 [.iface 197 (.bool true)] 101
  have hn:=hn.own (.cells #[.iface 197 (.bool true)] 101)
  go_ret
  have t3:Sx M2 M2:=Sx.refl _
  have t0:Sx L M2:=s3.trans t3
  refine ⟨.iface (typF 2) (.pointer (some ⟨w3.heap.size,0,none⟩)),M2,rfl,rfl,hn.kept,hn.rd,by omega,t0,?_⟩
  have hm:=hn.mine _ (.head _)
  exact Fn.ok (Rf.mk hm.1 hm.2 rfl ⟨(hc.cell 0).trans rfl,trivial⟩)
 | false =>
 cases d3:acc sBreak L with
 | mk b3 M3 =>
 cases b3 with
 | true =>
  rw [show wordyS L=thn (exk 4 M3) fun t l2=>.ok (nd 4 { Pyl.none with name:=t.text,num:=t.pos } [],l2) by simp [wordyS,d0,d1,d2,d3]]
  go_enter Tryz.func138,Tryz.ntmps138
  go_wp2_with fail
  refine Calls.mono (acceptF hn.rd d0) ?_
  rintro e w1 ⟨rfl,k1,r1⟩
  have hn:=hn.call k1 r1
  go_wp2_with fail
  refine Calls.mono (acceptF hn.rd d1) ?_
  rintro e w2 ⟨rfl,k2,r2⟩
  have hn:=hn.call k2 r2
  go_wp2_with fail
  refine Calls.mono (acceptF hn.rd d2) ?_
  rintro e w3 ⟨rfl,k3,r3⟩
  have hn:=hn.call k3 r3
  go_wp2_with fail
  refine Calls.mono (acceptT hn.rd d3) ?_
  rintro e w4 ⟨rfl,k4,r4⟩
  have b4:=acc_true d3
  have s4:=sx_acct d3
  have hn:=hn.call k4 r4
  go_wp2_with fail
  refine Calls.mono (expectKindQ hn.rd (by decide) (by decide)) ?_
  rintro e w5 ⟨c5,n5,p5,L5,rfl,k5,r5,b5,f5,s5⟩
  have hn:=hn.call k5 r5
  go_wp2_with fail
  have hc:=Cl.start (w5.alloc (.cells #[.int .u8 c5,.string n5,.int .i64 p5] 62)) [.string n5,.int .i64 p5] 107
  have hn:=(hn.alloc (.cells #[.int .u8 c5,.string n5,.int .i64 p5] 62)).own (.cells #[.string n5,.int .i64 p5] 107)
  simp only [World.size_alloc] at hc hn
  go_ret
  have t5:Sx L5 L5:=Sx.refl _
  have t4:Sx M3 L5:=s5.trans t5
  have t0:Sx L L5:=s4.trans t4
  refine ⟨.iface (typF 4) (.pointer (some ⟨w5.heap.size+1,0,none⟩)),L5,rfl,rfl,hn.kept,hn.rd,by omega,t0,?_⟩
  have hm:=hn.mine _ (.head _)
  exact Fn.thn f5 (fun a5 e5 g5=>Fn.ok (Rf.mk hm.1 hm.2 rfl ⟨(hc.cell 0).trans (txt_eq g5.1),(hc.cell 1).trans (pos_eq g5.2),trivial⟩)) t5
 | false =>
 rw [show wordyS L = .error L by simp [wordyS,d0,d1,d2,d3]]
 go_enter Tryz.func138,Tryz.ntmps138
 go_wp2_with fail
 refine Calls.mono (acceptF hn.rd d0) ?_
 rintro e w1 ⟨rfl,k1,r1⟩
 have hn:=hn.call k1 r1
 go_wp2_with fail
 refine Calls.mono (acceptF hn.rd d1) ?_
 rintro e w2 ⟨rfl,k2,r2⟩
 have hn:=hn.call k2 r2
 go_wp2_with fail
 refine Calls.mono (acceptF hn.rd d2) ?_
 rintro e w3 ⟨rfl,k3,r3⟩
 have hn:=hn.call k3 r3
 go_wp2_with fail
 refine Calls.mono (acceptF hn.rd d3) ?_
 rintro e w4 ⟨rfl,k4,r4⟩
 have hn:=hn.call k4 r4
 go_wp2_with fail
 refine Calls.mono (failQ hn.rd) ?_
 rintro e w5 ⟨rfl,k5,r5,q5⟩
 have hn:=hn.call k5 r5
 go_wp2_with fail
 go_ret
 exact ⟨.nilIface,stuck L,rfl,rfl,hn.kept,hn.rd,Nat.le_of_eq (stuck_len _),fun k=>stuck_one k,Fn.bad rfl (wf_stuck_kind h.wf)⟩
end Go.Proofs.Tryz
namespace Go.Proofs.Tryz
set_option maxHeartbeats 16000000
open Go.RowKit
set_option maxRecDepth 10000
theorem takeQ {w:World}{rb tb:Nat}{t u:Tok}{l:List Tok} (h:RdP w rb tb (t :: u :: l)) :
  Calls Tryz.prog 66 #[.pointer (some ⟨rb,0,none⟩)] w fun e w'=>e = .returned (.agg #[.int .u8 t.kind,.string t.text,.int .i64 t.pos])∧KeptB rb tb w w'∧RdP w' rb tb (u :: l) :=
 (take_rd h.rd).mono fun e w' ⟨a,b⟩=>⟨a,.of_kept b.kept,h.left b h.wf.2⟩
theorem Nq.add {a w:World}{rb tb:Nat}{X:List Nat}{L:List Tok}{its:List (Out Tn×Value)} (h:Nq a w rb tb X L its) {x:Out Tn}{v:Value} (hr:∀ t l',x = .ok (t,l')→Rf (fun b=>a.heap.size≤b∧b ∉ X) w t v):Nq a w rb tb X L ((x,v) :: its) :=
 ⟨h.kept,h.rd,h.rbs,h.tbs,h.mine,fun q hq t l' e=>by
  rcases List.mem_cons.mp hq with rfl | hq
  ·exact hr t l' e
  ·exact h.its q hq t l' e⟩
theorem wf_pair {t:Tok}{m:List Tok} (h:Wf (t :: m)) (h0:t.kind≠0) (h1:t.kind≠1):∃ u l,m=u :: l:=by
 match m,h with
 | [],h=>rcases h with e | e <;> contradiction
 | u :: l,_=>exact ⟨u,l,rfl⟩
theorem signed_field {w:World}{rb tb:Nat}{L:List Tok}{t u:Tok}{l:List Tok} (h:RdP w rb tb L) (d0:acc sDot L=(true,t :: u :: l)) (ht:t.kind=2) :
  Calls Tryz.prog 139 #[.pointer (some ⟨rb,0,none⟩)] w (Gv rb tb w L (.ok (nd 5 { Pyl.none with name:=t.text } [identT],u :: l))):=by
 have hn:=Nq.start h
 have hfd:=field_text
 go_enter Tryz.func139,Tryz.ntmps139
 go_wp2_with fail
 refine Calls.mono (acceptT hn.rd d0) ?_
 rintro e w1 ⟨rfl,k1,r1⟩
 have b1:=acc_true d0
 have s1:=sx_acct d0
 have hn:=hn.call k1 r1
 obtain ⟨o,c,⟨hr,hcap,hmax,hfz,hne2,htb,⟨h0,h1,h2,hrest⟩⟩⟩:=r1.rd
 clear hrest
 simp only [List.length_cons] at hr hcap
 go_wp2_with fail
 have hn:=(hn.alloc (.cells #[] 252)).add (x:=.ok (identT,[])) (v:=.iface (typF 0) (.pointer (some ⟨w1.heap.size,0,none⟩))) (fun t l e=>by
  cases e
  exact Rf.mk ⟨hn.kept.size,by simp⟩ (by simp) rfl trivial)
 refine Calls.mono (takeQ hn.rd) ?_
 rintro e w2 ⟨rfl,k2,r2⟩
 have hn:=hn.call k2 r2
 go_wp2_with fail
 have hc:=Cl.start w2 [.iface (typF 0) (.pointer (some ⟨w1.heap.size,0,none⟩)),.string t.text] 160
 have hn:=hn.own (.cells #[.iface (typF 0) (.pointer (some ⟨w1.heap.size,0,none⟩)),.string t.text] 160)
 go_ret
 have t0:Sx L (u :: l):=fun k=>by rw [acc_one k] at d0;cases d0
 refine ⟨.iface (typF 5) (.pointer (some ⟨w2.heap.size,0,none⟩)),u :: l,rfl,rfl,hn.kept,hn.rd,by simp only [List.length_cons] at b1 ⊢;omega,t0,?_⟩
 have hm:=hn.mine _ (.head _)
 exact Fn.ok (Rf.mk hm.1 hm.2 rfl ⟨⟨_,(hc.cell 0).trans rfl,hn.kid (.head _) rfl⟩,(hc.cell 1).trans rfl,trivial⟩)
theorem signed_dot {w:World}{rb tb:Nat}{L:List Tok}{t:Tok}{m:List Tok} (h:RdP w rb tb L) (d0:acc sDot L=(true,t :: m)) (ht:t.kind≠2) :
  Calls Tryz.prog 139 #[.pointer (some ⟨rb,0,none⟩)] w (Gv rb tb w L (.ok (identT,t :: m))):=by
 have hn:=Nq.start h
 have hfd:=field_text
 go_enter Tryz.func139,Tryz.ntmps139
 go_wp2_with fail
 refine Calls.mono (acceptT hn.rd d0) ?_
 rintro e w1 ⟨rfl,k1,r1⟩
 have b1:=acc_true d0
 have s1:=sx_acct d0
 have hn:=hn.call k1 r1
 obtain ⟨o,c,⟨hr,hcap,hmax,hfz,hne2,htb,⟨h0,h1,h2,hrest⟩⟩⟩:=r1.rd
 clear hrest
 simp only [List.length_cons] at hr hcap
 have ht2:(t.kind == 2)=false:=by simpa using ht
 go_wp2_with fail
 have hc:=Cl.start w1 [] 252
 have hn:=hn.own (.cells #[] 252)
 go_ret
 have t0:Sx L (t :: m):=fun k=>by rw [acc_one k] at d0;cases d0
 refine ⟨.iface (typF 0) (.pointer (some ⟨w1.heap.size,0,none⟩)),t :: m,rfl,rfl,hn.kept,hn.rd,by omega,t0,?_⟩
 have hm:=hn.mine _ (.head _)
 exact Fn.ok (Rf.mk hm.1 hm.2 rfl trivial)
theorem signed_dots {P:Ps}{B:Nat} (hP:SndP P B) {w:World}{rb tb:Nat}{L:List Tok}{M0 M1:List Tok} (h:RdP w rb tb L) (hB:8 * L.length≤B) (d0:acc sDot L=(false,M0)) (d1:acc sDots L=(true,M1)) :
  Calls Tryz.prog 139 #[.pointer (some ⟨rb,0,none⟩)] w (Gv rb tb w L (.ok (nd 1 Pyl.none [],M1))):=by
 have hn:=Nq.start h
 have hfd:=field_text
 go_enter Tryz.func139,Tryz.ntmps139
 go_wp2_with fail
 refine Calls.mono (acceptF hn.rd d0) ?_
 rintro e w1 ⟨rfl,k1,r1⟩
 have hn:=hn.call k1 r1
 go_wp2_with fail
 refine Calls.mono (acceptT hn.rd d1) ?_
 rintro e w2 ⟨rfl,k2,r2⟩
 have b2:=acc_true d1
 have s2:=sx_acct d1
 have hn:=hn.call k2 r2
 go_wp2_with fail
 have hc:=Cl.start w2 [] 253
 have hn:=hn.own (.cells #[] 253)
 go_ret
 have t2:Sx M1 M1:=Sx.refl _
 have t0:Sx L M1:=s2.trans t2
 refine ⟨.iface (typF 1) (.pointer (some ⟨w2.heap.size,0,none⟩)),M1,rfl,rfl,hn.kept,hn.rd,by omega,t0,?_⟩
 have hm:=hn.mine _ (.head _)
 exact Fn.ok (Rf.mk hm.1 hm.2 rfl trivial)
theorem signed_brackets {P:Ps}{B:Nat} (hP:SndP P B) {w:World}{rb tb:Nat}{L:List Tok}{M0 M1 M2:List Tok} (h:RdP w rb tb L) (hB:8 * L.length≤B) (d0:acc sDot L=(false,M0)) (d1:acc sDots L=(false,M1)) (d2:acc sOpen L=(true,M2)) :
  Calls Tryz.prog 139 #[.pointer (some ⟨rb,0,none⟩)] w (Gv rb tb w L (thn (P 0 M2) fun f l2=>thn (exq sShut l2) fun _ l3=>.ok (f,l3))):=by
 have hn:=Nq.start h
 have hfd:=field_text
 go_enter Tryz.func139,Tryz.ntmps139
 go_wp2_with fail
 refine Calls.mono (acceptF hn.rd d0) ?_
 rintro e w1 ⟨rfl,k1,r1⟩
 have hn:=hn.call k1 r1
 go_wp2_with fail
 refine Calls.mono (acceptF hn.rd d1) ?_
 rintro e w2 ⟨rfl,k2,r2⟩
 have hn:=hn.call k2 r2
 go_wp2_with fail
 refine Calls.mono (acceptT hn.rd d2) ?_
 rintro e w3 ⟨rfl,k3,r3⟩
 have b3:=acc_true d2
 have s3:=sx_acct d2
 have hn:=hn.call k3 r3
 go_wp2_with fail
 refine Calls.mono (hP.filter hn.rd (by omega)) ?_
 rintro e w4 ⟨v4,L4,rfl,o4,k4,r4,b4,s4,f4⟩
 have hn:=hn.item k4 r4 f4
 have x4:=cells_one o4
 have z4:=x4
 unfold Value.cells at z4
 go_wp2_with fail
 refine Calls.mono (expectQ hn.rd) ?_
 rintro e w5 ⟨rfl,L5,k5,r5,b5,f5,s5⟩
 have hn:=hn.call k5 r5
 go_wp2_with fail
 go_ret
 have t5:Sx L5 L5:=Sx.refl _
 have t4:Sx L4 L5:=s5.trans t5
 have t3:Sx M2 L5:=s4.trans t4
 have t0:Sx L L5:=s3.trans t3
 exact ⟨v4,L5,rfl,o4,hn.kept,hn.rd,by omega,t0,Fn.thn f4 (fun a4 e4 g4=>Fn.thn f5 (fun a5 e5 g5=>Fn.ok (hn.kid (.head _) e4)) t5) t4⟩
theorem signed_empty {P:Ps}{B:Nat} (hP:SndP P B) {w:World}{rb tb:Nat}{L:List Tok}{M0 M1 M2 M3:List Tok} (h:RdP w rb tb L) (hB:8 * L.length≤B) (d0:acc sDot L=(false,M0)) (d1:acc sDots L=(false,M1)) (d2:acc sOpen L=(false,M2)) (d3:acc sSqO L=(true,M3)) {M9:List Tok} (d9:acc sSqC M3=(true,M9)) :
  Calls Tryz.prog 139 #[.pointer (some ⟨rb,0,none⟩)] w (Gv rb tb w L (.ok (nd 9 Pyl.none [],M9))):=by
 have hn:=Nq.start h
 have hfd:=field_text
 go_enter Tryz.func139,Tryz.ntmps139
 go_wp2_with fail
 refine Calls.mono (acceptF hn.rd d0) ?_
 rintro e w1 ⟨rfl,k1,r1⟩
 have hn:=hn.call k1 r1
 go_wp2_with fail
 refine Calls.mono (acceptF hn.rd d1) ?_
 rintro e w2 ⟨rfl,k2,r2⟩
 have hn:=hn.call k2 r2
 go_wp2_with fail
 refine Calls.mono (acceptF hn.rd d2) ?_
 rintro e w3 ⟨rfl,k3,r3⟩
 have hn:=hn.call k3 r3
 go_wp2_with fail
 refine Calls.mono (acceptT hn.rd d3) ?_
 rintro e w4 ⟨rfl,k4,r4⟩
 have b4:=acc_true d3
 have s4:=sx_acct d3
 have hn:=hn.call k4 r4
 go_wp2_with fail
 refine Calls.mono (acceptT hn.rd d9) ?_
 rintro e w5 ⟨rfl,k5,r5⟩
 have b5:=acc_true d9
 have s5:=sx_acct d9
 have hn:=hn.call k5 r5
 go_wp2_with fail
 have hc:=Cl.start w5 [.nilIface] 114
 have hn:=hn.own (.cells #[.nilIface] 114)
 go_ret
 have t5:Sx M9 M9:=Sx.refl _
 have t4:Sx M3 M9:=s5.trans t5
 have t0:Sx L M9:=s4.trans t4
 refine ⟨.iface (typF 9) (.pointer (some ⟨w5.heap.size,0,none⟩)),M9,rfl,rfl,hn.kept,hn.rd,by omega,t0,?_⟩
 have hm:=hn.mine _ (.head _)
 exact Fn.ok (Rf.mk hm.1 hm.2 rfl ⟨(hc.cell 0).trans rfl,trivial⟩)
theorem signed_collect {P:Ps}{B:Nat} (hP:SndP P B) {w:World}{rb tb:Nat}{L:List Tok}{M0 M1 M2 M3:List Tok} (h:RdP w rb tb L) (hB:8 * L.length≤B) (d0:acc sDot L=(false,M0)) (d1:acc sDots L=(false,M1)) (d2:acc sOpen L=(false,M2)) (d3:acc sSqO L=(true,M3)) {M9:List Tok} (d9:acc sSqC M3=(false,M9)) :
  Calls Tryz.prog 139 #[.pointer (some ⟨rb,0,none⟩)] w (Gv rb tb w L (thn (P 0 M3) fun f l2=>thn (exq sSqC l2) fun _ l3=>.ok (nd 9 Pyl.none [f],l3))):=by
 have hn:=Nq.start h
 have hfd:=field_text
 go_enter Tryz.func139,Tryz.ntmps139
 go_wp2_with fail
 refine Calls.mono (acceptF hn.rd d0) ?_
 rintro e w1 ⟨rfl,k1,r1⟩
 have hn:=hn.call k1 r1
 go_wp2_with fail
 refine Calls.mono (acceptF hn.rd d1) ?_
 rintro e w2 ⟨rfl,k2,r2⟩
 have hn:=hn.call k2 r2
 go_wp2_with fail
 refine Calls.mono (acceptF hn.rd d2) ?_
 rintro e w3 ⟨rfl,k3,r3⟩
 have hn:=hn.call k3 r3
 go_wp2_with fail
 refine Calls.mono (acceptT hn.rd d3) ?_
 rintro e w4 ⟨rfl,k4,r4⟩
 have b4:=acc_true d3
 have s4:=sx_acct d3
 have hn:=hn.call k4 r4
 go_wp2_with fail
 refine Calls.mono (acceptF hn.rd d9) ?_
 rintro e w5 ⟨rfl,k5,r5⟩
 have hn:=hn.call k5 r5
 go_wp2_with fail
 refine Calls.mono (hP.filter hn.rd (by omega)) ?_
 rintro e w6 ⟨v6,L6,rfl,o6,k6,r6,b6,s6,f6⟩
 have hn:=hn.item k6 r6 f6
 have x6:=cells_one o6
 have z6:=x6
 unfold Value.cells at z6
 go_wp2_with fail
 have hc:=Cl.start w6 [v6] 114
 have hn:=hn.own (.cells #[v6] 114)
 refine Calls.mono (expectQ hn.rd) ?_
 rintro e w7 ⟨rfl,L7,k7,r7,b7,f7,s7⟩
 have hc:=hc.call hn (.head _) k7
 have hn:=hn.call k7 r7
 go_wp2_with fail
 go_ret
 have t7:Sx L7 L7:=Sx.refl _
 have t6:Sx L6 L7:=s7.trans t7
 have t4:Sx M3 L7:=s6.trans t6
 have t0:Sx L L7:=s4.trans t4
 refine ⟨.iface (typF 9) (.pointer (some ⟨w6.heap.size,0,none⟩)),L7,rfl,rfl,hn.kept,hn.rd,by omega,t0,?_⟩
 have hm:=hn.mine _ (.head _)
 exact Fn.thn f6 (fun a6 e6 g6=>Fn.thn f7 (fun a7 e7 g7=>Fn.ok (Rf.mk hm.1 hm.2 rfl ⟨⟨_,(hc.cell 0).trans rfl,hn.kid (.head _) e6⟩,trivial⟩)) t7) t6
theorem signed_build {P:Ps}{B:Nat} (hP:SndP P B) (hU:∀ {w:World}{rb tb:Nat}{L:List Tok},RdP w rb tb L→8 * L.length+8≤B→Calls Tryz.prog 142 #[.pointer (some ⟨rb,0,none⟩)] w (Gv rb tb w L (buildS P L))) {w:World}{rb tb:Nat}{L:List Tok}{M0 M1 M2 M3 M4:List Tok} (h:RdP w rb tb L) (hB:8 * L.length≤B) (d0:acc sDot L=(false,M0)) (d1:acc sDots L=(false,M1)) (d2:acc sOpen L=(false,M2)) (d3:acc sSqO L=(false,M3)) (d4:acc sCuO L=(true,M4)) :
  Calls Tryz.prog 139 #[.pointer (some ⟨rb,0,none⟩)] w (Gv rb tb w L (buildS P M4)):=by
 have hn:=Nq.start h
 have hfd:=field_text
 go_enter Tryz.func139,Tryz.ntmps139
 go_wp2_with fail
 refine Calls.mono (acceptF hn.rd d0) ?_
 rintro e w1 ⟨rfl,k1,r1⟩
 have hn:=hn.call k1 r1
 go_wp2_with fail
 refine Calls.mono (acceptF hn.rd d1) ?_
 rintro e w2 ⟨rfl,k2,r2⟩
 have hn:=hn.call k2 r2
 go_wp2_with fail
 refine Calls.mono (acceptF hn.rd d2) ?_
 rintro e w3 ⟨rfl,k3,r3⟩
 have hn:=hn.call k3 r3
 go_wp2_with fail
 refine Calls.mono (acceptF hn.rd d3) ?_
 rintro e w4 ⟨rfl,k4,r4⟩
 have hn:=hn.call k4 r4
 go_wp2_with fail
 refine Calls.mono (acceptT hn.rd d4) ?_
 rintro e w5 ⟨rfl,k5,r5⟩
 have b5:=acc_true d4
 have s5:=sx_acct d4
 have hn:=hn.call k5 r5
 go_wp2_with fail
 refine Calls.mono (hU hn.rd (by omega)) ?_
 rintro e w6 ⟨v6,L6,rfl,o6,k6,r6,b6,s6,f6⟩
 have hn:=hn.item k6 r6 f6
 go_wp2_with fail
 go_ret
 have t6:Sx L6 L6:=Sx.refl _
 have t5:Sx M4 L6:=s6.trans t6
 have t0:Sx L L6:=s5.trans t5
 exact ⟨v6,L6,rfl,o6,hn.kept,hn.rd,by omega,t0,f6.mono fun t ht _=>hn.kid (.head _) ht⟩
theorem signed_none {P:Ps}{B:Nat} (hP:SndP P B) {w:World}{rb tb:Nat}{L:List Tok}{M0 M1 M2 M3 M4:List Tok} (h:RdP w rb tb L) (hB:8 * L.length≤B) (d0:acc sDot L=(false,M0)) (d1:acc sDots L=(false,M1)) (d2:acc sOpen L=(false,M2)) (d3:acc sSqO L=(false,M3)) (d4:acc sCuO L=(false,M4)) :
  Calls Tryz.prog 139 #[.pointer (some ⟨rb,0,none⟩)] w (Gv rb tb w L (.error L)):=by
 have hn:=Nq.start h
 have hfd:=field_text
 go_enter Tryz.func139,Tryz.ntmps139
 go_wp2_with fail
 refine Calls.mono (acceptF hn.rd d0) ?_
 rintro e w1 ⟨rfl,k1,r1⟩
 have hn:=hn.call k1 r1
 go_wp2_with fail
 refine Calls.mono (acceptF hn.rd d1) ?_
 rintro e w2 ⟨rfl,k2,r2⟩
 have hn:=hn.call k2 r2
 go_wp2_with fail
 refine Calls.mono (acceptF hn.rd d2) ?_
 rintro e w3 ⟨rfl,k3,r3⟩
 have hn:=hn.call k3 r3
 go_wp2_with fail
 refine Calls.mono (acceptF hn.rd d3) ?_
 rintro e w4 ⟨rfl,k4,r4⟩
 have hn:=hn.call k4 r4
 go_wp2_with fail
 refine Calls.mono (acceptF hn.rd d4) ?_
 rintro e w5 ⟨rfl,k5,r5⟩
 have hn:=hn.call k5 r5
 go_wp2_with fail
 refine Calls.mono (failQ hn.rd) ?_
 rintro e w6 ⟨rfl,k6,r6,q6⟩
 have hn:=hn.call k6 r6
 go_wp2_with fail
 go_ret
 exact ⟨.nilIface,stuck L,rfl,rfl,hn.kept,hn.rd,Nat.le_of_eq (stuck_len _),fun k=>stuck_one k,Fn.bad rfl (wf_stuck_kind h.wf)⟩
theorem signed_ok {P:Ps}{B:Nat} (hP:SndP P B) (hU:∀ {w:World}{rb tb:Nat}{L:List Tok},RdP w rb tb L→8 * L.length+8≤B→Calls Tryz.prog 142 #[.pointer (some ⟨rb,0,none⟩)] w (Gv rb tb w L (buildS P L))) {w:World}{rb tb:Nat}{L:List Tok} (h:RdP w rb tb L) (hB:8 * L.length≤B) :
  Calls Tryz.prog 139 #[.pointer (some ⟨rb,0,none⟩)] w (Gv rb tb w L (signedS P L)):=by
 cases d0:acc sDot L with
 | mk b0 M0 =>
 cases b0 with
 | true =>
  have hw:Wf M0:=by
   have:=acc_wf (s:=sDot) h.wf
   rwa [d0] at this
  match M0,hw,d0 with
  | t :: m,hw,d0 =>
   by_cases ht:t.kind=2
   ·obtain ⟨u,l,rfl⟩:=wf_pair hw (by omega) (by omega)
    rw [show signedS P L = .ok (nd 5 { Pyl.none with name:=t.text } [identT],u :: l) by simp [signedS,d0,exk,ht]]
    exact signed_field h d0 ht
   ·have hx:exk 2 (t :: m) = .error (t :: m):=by
     cases m with
     | nil=>rfl
     | cons u l=>simp [exk,ht]
    rw [show signedS P L = .ok (identT,t :: m) by simp [signedS,d0,hx]]
    exact signed_dot h d0 ht
 | false =>
 cases d1:acc sDots L with
 | mk b1 M1 =>
 cases b1 with
 | true =>
  rw [show signedS P L = .ok (nd 1 Pyl.none [],M1) by simp [signedS,d0,d1]]
  exact signed_dots hP h hB d0 d1
 | false =>
 cases d2:acc sOpen L with
 | mk b2 M2 =>
 cases b2 with
 | true =>
  rw [show signedS P L=thn (P 0 M2) fun f l2=>thn (exq sShut l2) fun _ l3=>.ok (f,l3) by simp [signedS,d0,d1,d2]]
  exact signed_brackets hP h hB d0 d1 d2
 | false =>
 cases d3:acc sSqO L with
 | mk b3 M3 =>
 cases b3 with
 | true =>
  cases d9:acc sSqC M3 with
  | mk b9 M9 =>
  cases b9 with
  | true =>
   rw [show signedS P L = .ok (nd 9 Pyl.none [],M9) by simp [signedS,d0,d1,d2,d3,d9]]
   exact signed_empty hP h hB d0 d1 d2 d3 d9
  | false =>
   rw [show signedS P L=thn (P 0 M3) fun f l2=>thn (exq sSqC l2) fun _ l3=>.ok (nd 9 Pyl.none [f],l3) by simp [signedS,d0,d1,d2,d3,d9]]
   exact signed_collect hP h hB d0 d1 d2 d3 d9
 | false =>
 cases d4:acc sCuO L with
 | mk b4 M4 =>
 cases b4 with
 | true =>
  rw [show signedS P L=buildS P M4 by simp [signedS,d0,d1,d2,d3,d4]]
  exact signed_build hP hU h hB d0 d1 d2 d3 d4
 | false =>
  rw [show signedS P L = .error L by simp [signedS,d0,d1,d2,d3,d4]]
  exact signed_none hP h hB d0 d1 d2 d3 d4
end Go.Proofs.Tryz
