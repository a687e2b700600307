import Derived.Test.YtfocepfmpnpaiaaGreatDoorYc7
import Derived.Deep.RegionHeld3
import Derived.Deep.AppendLies
import Derived.StillTactics
import Derived.OwnWalk
import Derived.Laws.Pointers
import Derived.KernelRfl
import Derived.Handy
import Derived.Deep.RegionLaw
set_option linter.all false
namespace Go.Proofs.Tryz
set_option maxHeartbeats 16000000
open Go.RowKit
set_option maxRecDepth 10000
theorem digits_val {s:ByteArray}{n:Int} (h:digitsVal s.data.toList=some n):n=digN s:=by
 unfold digitsVal at h
 split at h
 ·cases h
 ·split at h
  ·cases h
   rfl
  ·cases h
theorem primary_name {P:Ps}{B:Nat} (hK:∀ {w:World}{rb tb:Nat}{t u:Tok}{l:List Tok},RdP w rb tb (t :: u :: l)→t.kind=2→8 * (u :: l).length≤B→Calls Tryz.prog 136 #[.pointer (some ⟨rb,0,none⟩)] w (Gv rb tb w (t :: u :: l) (callS P t (u :: l)))) {w:World}{rb tb:Nat}{t:Tok}{u:Tok}{l:List Tok} (h:RdP w rb tb (t :: u :: l)) (hk:t.kind=2) (hB:8 * (t :: u :: l).length≤B) :
  Calls Tryz.prog 129 #[.pointer (some ⟨rb,0,none⟩)] w (Gv rb tb w (t :: u :: l) (callS P t (u :: l))):=by
 obtain ⟨o,c,⟨hr,hcap,hmax,hfz,hne2,htb,⟨h0,h1,h2,hrest⟩⟩⟩:=h.rd
 clear hrest
 simp only [List.length_cons] at hr hcap
 have hc:=Cl.start w [.int .u8 2,.string t.text,.int .i64 t.pos] 62
 have hn:=(Nq.start h).own (.cells #[.int .u8 2,.string t.text,.int .i64 t.pos] 62)
 rw [hk] at h0
 go_enter Tryz.func129,Tryz.ntmps129
 go_wp2_with fail
 refine Calls.mono (hK hn.rd hk (by simp only [List.length_cons] at hB ⊢;omega)) ?_
 rintro e w1 ⟨v1,L1,rfl,o1,k1,r1,b1,s1,f1⟩
 have hn:=hn.item k1 r1 f1
 go_wp2_with fail
 go_ret
 exact ⟨v1,L1,rfl,o1,hn.kept,hn.rd,b1,s1,f1.mono fun t ht _=>hn.kid (.head _) ht⟩
theorem primary_var {w:World}{rb tb:Nat}{t:Tok}{u:Tok}{l:List Tok} (h:RdP w rb tb (t :: u :: l)) (hk:t.kind=4) :
  Calls Tryz.prog 129 #[.pointer (some ⟨rb,0,none⟩)] w (Gv rb tb w (t :: u :: l) (.ok (nd 3 { Pyl.none with name:=t.text,num:=t.pos } [],u :: l))):=by
 obtain ⟨o,c,⟨hr,hcap,hmax,hfz,hne2,htb,⟨h0,h1,h2,hrest⟩⟩⟩:=h.rd
 clear hrest
 simp only [List.length_cons] at hr hcap
 have hc:=Cl.start w [.int .u8 4,.string t.text,.int .i64 t.pos] 62
 have hn:=(Nq.start h).own (.cells #[.int .u8 4,.string t.text,.int .i64 t.pos] 62)
 rw [hk] at h0
 go_enter Tryz.func129,Tryz.ntmps129
 go_wp2_with fail
 refine Calls.mono (takeQ hn.rd) ?_
 rintro e w1 ⟨rfl,k1,r1⟩
 have hc:=hc.call hn (.head _) k1
 have hn:=hn.call k1 r1
 have q0:w1.cell? ⟨w.heap.size,1,none⟩=some (.string t.text):=(hc.cell 1).trans rfl
 have q1:w1.cell? ⟨w.heap.size,2,none⟩=some (.int .i64 t.pos):=(hc.cell 2).trans rfl
 go_wp2_with fail
 have hc:=Cl.start w1 [.string t.text,.int .i64 t.pos] 104
 have hn:=hn.own (.cells #[.string t.text,.int .i64 t.pos] 104)
 go_ret
 have hm:=hn.mine _ (.head _)
 exact ⟨.iface (typF 3) (.pointer (some ⟨w1.heap.size,0,none⟩)),u :: l,rfl,rfl,hn.kept,hn.rd,by simp,fun k=>absurd (show t.kind=1 from k) (by omega),Fn.ok (Rf.mk hm.1 hm.2 rfl ⟨(hc.cell 0).trans rfl,(hc.cell 1).trans rfl,trivial⟩)⟩
theorem primary_str {w:World}{rb tb:Nat}{t:Tok}{u:Tok}{l:List Tok} (h:RdP w rb tb (t :: u :: l)) (hk:t.kind=6) :
  Calls Tryz.prog 129 #[.pointer (some ⟨rb,0,none⟩)] w (Gv rb tb w (t :: u :: l) (.ok (litT (4,0,t.text),u :: l))):=by
 obtain ⟨o,c,⟨hr,hcap,hmax,hfz,hne2,htb,⟨h0,h1,h2,hrest⟩⟩⟩:=h.rd
 clear hrest
 simp only [List.length_cons] at hr hcap
 have hc:=Cl.start w [.int .u8 6,.string t.text,.int .i64 t.pos] 62
 have hn:=(Nq.start h).own (.cells #[.int .u8 6,.string t.text,.int .i64 t.pos] 62)
 rw [hk] at h0
 go_enter Tryz.func129,Tryz.ntmps129
 go_wp2_with fail
 refine Calls.mono (takeQ hn.rd) ?_
 rintro e w1 ⟨rfl,k1,r1⟩
 have hc:=hc.call hn (.head _) k1
 have hn:=hn.call k1 r1
 have q0:w1.cell? ⟨w.heap.size,1,none⟩=some (.string t.text):=(hc.cell 1).trans rfl
 have q1:w1.cell? ⟨w.heap.size,2,none⟩=some (.int .i64 t.pos):=(hc.cell 2).trans rfl
 go_wp2_with fail
 have hc:=Cl.start w1 [.iface 201 (.string t.text)] 101
 have hn:=hn.own (.cells #[.iface 201 (.string t.text)] 101)
 go_ret
 have hm:=hn.mine _ (.head _)
 exact ⟨.iface (typF 2) (.pointer (some ⟨w1.heap.size,0,none⟩)),u :: l,rfl,rfl,hn.kept,hn.rd,by simp,fun k=>absurd (show t.kind=1 from k) (by omega),Fn.ok (Rf.mk hm.1 hm.2 rfl ⟨(hc.cell 0).trans rfl,trivial⟩)⟩
theorem primary_num (hI:ParsesInt) {w:World}{rb tb:Nat}{t:Tok}{u:Tok}{l:List Tok} (h:RdP w rb tb (t :: u :: l)) (hk:t.kind=5) :
  Calls Tryz.prog 129 #[.pointer (some ⟨rb,0,none⟩)] w (Gv rb tb w (t :: u :: l) (.ok (litT (3,0,t.text),u :: l))):=by
 obtain ⟨n,hd⟩:=h.wf.1.num hk
 have hdn:=digits_val hd
 subst hdn
 obtain ⟨o,c,⟨hr,hcap,hmax,hfz,hne2,htb,⟨h0,h1,h2,hrest⟩⟩⟩:=h.rd
 clear hrest
 simp only [List.length_cons] at hr hcap
 have hc:=Cl.start w [.int .u8 5,.string t.text,.int .i64 t.pos] 62
 have hn:=(Nq.start h).own (.cells #[.int .u8 5,.string t.text,.int .i64 t.pos] 62)
 rw [hk] at h0
 go_enter Tryz.func129,Tryz.ntmps129
 go_wp2_with fail
 refine Calls.mono (takeQ hn.rd) ?_
 rintro e w1 ⟨rfl,k1,r1⟩
 have hc:=hc.call hn (.head _) k1
 have hn:=hn.call k1 r1
 have q0:w1.cell? ⟨w.heap.size,1,none⟩=some (.string t.text):=(hc.cell 1).trans rfl
 have q1:w1.cell? ⟨w.heap.size,2,none⟩=some (.int .i64 t.pos):=(hc.cell 2).trans rfl
 go_wp2_with fail
 refine Calls.mono (hI _ _ _ hd) ?_
 rintro e w2 ⟨rfl,h3⟩
 have hn:=hn.below h3
 go_wp2_with fail
 have hc:=Cl.start w2 [.iface 199 (.int .i64 (digN t.text))] 101
 have hn:=hn.own (.cells #[.iface 199 (.int .i64 (digN t.text))] 101)
 go_ret
 have hm:=hn.mine _ (.head _)
 exact ⟨.iface (typF 2) (.pointer (some ⟨w2.heap.size,0,none⟩)),u :: l,rfl,rfl,hn.kept,hn.rd,by simp,fun k=>absurd (show t.kind=1 from k) (by omega),Fn.ok (Rf.mk hm.1 hm.2 rfl ⟨(hc.cell 0).trans rfl,trivial⟩)⟩
theorem primary_word {w:World}{rb tb:Nat}{t:Tok}{u:Tok}{l:List Tok} (h:RdP w rb tb (t :: u :: l)) (hk:t.kind=3) :
  Calls Tryz.prog 129 #[.pointer (some ⟨rb,0,none⟩)] w (Gv rb tb w (t :: u :: l) (wordyS (t :: u :: l))):=by
 obtain ⟨o,c,⟨hr,hcap,hmax,hfz,hne2,htb,⟨h0,h1,h2,hrest⟩⟩⟩:=h.rd
 clear hrest
 simp only [List.length_cons] at hr hcap
 have hc:=Cl.start w [.int .u8 3,.string t.text,.int .i64 t.pos] 62
 have hn:=(Nq.start h).own (.cells #[.int .u8 3,.string t.text,.int .i64 t.pos] 62)
 rw [hk] at h0
 go_enter Tryz.func129,Tryz.ntmps129
 go_wp2_with fail
 refine Calls.mono (wordy_ok hn.rd) ?_
 rintro e w1 ⟨v1,L1,rfl,o1,k1,r1,b1,s1,f1⟩
 have hn:=hn.item k1 r1 f1
 go_wp2_with fail
 go_ret
 exact ⟨v1,L1,rfl,o1,hn.kept,hn.rd,b1,s1,f1.mono fun t ht _=>hn.kid (.head _) ht⟩
theorem primary_sign {P:Ps}{B:Nat} (hP:SndP P B) (hU:∀ {w:World}{rb tb:Nat}{L:List Tok},RdP w rb tb L→8 * L.length+8≤B→Calls Tryz.prog 142 #[.pointer (some ⟨rb,0,none⟩)] w (Gv rb tb w L (buildS P L))) {w:World}{rb tb:Nat}{t:Tok}{m:List Tok} (h:RdP w rb tb (t :: m)) (hB:8 * (t :: m).length≤B) (i2:t.kind≠2) (i4:t.kind≠4) (i5:t.kind≠5) (i6:t.kind≠6) (i3:t.kind≠3) :
  Calls Tryz.prog 129 #[.pointer (some ⟨rb,0,none⟩)] w (Gv rb tb w (t :: m) (signedS P (t :: m))):=by
 obtain ⟨o,c,⟨hr,hcap,hmax,hfz,hne2,htb,⟨h0,h1,h2,hrest⟩⟩⟩:=h.rd
 clear hrest
 simp only [List.length_cons] at hr hcap
 have hc:=Cl.start w [.int .u8 t.kind,.string t.text,.int .i64 t.pos] 62
 have hn:=(Nq.start h).own (.cells #[.int .u8 t.kind,.string t.text,.int .i64 t.pos] 62)
 have j2:(t.kind == 2)=false:=by simpa using i2
 have j4:(t.kind == 4)=false:=by simpa using i4
 have j5:(t.kind == 5)=false:=by simpa using i5
 have j6:(t.kind == 6)=false:=by simpa using i6
 have j3:(t.kind == 3)=false:=by simpa using i3
 go_enter Tryz.func129,Tryz.ntmps129
 go_wp2_with fail
 refine Calls.mono (signed_ok hP hU hn.rd hB) ?_
 rintro e w1 ⟨v1,L1,rfl,o1,k1,r1,b1,s1,f1⟩
 have hn:=hn.item k1 r1 f1
 go_wp2_with fail
 go_ret
 exact ⟨v1,L1,rfl,o1,hn.kept,hn.rd,b1,s1,f1.mono fun t ht _=>hn.kid (.head _) ht⟩
theorem primary_ok (hI:ParsesInt) {P:Ps}{B:Nat} (hK:∀ {w:World}{rb tb:Nat}{t u:Tok}{l:List Tok},RdP w rb tb (t :: u :: l)→t.kind=2→8 * (u :: l).length≤B→Calls Tryz.prog 136 #[.pointer (some ⟨rb,0,none⟩)] w (Gv rb tb w (t :: u :: l) (callS P t (u :: l)))) (hP:SndP P B) (hU:∀ {w:World}{rb tb:Nat}{L:List Tok},RdP w rb tb L→8 * L.length+8≤B→Calls Tryz.prog 142 #[.pointer (some ⟨rb,0,none⟩)] w (Gv rb tb w L (buildS P L))) {w:World}{rb tb:Nat}{L:List Tok} (h:RdP w rb tb L) (hB:8 * L.length≤B) :
  Calls Tryz.prog 129 #[.pointer (some ⟨rb,0,none⟩)] w (Gv rb tb w L (primaryS P L)):=by
 match L,h,hB with
 | [],h,_=>exact h.wf.elim
 | [t],h,hB =>
  have hw:t.kind=0∨t.kind=1:=h.wf
  exact primary_sign hP hU h hB (by omega) (by omega) (by omega) (by omega) (by omega)
 | t :: u :: l,h,hB =>
  by_cases k2:t.kind=2
  ·rw [show primaryS P (t :: u :: l)=callS P t (u :: l) by simp [primaryS,k2]]
   exact primary_name hK h k2 hB
  by_cases k4:t.kind=4
  ·rw [show primaryS P (t :: u :: l) = .ok (nd 3 { Pyl.none with name:=t.text,num:=t.pos } [],u :: l) by simp [primaryS,k2,k4]]
   exact primary_var h k4
  by_cases k5:t.kind=5
  ·rw [show primaryS P (t :: u :: l) = .ok (litT (3,0,t.text),u :: l) by simp [primaryS,k2,k4,k5]]
   exact primary_num hI h k5
  by_cases k6:t.kind=6
  ·rw [show primaryS P (t :: u :: l) = .ok (litT (4,0,t.text),u :: l) by simp [primaryS,k2,k4,k5,k6]]
   exact primary_str h k6
  by_cases k3:t.kind=3
  ·rw [show primaryS P (t :: u :: l)=wordyS (t :: u :: l) by simp [primaryS,k2,k4,k5,k6,k3]]
   exact primary_word h k3
  rw [show primaryS P (t :: u :: l)=signedS P (t :: u :: l) by simp [primaryS,k2,k4,k5,k6,k3]]
  exact primary_sign hP hU h hB k2 k4 k5 k6 k3
end Go.Proofs.Tryz
namespace Go.Proofs.Tryz
set_option maxHeartbeats 16000000
open Go.RowKit
set_option maxRecDepth 10000
theorem thn_thn {α β γ:Type} (x:Out α) (f:α→List Tok→Out β) (g:β→List Tok→Out γ):thn (thn x f) g=thn x fun a l=>thn (f a l) g:=by
 match x with
 | .ok (a,l)=>rfl
 | .error r=>rfl
def PfR (P:Ps) (w wr:World) (L M:List Tok) (v:Value):Prop :=
 (∃ f m,M.length≤m∧postfixS P L=afterS P m f M∧Rf (w.heap.size≤·) wr f v)∨(∃ r,postfixS P L = .error r∧M=stuck r∧kindOf M=1)
theorem pf_next {P:Ps}{w w':World}{L M':List Tok}{v':Value}{x:Out Tn}{m:Nat} (h:postfixS P L=thn x fun f l=>afterS P m f l) (f:Fn x M' fun t=>Rf (w.heap.size≤·) w' t v') (hm:M'.length≤m):PfR P w w' L M' v':=by
 match x,f with
 | .ok (t,l),⟨e,g⟩=>subst e;exact .inl ⟨t,m,hm,h,g⟩
 | .error r,⟨e,k⟩=>exact .inr ⟨r,h,e,k⟩
theorem PfR.yes {P:Ps}{w wr:World}{L M M1:List Tok}{v:Value}{s:ByteArray} (h:PfR P w wr L M v) (e:acc s M=(true,M1)):∃ f m,M1.length≤m∧postfixS P L=afterS P (m+1) f M∧Rf (w.heap.size≤·) wr f v:=by
 rcases h with ⟨f,m,h1,h2,h3⟩ | ⟨r,_,_,k⟩
 ·have:=acc_true e
  match m,h1,h2 with
  | 0,h1,_=>omega
  | m+1,h1,h2=>exact ⟨f,m,by omega,h2,h3⟩
 ·rw [acc_one k] at e
  cases e
def PfI (P:Ps) (w:World) (rb tb:Nat) (L:List Tok) (k:Nat) (v:Value) (wr:World):Prop :=
 ∃ u M,u=v∧u.oneCell'=true∧Nq w wr rb tb [] M []∧M.length≤L.length∧M.length≤k∧Sx L M∧PfR P w wr L M u
theorem Nq.drop {a w:World}{rb tb:Nat}{X:List Nat}{L:List Tok}{its:List (Out Tn×Value)} (h:Nq a w rb tb X L its):Nq a w rb tb [] L [] :=
 ⟨h.kept,h.rd,h.rbs,h.tbs,fun b hb=>by simp at hb,fun q hq=>by simp at hq⟩
theorem postfix_ok {P:Ps}{B:Nat} (hP:SndP P B) {w:World}{rb tb:Nat}{L:List Tok} (h:RdP w rb tb L) (hB:8 * L.length+1≤B) :
  Calls Tryz.prog 112 #[.pointer (some ⟨rb,0,none⟩)] w (Gv rb tb w L (postfixS P L)):=by
 have hn:=Nq.start h
 have hfd:=field_text
 go_enter Tryz.func112,Tryz.ntmps112
 go_wp2_with fail
 refine Calls.mono (hP.prim hn.rd (by omega)) ?_
 rintro e w1 ⟨v1,L1,rfl,o1,k1,r1,b1,s1,f1⟩
 have hn:=hn.item k1 r1 f1
 have x1:=cells_one o1
 go_wp2_with fail
 go_loopg [3] (L.length+1) (fun k v wr=>PfI P w rb tb L k v wr)
 case atStart =>
  refine ⟨_,L1,rfl,o1,hn.drop,b1,by omega,s1,?_⟩
  unfold PfR postfixS
  match hx:P 4 L,f1 with
  | .ok (t,l),⟨e,g⟩=>subst e;exact .inl ⟨t,_,Nat.le_refl _,rfl,g⟩
  | .error r,⟨e,k⟩=>exact .inr ⟨r,rfl,e,k⟩
 case round =>
  obtain ⟨v,M,rfl,ov,hn,bM,bk,sM,hR⟩:=hrel
  have xv:=cells_one ov
  have zv:=xv
  unfold Value.cells at zv
  match gk,bk with
  | 0,bk=>exact absurd (hn.rd.wf.ne) (by intro h;exact h (List.eq_nil_of_length_eq_zero (by omega)))
  | k+1,bk =>
  cases d0:acc sDot M with
  | mk qd0 M0 =>
  cases qd0 with
  | true =>
   obtain ⟨f,m,hm0,hE,hF⟩:=hR.yes d0
   have hn:=hn.add (x:=.ok (f,[])) (v:=v) (fun t l e=>by
    cases e
    exact hF.keep (fun b hb _=>⟨hb,by simp⟩) (Nat.le_refl _) (fun _ _ _=>rfl))
   go_wp2_with fail
   refine Calls.mono (acceptT hn.rd d0) ?_
   rintro e w11 ⟨rfl,k11,r11⟩
   have b11:=acc_true d0
   have s11:=sx_acct d0
   have hn:=hn.call k11 r11
   go_wp2_with fail
   refine Calls.mono (expectKindQ hn.rd (by decide) (by decide)) ?_
   rintro e w12 ⟨c12,n12,p12,L12,rfl,k12,r12,b12,f12,s12⟩
   have hn:=hn.call k12 r12
   go_wp2_with fail
   have hc:=Cl.start w12 [v,.string n12] 160
   have hn:=hn.own (.cells #[v,.string n12] 160)
   go_roundg k
   case measure=>omega
   case rel =>
    refine ⟨_,L12,rfl,rfl,hn.drop,by omega,by omega,?_,?_⟩
    ·exact Sx.trans sM (Sx.trans s11 (Sx.trans s12 (Sx.refl _)))
    ·refine pf_next (m:=m) (x:=thn (exk 2 M0) fun t l2=>.ok (nd 5 { Pyl.none with name:=t.text } [f],l2)) (by rw [hE];first | (simp only [thn_thn];rw [show afterS P (m+1) f M=thn (P 0 M1) fun b l2=>thn (exq sSqC l2) fun _ l3=>afterS P m (nd 6 Pyl.none [f,b]) l3 by simp [afterS,d0,d1,d9]];rfl) | (rw [thn_thn];simp [afterS,d0,thn];done) | simp [afterS,d0,thn]) ?_ (by omega)
     have hm:=hn.mine _ (.head _)
     exact Fn.thn f12 (fun a e g=>Fn.ok (Rf.mk hm.1 hm.2 rfl ⟨⟨_,(hc.cell 0).trans rfl,hn.kid (.head _) rfl⟩,(hc.cell 1).trans (txt_eq g.1),trivial⟩)) (Sx.refl _)
  | false =>
  cases d1:acc sSqO M with
  | mk qd1 M1 =>
  cases qd1 with
  | true =>
   cases d9:acc sSqC M1 with
   | mk qd9 M9 =>
   cases qd9 with
   | true =>
    obtain ⟨f,m,hm0,hE,hF⟩:=hR.yes d1
    have hn:=hn.add (x:=.ok (f,[])) (v:=v) (fun t l e=>by
     cases e
     exact hF.keep (fun b hb _=>⟨hb,by simp⟩) (Nat.le_refl _) (fun _ _ _=>rfl))
    go_wp2_with fail
    refine Calls.mono (acceptF hn.rd d0) ?_
    rintro e w11 ⟨rfl,k11,r11⟩
    have hn:=hn.call k11 r11
    go_wp2_with fail
    refine Calls.mono (acceptT hn.rd d1) ?_
    rintro e w12 ⟨rfl,k12,r12⟩
    have b12:=acc_true d1
    have s12:=sx_acct d1
    have hn:=hn.call k12 r12
    go_wp2_with fail
    refine Calls.mono (acceptT hn.rd d9) ?_
    rintro e w13 ⟨rfl,k13,r13⟩
    have b13:=acc_true d9
    have s13:=sx_acct d9
    have hn:=hn.call k13 r13
    go_wp2_with fail
    have hc:=Cl.start w13 [v] 163
    have hn:=hn.own (.cells #[v] 163)
    go_roundg k
    case measure=>omega
    case rel =>
     refine ⟨_,M9,rfl,rfl,hn.drop,by omega,by omega,?_,?_⟩
     ·exact Sx.trans sM (Sx.trans s12 (Sx.trans s13 (Sx.refl _)))
     ·refine pf_next (m:=m) (x:=.ok (nd 7 Pyl.none [f],M9)) (by rw [hE];first | (simp only [thn_thn];rw [show afterS P (m+1) f M=thn (P 0 M1) fun b l2=>thn (exq sSqC l2) fun _ l3=>afterS P m (nd 6 Pyl.none [f,b]) l3 by simp [afterS,d0,d1,d9]];rfl) | (rw [thn_thn];simp [afterS,d0,d1,d9,thn];done) | simp [afterS,d0,d1,d9,thn]) ?_ (by omega)
      have hm:=hn.mine _ (.head _)
      exact Fn.ok (Rf.mk hm.1 hm.2 rfl ⟨⟨_,(hc.cell 0).trans rfl,hn.kid (.head _) rfl⟩,trivial⟩)
   | false =>
   obtain ⟨f,m,hm0,hE,hF⟩:=hR.yes d1
   have hn:=hn.add (x:=.ok (f,[])) (v:=v) (fun t l e=>by
    cases e
    exact hF.keep (fun b hb _=>⟨hb,by simp⟩) (Nat.le_refl _) (fun _ _ _=>rfl))
   go_wp2_with fail
   refine Calls.mono (acceptF hn.rd d0) ?_
   rintro e w11 ⟨rfl,k11,r11⟩
   have hn:=hn.call k11 r11
   go_wp2_with fail
   refine Calls.mono (acceptT hn.rd d1) ?_
   rintro e w12 ⟨rfl,k12,r12⟩
   have b12:=acc_true d1
   have s12:=sx_acct d1
   have hn:=hn.call k12 r12
   go_wp2_with fail
   refine Calls.mono (acceptF hn.rd d9) ?_
   rintro e w13 ⟨rfl,k13,r13⟩
   have hn:=hn.call k13 r13
   go_wp2_with fail
   refine Calls.mono (hP.filter hn.rd (by omega)) ?_
   rintro e w14 ⟨v14,L14,rfl,o14,k14,r14,b14,s14,f14⟩
   have hn:=hn.item k14 r14 f14
   have x14:=cells_one o14
   have z14:=x14
   unfold Value.cells at z14
   go_wp2_with fail
   have hc:=Cl.start w14 [v,v14] 162
   have hn:=hn.own (.cells #[v,v14] 162)
   refine Calls.mono (expectQ hn.rd) ?_
   rintro e w15 ⟨rfl,L15,k15,r15,b15,f15,s15⟩
   have hc:=hc.call hn (.head _) k15
   have hn:=hn.call k15 r15
   go_wp2_with fail
   go_roundg k
   case measure=>omega
   case rel =>
    refine ⟨_,L15,rfl,rfl,hn.drop,by omega,by omega,?_,?_⟩
    ·exact Sx.trans sM (Sx.trans s12 (Sx.trans s14 (Sx.trans s15 (Sx.refl _))))
    ·refine pf_next (m:=m) (x:=thn (P 0 M1) fun b l2=>thn (exq sSqC l2) fun _ l3=>.ok (nd 6 Pyl.none [f,b],l3)) (by rw [hE];first | (simp only [thn_thn];rw [show afterS P (m+1) f M=thn (P 0 M1) fun b l2=>thn (exq sSqC l2) fun _ l3=>afterS P m (nd 6 Pyl.none [f,b]) l3 by simp [afterS,d0,d1,d9]];rfl) | (rw [thn_thn];simp [afterS,d0,d1,d9,thn_thn,thn];done) | simp [afterS,d0,d1,d9,thn_thn,thn]) ?_ (by omega)
     have hm:=hn.mine _ (.head _)
     exact Fn.thn f14 (fun a14 e14 _=>Fn.thn f15 (fun _ _ _=>Fn.ok (Rf.mk hm.1 hm.2 rfl ⟨⟨_,(hc.cell 0).trans rfl,hn.kid (.tail _ (.head _)) rfl⟩,⟨_,(hc.cell 1).trans rfl,hn.kid (.head _) e14⟩,trivial⟩)) (Sx.refl _)) s15
  | false =>
  cases d2:acc sAsk M with
  | mk qd2 M2 =>
  cases qd2 with
  | true =>
   obtain ⟨f,m,hm0,hE,hF⟩:=hR.yes d2
   have hn:=hn.add (x:=.ok (f,[])) (v:=v) (fun t l e=>by
    cases e
    exact hF.keep (fun b hb _=>⟨hb,by simp⟩) (Nat.le_refl _) (fun _ _ _=>rfl))
   go_wp2_with fail
   refine Calls.mono (acceptF hn.rd d0) ?_
   rintro e w11 ⟨rfl,k11,r11⟩
   have hn:=hn.call k11 r11
   go_wp2_with fail
   refine Calls.mono (acceptF hn.rd d1) ?_
   rintro e w12 ⟨rfl,k12,r12⟩
   have hn:=hn.call k12 r12
   go_wp2_with fail
   refine Calls.mono (acceptT hn.rd d2) ?_
   rintro e w13 ⟨rfl,k13,r13⟩
   have b13:=acc_true d2
   have s13:=sx_acct d2
   have hn:=hn.call k13 r13
   go_wp2_with fail
   have hc:=Cl.start w13 [v] 164
   have hn:=hn.own (.cells #[v] 164)
   go_roundg k
   case measure=>omega
   case rel =>
    refine ⟨_,M2,rfl,rfl,hn.drop,by omega,by omega,?_,?_⟩
    ·exact Sx.trans sM (Sx.trans s13 (Sx.refl _))
    ·refine pf_next (m:=m) (x:=.ok (nd 8 Pyl.none [f],M2)) (by rw [hE];first | (simp only [thn_thn];rw [show afterS P (m+1) f M=thn (P 0 M1) fun b l2=>thn (exq sSqC l2) fun _ l3=>afterS P m (nd 6 Pyl.none [f,b]) l3 by simp [afterS,d0,d1,d9]];rfl) | (rw [thn_thn];simp [afterS,d0,d1,d2,thn];done) | simp [afterS,d0,d1,d2,thn]) ?_ (by omega)
     have hm:=hn.mine _ (.head _)
     exact Fn.ok (Rf.mk hm.1 hm.2 rfl ⟨⟨_,(hc.cell 0).trans rfl,hn.kid (.head _) rfl⟩,trivial⟩)
  | false =>
  rcases hR with ⟨f,m,hm0,hE,hF⟩ | ⟨r,hE,e,k1⟩
  ·have hz:M.length≠0:=fun e=>hn.rd.wf.ne (List.eq_nil_of_length_eq_zero e)
   have hn:=hn.add (x:=.ok (f,[])) (v:=v) (fun t l e=>by
    cases e
    exact hF.keep (fun b hb _=>⟨hb,by simp⟩) (Nat.le_refl _) (fun _ _ _=>rfl))
   go_wp2_with fail
   refine Calls.mono (acceptF hn.rd d0) ?_
   rintro e w11 ⟨rfl,k11,r11⟩
   have hn:=hn.call k11 r11
   go_wp2_with fail
   refine Calls.mono (acceptF hn.rd d1) ?_
   rintro e w12 ⟨rfl,k12,r12⟩
   have hn:=hn.call k12 r12
   go_wp2_with fail
   refine Calls.mono (acceptF hn.rd d2) ?_
   rintro e w13 ⟨rfl,k13,r13⟩
   have hn:=hn.call k13 r13
   go_wp2_with fail
   go_ret
   refine ⟨v,M,rfl,ov,hn.kept,hn.rd,bM,sM,?_⟩
   match m,hm0,hE with
   | 0,hm0,_=>omega
   | m+1,_,hE =>
    rw [hE,show afterS P (m+1) f M = .ok (f,M) by simp [afterS,d0,d1,d2]]
    exact Fn.ok (hn.kid (.head _) rfl)
  ·have hE:=hE
   go_wp2_with fail
   refine Calls.mono (acceptF hn.rd d0) ?_
   rintro e w11 ⟨rfl,k11,r11⟩
   have hn:=hn.call k11 r11
   go_wp2_with fail
   refine Calls.mono (acceptF hn.rd d1) ?_
   rintro e w12 ⟨rfl,k12,r12⟩
   have hn:=hn.call k12 r12
   go_wp2_with fail
   refine Calls.mono (acceptF hn.rd d2) ?_
   rintro e w13 ⟨rfl,k13,r13⟩
   have hn:=hn.call k13 r13
   go_wp2_with fail
   go_ret
   refine ⟨v,M,rfl,ov,hn.kept,hn.rd,bM,sM,?_⟩
   rw [hE]
   exact Fn.bad e k1
end Go.Proofs.Tryz
namespace Go.Proofs.Tryz
set_option maxHeartbeats 16000000
open Go.RowKit
set_option maxRecDepth 10000
variable {a w w' : World} {rb tb : Nat} {X : List Nat} {L : List Tok} {its : List (Out Tn × Value)}
theorem Nq.grown {b:Option Nat} (h:Nq a w rb tb X L its) (k:w.grownBy w' b) (hb:∀ g,b=some g→g∈X) {g':Nat} (hg:b=some g'∨g'=w.heap.size) (hlt:g' < w'.heap.size):Nq a w' rb tb (g' :: X) L its:=by
 have hs:=h.kept.size
 have h1:=h.rbs
 have h2:=h.tbs
 have hx:∀ g,b=some g→a.heap.size≤g:=fun g e=>(h.mine g (hb g e)).1
 have low:∀ i,i < a.heap.size→w'.heap[i]? = w.heap[i]?:=fun i hi=>k.block i (by omega) (fun e=>by have:=hx i e.symm;omega)
 refine ⟨⟨k.os.trans h.kept.os,k.tape.trans h.kept.tape,k.output.trans h.kept.output,Nat.le_trans hs k.size,fun i hi hr ht=>(low i hi).trans (h.kept.block i hi hr ht)⟩,h.rd.same (low rb h1) (low tb h2) k.size,h1,h2,fun i hi=>?_,fun q hq t l' e=>(h.its q hq t l' e).keep (fun i hi hl=>⟨hi.1,?_⟩) k.size (fun i hi hl=>k.block i hl (fun e=>hi.2 (hb i e.symm)))⟩
 ·rcases List.mem_cons.mp hi with rfl | hi
  ·refine ⟨?_,hlt⟩
   rcases hg with e | e
   ·exact hx _ e
   ·omega
  ·exact ⟨(h.mine i hi).1,Nat.lt_of_lt_of_le (h.mine i hi).2 k.size⟩
 ·intro hm
  rcases List.mem_cons.mp hm with e | hm
  ·rcases hg with e' | e'
   ·exact hi.2 (hb i (e ▸ e'))
   ·omega
  ·exact hi.2 hm
theorem Cl.grown {N:Nat}{cs:List Value}{b:Option Nat} (h:Cl w N cs) (k:w.grownBy w' b) (hN:N < w.heap.size) (hb:b≠some N):Cl w' N cs:=h.same (k.block N hN (fun e=>hb e.symm))
theorem Cl.below {N:Nat}{cs:List Value} (h:Cl w N cs) (k:Below w.heap.size w w') (hN:N < w.heap.size):Cl w' N cs:=h.same (k.block N hN)
theorem ownsB_call {T s n:Nat}{v:Value}{xs:List Value} (h:w.ownsRow 0 T s v n xs) (q:Nq a w rb tb X L its) (hg:∀ g,v.ownBlock=some g→g∈X) (k:KeptB rb tb w w'):w'.ownsRow 0 T s v n xs :=
 owns_sameT h fun g e=>by
  have h1:=q.rbs
  have h2:=q.tbs
  have h3:=q.mine g (hg g e)
  exact k.block g h3.2 (by omega) (by omega)
theorem ownsB_below {T s n:Nat}{v:Value}{xs:List Value} (h:w.ownsRow 0 T s v n xs) (k:Below w.heap.size w w'):w'.ownsRow 0 T s v n xs :=
 owns_sameT h fun g e=>k.block g (h.lt g e).2
theorem ownsB_set {T s n N o:Nat}{u v:Value}{xs:List Value} (h:w.ownsRow 0 T s v n xs) (hN:∀ g,v.ownBlock=some g→g≠N):(w.setCell ⟨N,o,none⟩ u).ownsRow 0 T s v n xs :=
 owns_sameT h fun g e=>Below.heap_setCell _ _ _ _ (by simpa using hN g e)
theorem Rf.mkr {p:Nat→Prop}{w:World}{kind:Nat}{y:Pyl}{kids:List Tn}{N:Nat} (hp:p N) (hl:N < w.heap.size) (hc:Cells p w N kids 0 (cellsF kind { y with cnt:=kids.length })) {c T s n:Nat}{ds:List Cd} (hr:rowF kind { y with cnt:=kids.length }=some (c,T,s,n,ds))
  {r:Value}{vs:List Value} (hcell:w.cell? ⟨N,c,none⟩=some r) (ow:w.ownsRow 0 T s r n vs) (hg:∀ g,r.ownBlock=some g→p g) (hlen:vs.length=ds.length)
  (hk:∀ (j:Nat) (d:Cd),ds[j]? = some d→∃ x,vs[j]? = some x∧match d with
    | .error u=>x=u
    | .ok i=>Rf p w (kids.getD i Tn.no) x):Rf p w (nd kind y kids) (.iface (typF kind) (.pointer (some ⟨N,0,none⟩))) :=
 ⟨N,rfl,hp,hl,fun j d hd=>by
  have:=hc.get j d hd
  rwa [Nat.zero_add] at this,fun c' T' s' n' ds' hd=>by
  have hd:rowF kind { y with cnt:=kids.length }=some (c',T',s',n',ds'):=hd
  rw [hr] at hd
  cases hd
  exact ⟨r,vs,hcell,ow,hg,hlen,hk⟩⟩
def itsOf (ts:List Tn) (vs:List Value):List (Out Tn×Value):=(ts.zip vs).map fun q=>(.ok (q.1,[]),q.2)
theorem its_mem {ts:List Tn}{vs:List Value}{j:Nat}{t:Tn}{v:Value} (h1:ts[j]? = some t) (h2:vs[j]? = some v):(.ok (t,[]),v)∈itsOf ts vs:=by
 unfold itsOf
 refine List.mem_map.mpr ⟨(t,v),?_,rfl⟩
 refine List.mem_iff_getElem?.mpr ⟨j,?_⟩
 rw [List.getElem?_zip_eq_some]
 exact ⟨h1,h2⟩
theorem its_add {ts:List Tn}{vs:List Value} (h:ts.length=vs.length) (t:Tn) (v:Value):itsOf (ts ++ [t]) (vs ++ [v])=itsOf ts vs ++ [(.ok (t,[]),v)]:=by
 unfold itsOf
 rw [List.zip_append h,List.map_append]
 rfl
theorem Nq.perm {its':List (Out Tn×Value)} (h:Nq a w rb tb X L its) (hp:∀ q∈its',q∈its):Nq a w rb tb X L its' :=
 ⟨h.kept,h.rd,h.rbs,h.tbs,h.mine,fun q hq=>h.its q (hp q hq)⟩
theorem info_filterP:(Tryz.prog.info? 31).map (fun i=>(i.zero,i.size,i.bytes))=some (some .nilIface,1,16):=by kernel_rfl
theorem info_stringP:(Tryz.prog.info? 9).map (fun i=>(i.zero,i.size,i.bytes))=some (some (.string ⟨#[]⟩),1,16):=by kernel_rfl
def CaR (P:Ps) (L0 M:List Tok) (t:Tok) (n:Nat) (vs:List Value) (its:List (Out Tn×Value)):Prop :=
  (∃ ts m,ts.length=n∧M.length≤m∧callS P t L0=thn (argsS P m M) (fun az l3=>thn (exq sShut l3) fun _ l4=>.ok (nd 11 { Pyl.none with name:=t.text,num:=t.pos } (ts ++ az),l4))∧its=itsOf ts vs)∨
     (∃ r,callS P t L0 = .error r∧M=stuck r∧kindOf M=1)
def CaI (P:Ps) (w wr:World) (rb tb N:Nat) (L0:List Tok) (t:Tok) (k:Nat):Prop :=
 ∃ (X:List Nat) (M:List Tok) (rv:Value) (n:Nat) (vs:List Value) (its:List (Out Tn×Value)),N∈X∧Cl wr N [.string t.text,rv,.int .i64 t.pos]∧(∀ g,rv.ownBlock=some g→g∈X∧g≠N)∧wr.ownsRow 0 31 1 rv n vs∧n+M.length≤L0.length∧M.length≤k∧Sx L0 M∧Nq w wr rb tb X M its∧CaR P L0 M t n vs its
theorem CaR.yes {P:Ps}{L0 M M1:List Tok}{t:Tok}{n:Nat}{vs:List Value}{its:List (Out Tn×Value)}{s:ByteArray} (h:CaR P L0 M t n vs its) (e:acc s M=(true,M1)):∃ ts m,ts.length=n∧M1.length≤m∧callS P t L0=thn (argsS P (m+1) M) (fun az l3=>thn (exq sShut l3) fun _ l4=>.ok (nd 11 { Pyl.none with name:=t.text,num:=t.pos } (ts ++ az),l4))∧its=itsOf ts vs:=by
 rcases h with ⟨ts,m,h1,h2,h3⟩ | ⟨r,_,_,k⟩
 ·have:=acc_true e
  match m,h2,h3 with
  | 0,h2,_=>omega
  | m+1,h2,h3=>exact ⟨ts,m,h1,by omega,h3⟩
 ·rw [acc_one k] at e
  cases e
theorem ca_next {P:Ps}{wr:World}{L0 M:List Tok}{t:Tok}{n:Nat}{vs:List Value}{v:Value}{x:Out Tn}{ts:List Tn}{g:Tn→Prop}{q:List Tok→Nat} (h:callS P t L0=thn x fun a l2=>thn (argsS P (q l2) l2) fun az l3=>thn (exq sShut l3) fun _ l4=>.ok (nd 11 { Pyl.none with name:=t.text,num:=t.pos } (ts ++ a :: az),l4))
  (hq:M.length≤q M) (hx:Fn x M g) (hn:Nq w wr rb tb X M ((x,v) :: itsOf ts vs)) (hl:ts.length=vs.length) (hts:ts.length=n):∃ its,Nq w wr rb tb X M its∧CaR P L0 M t (n+1) (vs ++ [v]) its:=by
 match x,hx with
 | .ok (a,l),⟨e,_⟩ =>
  subst e
  refine ⟨itsOf (ts ++ [a]) (vs ++ [v]),?_,.inl ⟨ts ++ [a],q M,by simp [hts],hq,?_,rfl⟩⟩
  ·rw [its_add hl]
   refine (hn.add (x:=.ok (a,[])) (v:=v) (fun t l' e=>by cases e;exact hn.its _ (.head _) a M rfl)).perm fun q hq=>?_
   rcases List.mem_append.mp hq with h | h
   ·exact .tail _ (.tail _ h)
   ·rw [List.mem_singleton.mp h]
    exact .head _
  ·rw [h]
   simp [thn]
 | .error r,⟨e,k⟩=>exact ⟨[],hn.perm (by simp),.inr ⟨r,h,e,k⟩⟩
end Go.Proofs.Tryz
namespace Go.Proofs.Tryz
set_option maxHeartbeats 16000000
open Go.RowKit
set_option maxRecDepth 10000
theorem Rf.call {a w:World}{rb tb N:Nat}{X:List Nat}{M:List Tok}{t:Tok}{rv:Value}{n:Nat}{vs:List Value}{ts:List Tn}{its:List (Out Tn×Value)} (hn:Nq a w rb tb X M its) (hi:its=itsOf ts vs) (hN:N∈X) (hc:Cl w N [.string t.text,rv,.int .i64 t.pos]) (hg:∀ g,rv.ownBlock=some g→g∈X∧g≠N) (ow:w.ownsRow 0 31 1 rv n vs) (hts:ts.length=n) :
  Rf (a.heap.size≤·) w (nd 11 { Pyl.none with name:=t.text,num:=t.pos } ts) (.iface (typF 11) (.pointer (some ⟨N,0,none⟩))):=by
 have hm:=hn.mine _ hN
 subst hi
 have hl:vs.length=ts.length:=by rw [ow.1,hts];omega
 refine Rf.mkr hm.1 hm.2 ⟨(hc.cell 0).trans rfl,(hc.cell 2).trans rfl,trivial⟩ (c:=1) (T:=31) (s:=1) (n:=ts.length) (ds:=(List.range ts.length).map .ok) rfl ((hc.cell 1).trans rfl) (hts ▸ ow) (fun g e=>(hn.mine g (hg g e).1).1) (by simp [hl]) (fun j d hd=>?_)
 have hj:j < ts.length:=by
  have:=(List.getElem?_eq_some_iff.mp hd).1
  simpa using this
 rw [List.getElem?_map,List.getElem?_range hj] at hd
 cases hd
 refine ⟨vs[j],List.getElem?_eq_getElem (by omega),?_⟩
 have:ts.getD j Tn.no=ts[j]:=by simp [hj]
 show Rf _ w (ts.getD j Tn.no) vs[j]
 rw [this]
 exact hn.kid (its_mem (j:=j) (List.getElem?_eq_getElem hj) (List.getElem?_eq_getElem (by omega))) rfl
theorem call_ok {P:Ps}{B:Nat} (hP:SndP P B) {w:World}{rb tb:Nat}{t u:Tok}{l:List Tok} (h:RdP w rb tb (t :: u :: l)) (hk:t.kind=2) (hB:8 * (u :: l).length≤B) :
  Calls Tryz.prog 136 #[.pointer (some ⟨rb,0,none⟩)] w (Gv rb tb w (t :: u :: l) (callS P t (u :: l))):=by
 have hfd:=field_text
 have hfp:=field_pos
 have hsm:=hP.small
 have hs0:∀ M,Sx (t :: u :: l) M:=fun M k=>absurd (show t.kind=1 from k) (by omega)
 clear hk
 obtain ⟨i0,hi0,hz0,hz1,hz2⟩:=info_parts info_filterP
 go_enter Tryz.func136,Tryz.ntmps136
 go_wp2_with fail
 refine Calls.mono (takeQ h) ?_
 rintro e w1 ⟨rfl,k1,r1⟩
 have hn:=(Nq.start h).call k1 r1
 go_wp2_with fail
 have hc:=Cl.start (w1.alloc (.cells #[.int .u8 t.kind,.string t.text,.int .i64 t.pos] 62)) [.string t.text,.slice none 0 0,.int .i64 t.pos] 120
 have hn:=(hn.alloc (.cells #[.int .u8 t.kind,.string t.text,.int .i64 t.pos] 62)).own (.cells #[.string t.text,.slice none 0 0,.int .i64 t.pos] 120)
 simp only [World.size_alloc] at hc hn
 cases d0:acc sOpen (u :: l) with
 | mk b0 M0 =>
 cases b0 with
 | false =>
  refine Calls.mono (acceptF hn.rd d0) ?_
  rintro e w2 ⟨rfl,k2,r2⟩
  have hc:=hc.call hn (.head _) k2
  have hn:=hn.call k2 r2
  go_wp2_with fail
  go_ret
  exact ⟨.iface (typF 11) (.pointer (some ⟨w1.heap.size+1,0,none⟩)),u :: l,rfl,rfl,hn.kept,hn.rd,by simp,hs0 _,by
   rw [show callS P t (u :: l) = .ok (nd 11 { Pyl.none with name:=t.text,num:=t.pos } [],u :: l) by simp [callS,d0]]
   exact Fn.ok (Rf.call (vs:=[]) (ts:=[]) (hn.perm (fun q hq=>by simp [itsOf] at hq)) rfl (.head _) hc (by simp [Value.ownBlock]) (World.ownsRow_nil _ _ _ _) rfl)⟩
 | true =>
  have b0:=acc_true d0
  refine Calls.mono (acceptT hn.rd d0) ?_
  rintro e w2 ⟨rfl,k2,r2⟩
  have hc:=hc.call hn (.head _) k2
  have hn:=hn.call k2 r2
  have hS:w2.cell? ⟨w1.heap.size+1,1,none⟩=some (.slice none 0 0):=(hc.cell 1).trans rfl
  have q2:=hc.free
  have q3:=(hn.mine _ (.head _)).2
  go_wp2_with fail
  go_region_law
   (first
    | (refine step_append_lies _ (by rfl) _ _ _ (by rfl) 0 31 i0 _ 1 16 Tryz.underlying118 hi0 hz0 hz1 hz2 rfl (by omega) (.slice none 0 0) 0 [] (by rfl) (World.ownsRow_nil _ _ _ _) ⟨w3.heap.size,0,none⟩ 1 1 [v3] (by rfl) (by rfl) (World.news_of_block (cs:=#[v3]) (t:=31) (fr:=(0,0)) (heap_new w3 _)) (by simpa using o3) (by omega) (by decide) (by omega) (by omega) (w3.heap.size+1) (by simp) ?_;intro g cap w4 hown hgrow hat hlt;have hc:=(hc.below (below_alloc _ _) q3).grown hgrow (by simp;omega) (by simp [Value.ownBlock]);have hn:=(hn.alloc _).grown hgrow (by simp [Value.ownBlock]) (hat.imp id (fun e=>by simpa using e)) hlt;have hS:w4.cell? ⟨w1.heap.size+1,1,none⟩=some (.slice none 0 0):=(hc.cell 1).trans rfl;have q2:=hc.free;have q4:=(hn.mine _ (.tail _ (.head _))).2)
    | (go_simp;go_at_call 21;have hc:=hc.below (Below.refl _ _).drew q3;have hn:=hn.below (Below.refl _ _).drew;refine (hP.filter hn.rd (by simp only [List.length_cons] at *;omega)).mono ?_;rintro e w3 ⟨v3,L3,rfl,o3,k3,r3,b3,s3,f3⟩;have hc:=hc.call hn (.head _) k3;have hn:=hn.item k3 r3 f3;have x3:=cells_one o3;have z3:=x3;unfold Value.cells at z3;have hS:w3.cell? ⟨w1.heap.size+1,1,none⟩=some (.slice none 0 0):=(hc.cell 1).trans rfl;have q2:=hc.free;have q3:=(hn.mine _ (.head _)).2))
  all_goals
   have z2:=k2.size
   have z3:=k3.size
   simp only [World.size_alloc] at z2
   have hz:g≠w1.heap.size+1:=by
    rcases hat with h | h
    ·cases h
    ·have:w2.heap.size≤w3.heap.size:=z3
     omega
   have hn:=hn.set (o:=1) (.slice (some ⟨g,0,none⟩) 1 cap) (.tail _ (.head _))
   have hc:=hc.set 1 (.slice (some ⟨g,0,none⟩) 1 cap) (by simp)
   have ow:=owns_sameT (w':=w4.setCell ⟨w1.heap.size+1,1,none⟩ (.slice (some ⟨g,0,none⟩) 1 cap)) hown (fun k hk=>Below.heap_setCell _ _ _ _ (by simp [Value.ownBlock] at hk;simp;omega))
   have HO:Aside (w4.setCell ⟨w1.heap.size+1,1,none⟩ (.slice (some ⟨g,0,none⟩) 1 cap) |>.ownsRow 0 31 1 (.slice (some ⟨g,0,none⟩) 1 cap) 1 [v3]):=ow
   clear ow hown hgrow
   go_wp2_with fail
   go_loopg [] (u :: l).length (fun k wr=>CaI P w wr rb tb (w1.heap.size+1) (u :: l) t k)
   case atStart =>
    obtain ⟨its,hn,hR⟩:=ca_next (P:=P) (L0:=u :: l) (t:=t) (ts:=[]) (vs:=[]) (n:=0) (x:=P 0 M0) (q:=List.length) (by simp [callS,d0]) (Nat.le_refl _) f3 hn rfl rfl
    refine ⟨_,L3,_,1,[v3],its,.tail _ (.head _),hc,fun k e=>?_,HO.out,by omega,by omega,(sx_acct d0).trans s3,hn,hR⟩
    simp only [Value.ownBlock,Option.some.injEq] at e
    exact ⟨e ▸ .head _,by omega⟩
   case round =>
    obtain ⟨X,M,rv,n,vs,its,hNX,hc,hg,ow,hnm,hMk,sM,hn,hR⟩:=hrel
    have HO:Aside (wr.ownsRow 0 31 1 rv n vs):=ow
    clear ow
    cases d1:acc sSemi M with
    | mk b1 M1 =>
    cases b1 with
    | false =>
     go_wp2_with fail
     refine Calls.mono (acceptF hn.rd d1) ?_
     rintro e w5 ⟨rfl,k5,r5⟩
     have hc:=hc.call hn hNX k5
     have ow:=ownsB_call HO.out hn (fun g e=>(hg g e).1) k5
     have hn:=hn.call k5 r5
     have HO:Aside (w5.ownsRow 0 31 1 rv n vs):=ow
     clear ow
     go_wp2_with fail
     refine Calls.mono (expectQ hn.rd) ?_
     rintro e w6 ⟨rfl,L6,k6,r6,b6,f6,s6⟩
     have hc:=hc.call hn hNX k6
     have ow:=ownsB_call HO.out hn (fun g e=>(hg g e).1) k6
     have hn:=hn.call k6 r6
     have HO:Aside (w6.ownsRow 0 31 1 rv n vs):=ow
     clear ow
     go_wp2_with fail
     go_ret
     refine ⟨.iface (typF 11) (.pointer (some ⟨w1.heap.size+1,0,none⟩)),L6,rfl,rfl,hn.kept,hn.rd,by simp only [List.length_cons] at *;omega,hs0 _,?_⟩
     rcases hR with ⟨ts,m,hts,hm,hE,hi⟩ | ⟨r,hE,e,k⟩
     ·have hz:M.length≠0:=fun e=>by
       have:=r5.wf.ne
       exact this (List.eq_nil_of_length_eq_zero e)
      match m,hm,hE with
      | 0,hm,_=>omega
      | m+1,_,hE =>
       rw [hE,show argsS P (m+1) M = .ok ([],M) by simp [argsS,d1]]
       show Fn (thn (exq sShut M) fun _ l4=>Except.ok (nd 11 _ (ts ++ []),l4)) L6 _
       exact Fn.thn f6 (fun _ _ _=>Fn.ok (by rw [List.append_nil];exact Rf.call hn hi hNX hc hg HO.out hts)) (Sx.refl _)
     ·rw [hE]
      have:=s6 k
      subst this
      exact Fn.bad e k
    | true =>
     have b1:=acc_true d1
     obtain ⟨ts,m,hts,hm,hE,hi⟩:=hR.yes d1
     match gk,hMk with
     | 0,hMk=>omega
     | k+1,hMk =>
     go_wp2_with fail
     refine Calls.mono (acceptT hn.rd d1) ?_
     rintro e w5 ⟨rfl,k5,r5⟩
     have hc:=hc.call hn hNX k5
     have ow:=ownsB_call HO.out hn (fun g e=>(hg g e).1) k5
     have hn:=hn.call k5 r5
     have HO:Aside (w5.ownsRow 0 31 1 rv n vs):=ow
     clear ow
     have hS:w5.cell? ⟨w1.heap.size+1,1,none⟩=some rv:=(hc.cell 1).trans rfl
     have q2:=hc.free
     have q3:=(hn.mine _ hNX).2
     go_wp2_with fail
     go_region_law
      (first
       | (refine step_append_lies _ (by rfl) _ _ _ (by rfl) 0 31 i0 _ 1 16 Tryz.underlying118 hi0 hz0 hz1 hz2 rfl (by omega) rv n vs (by rfl) (ownsB_below HO.out (below_alloc _ _)) ⟨w6.heap.size,0,none⟩ 1 1 [v6] (by rfl) (by rfl) (World.news_of_block (cs:=#[v6]) (t:=31) (fr:=(0,0)) (heap_new w6 _)) (by simpa using o6) (by omega) (by simp only [maxLen,List.length_cons] at *;omega) (by simp only [List.length_cons] at *;omega) (by omega) (w6.heap.size+1) (by simp) ?_;intro g2 cap2 w7 hown2 hgrow2 hat2 hlt2;have hc:=(hc.below (below_alloc _ _) q3).grown hgrow2 (by simp;omega) (fun e=>(hg _ e).2 rfl);have hn:=(hn.alloc _).grown hgrow2 (fun g e=>(hg g e).1) (hat2.imp id (fun e=>by simpa using e)) hlt2;have hS:w7.cell? ⟨w1.heap.size+1,1,none⟩=some rv:=(hc.cell 1).trans rfl;have q2:=hc.free;have q4:=(hn.mine _ (.tail _ hNX)).2)
       | (go_simp;go_at_call 21;have hc:=hc.below (Below.refl _ _).drew q3;have HO:=ownsB_below HO.out (Below.refl _ _).drew;have hn:=hn.below (Below.refl _ _).drew;refine (hP.filter hn.rd (by simp only [List.length_cons] at *;omega)).mono ?_;rintro e w6 ⟨v6,L6,rfl,o6,k6,r6,b6,s6,f6⟩;have hc:=hc.call hn hNX k6;have HO:Aside (w6.ownsRow 0 31 1 rv n vs):=ownsB_call HO hn (fun g e=>(hg g e).1) k6;have hn:=hn.item k6 r6 f6;have x6:=cells_one o6;have z6:=x6;unfold Value.cells at z6;have hS:w6.cell? ⟨w1.heap.size+1,1,none⟩=some rv:=(hc.cell 1).trans rfl;have q2:=hc.free;have q3:=(hn.mine _ hNX).2))
     all_goals
      have hgz:g2≠w1.heap.size+1:=by
       rcases hat2 with h | h
       ·exact (hg _ h).2
       ·omega
      have hn:=hn.set (o:=1) (.slice (some ⟨g2,0,none⟩) (n+1) cap2) (.tail _ hNX)
      have hc:=hc.set 1 (.slice (some ⟨g2,0,none⟩) (n+1) cap2) (by simp)
      have ow:=ownsB_set (N:=w1.heap.size+1) (o:=1) (u:=.slice (some ⟨g2,0,none⟩) (n+1) cap2) hown2 (fun g e=>by simp only [Value.ownBlock,Option.some.injEq] at e;omega)
      have hlv:ts.length=vs.length:=by rw [hts];have:=HO.out.1;omega
      subst hi
      obtain ⟨its',hn,hR⟩:=ca_next (P:=P) (L0:=u :: l) (t:=t) (ts:=ts) (vs:=vs) (n:=n) (x:=P 0 M1) (q:=fun _=>m) (by
       rw [hE,show argsS P (m+1) M=thn (P 0 M1) fun a l2=>thn (argsS P m l2) fun az l3=>.ok (a :: az,l3) by simp [argsS,d1]]
       simp only [thn_thn]
       rfl) (by omega) f6 hn hlv hts
      have HO:Aside ((w7.setCell ⟨w1.heap.size+1,1,none⟩ (.slice (some ⟨g2,0,none⟩) (n+1) cap2)).ownsRow 0 31 1 (.slice (some ⟨g2,0,none⟩) (n+1) cap2) (n+1) (vs ++ [v6])):=ow
      clear ow hown2 hgrow2
      go_wp2_with fail
      go_roundg k
      case measure=>omega
      case rel =>
       refine ⟨_,L6,_,n+1,vs ++ [v6],its',.tail _ hNX,hc,fun g e=>?_,HO.out,by omega,by omega,sM.trans ((sx_acct d1).trans s6),hn,hR⟩
       simp only [Value.ownBlock,Option.some.injEq] at e
       exact ⟨e ▸ .head _,by omega⟩
end Go.Proofs.Tryz
namespace Go.Proofs.Tryz
set_option maxHeartbeats 16000000
open Go.RowKit
set_option maxRecDepth 10000
def DeR (L1 M:List Tok) (n:Nat) (vs:List Value):Prop :=
  (∃ ps m,ps.length=n∧M.length≤m∧paramsS L1=thn (namesS m M) (fun ts l3=>thn (exq sShut l3) fun _ l4=>.ok (ps ++ ts,l4))∧vs=ps.map Value.string)∨
     (∃ r,paramsS L1 = .error r∧M=stuck r∧kindOf M=1)
def DeI (w wr:World) (rb tb N:Nat) (nm:ByteArray) (L1:List Tok) (k:Nat):Prop :=
 ∃ (X:List Nat) (M:List Tok) (rv:Value) (n:Nat) (vs:List Value),N∈X∧Cl wr N [.string nm,rv,.nilIface,.nilIface]∧(∀ g,rv.ownBlock=some g→g∈X∧g≠N)∧wr.ownsRow 0 9 1 rv n vs∧n+M.length≤L1.length∧M.length≤k∧Sx L1 M∧Nq w wr rb tb X M []∧DeR L1 M n vs
theorem DeR.yes {L1 M M1:List Tok}{n:Nat}{vs:List Value}{s:ByteArray} (h:DeR L1 M n vs) (e:acc s M=(true,M1)):∃ ps m,ps.length=n∧M1.length≤m∧paramsS L1=thn (namesS (m+1) M) (fun ts l3=>thn (exq sShut l3) fun _ l4=>.ok (ps ++ ts,l4))∧vs=ps.map Value.string:=by
 rcases h with ⟨ts,m,h1,h2,h3⟩ | ⟨r,_,_,k⟩
 ·have:=acc_true e
  match m,h2,h3 with
  | 0,h2,_=>omega
  | m+1,h2,h3=>exact ⟨ts,m,h1,by omega,h3⟩
 ·rw [acc_one k] at e
  cases e
theorem de_next {L1 M:List Tok}{n:Nat}{v:ByteArray}{p:Int}{x:Out Tok}{ps:List ByteArray}{q:List Tok→Nat} (h:paramsS L1=thn x fun a l2=>thn (namesS (q l2) l2) fun ts l3=>thn (exq sShut l3) fun _ l4=>.ok (ps ++ a.text :: ts,l4))
  (hq:M.length≤q M) (hx:Fn x M fun t=>v=t.text∧p=t.pos) (hts:ps.length=n):DeR L1 M (n+1) (ps.map Value.string ++ [.string v]):=by
 match x,hx with
 | .ok (a,l),⟨e,g⟩ =>
  subst e
  refine .inl ⟨ps ++ [a.text],q M,by simp [hts],hq,?_,by simp [g.1]⟩
  rw [h]
  simp [thn]
 | .error r,⟨e,k⟩=>exact .inr ⟨r,h,e,k⟩
theorem Rf.defn {a w:World}{rb tb N:Nat}{X:List Nat}{M:List Tok}{nm:ByteArray}{rv v1 v2:Value}{n:Nat}{vs:List Value}{ps:List ByteArray}{b r:Tn}{its:List (Out Tn×Value)} (hn:Nq a w rb tb X M its) (hN:N∈X) (hc:Cl w N [.string nm,rv,v1,v2]) (hg:∀ g,rv.ownBlock=some g→g∈X∧g≠N) (ow:w.ownsRow 0 9 1 rv n vs) (hvs:vs=ps.map Value.string)
  (h1:Rf (a.heap.size≤·) w b v1) (h2:Rf (a.heap.size≤·) w r v2) :
  Rf (a.heap.size≤·) w (nd 20 { Pyl.none with name:=nm,names:=ps } [b,r]) (.iface (typF 20) (.pointer (some ⟨N,0,none⟩))):=by
 have hm:=hn.mine _ hN
 subst hvs
 have hl:ps.length=n:=by have:=ow.1;simp at this;omega
 refine Rf.mkr hm.1 hm.2 ⟨(hc.cell 0).trans rfl,⟨_,(hc.cell 2).trans rfl,h1⟩,⟨_,(hc.cell 3).trans rfl,h2⟩,trivial⟩ (c:=1) (T:=9) (s:=1) (n:=ps.length) (ds:=ps.map fun n=>.error (.string n)) rfl ((hc.cell 1).trans rfl) (hl ▸ ow) (fun g e=>(hn.mine g (hg g e).1).1) (by simp) (fun j d hd=>?_)
 rw [List.getElem?_map,Option.map_eq_some_iff] at hd
 obtain ⟨s,hs,rfl⟩:=hd
 exact ⟨.string s,by rw [List.getElem?_map,hs];rfl,rfl⟩
theorem def_ok {P:Ps}{B:Nat} (hP:SndP P B) {w:World}{rb tb:Nat}{L:List Tok} (h:RdP w rb tb L) (hB:8 * L.length+5≤B) :
  Calls Tryz.prog 38 #[.pointer (some ⟨rb,0,none⟩)] w (Gv rb tb w L (defS P L)):=by
 have hfd:=field_text
 have hsm:=hP.small
 obtain ⟨i0,hi0,hz0,hz1,hz2⟩:=info_parts info_stringP
 go_enter Tryz.func38,Tryz.ntmps38
 go_wp2_with fail
 refine Calls.mono (expectKindQ h (by decide) (by decide)) ?_
 rintro e w1 ⟨c1,n1,p1,L1,rfl,k1,r1,b1,f1,s1⟩
 have hn:=(Nq.start h).call k1 r1
 go_wp2_with fail
 have hc:=Cl.start w1 [.string n1,.slice none 0 0,.nilIface,.nilIface] 141
 have hn:=hn.own (.cells #[.string n1,.slice none 0 0,.nilIface,.nilIface] 141)
 have hNX:w1.heap.size∈[w1.heap.size]:=.head _
 cases d0:acc sOpen L1 with
 | mk b0 M0 =>
 cases b0 with
 | false =>
  refine Calls.mono (acceptF hn.rd d0) ?_
  rintro e w2 ⟨rfl,k2,r2⟩
  have hc:=hc.call hn hNX k2
  have hn:=hn.call k2 r2
  obtain ⟨rv,hrv⟩:∃ rv:Value,rv = .slice none 0 0:=⟨_,rfl⟩
  obtain ⟨n,hn0⟩:∃ n:Nat,n=0:=⟨_,rfl⟩
  obtain ⟨vs,hvs⟩:∃ vs:List Value,vs=[]:=⟨_,rfl⟩
  have ow:w2.ownsRow 0 9 1 rv n vs:=by subst hrv hn0 hvs;exact World.ownsRow_nil _ _ _ _
  have hg:∀ g,rv.ownBlock=some g→g∈[w1.heap.size]∧g≠w1.heap.size:=by subst hrv;simp [Value.ownBlock]
  rw [← hrv] at hc
  have fp:Fn (paramsS L1) L1 fun ps=>vs=ps.map Value.string:=by
   rw [show paramsS L1 = .ok ([],L1) by simp [paramsS,d0]]
   exact Fn.ok hvs
  have sM:Sx L1 L1:=Sx.refl _
  have HO:Aside (w2.ownsRow 0 9 1 rv n vs):=ow
  clear ow hrv hn0 hvs
  go_wp2_with fail
  refine Calls.mono (expectQ hn.rd) ?_
  rintro e u1 ⟨rfl,T1,a1,c1,d1,y1,z1⟩
  have hc:=hc.call hn hNX a1
  have ow:=ownsB_call HO.out hn (fun g e=>(hg g e).1) a1
  have hn:=hn.call a1 c1
  have HO:Aside (u1.ownsRow 0 9 1 rv n vs):=ow
  clear ow
  go_wp2_with fail
  refine Calls.mono (hP.filter hn.rd (by omega)) ?_
  rintro e u2 ⟨v2,T2,rfl,o2,a2,c2,d2,z2,y2⟩
  have hc:=hc.call hn hNX a2
  have ow:=ownsB_call HO.out hn (fun g e=>(hg g e).1) a2
  have hn:=hn.item a2 c2 y2
  have x2:=cells_one o2
  have xx2:=x2
  unfold Value.cells at xx2
  have st2:=hc.store1 2 o2 (by simp)
  have HO:Aside (u2.ownsRow 0 9 1 rv n vs):=ow
  clear ow
  go_wp2_with fail
  have hc:=hc.set 2 v2 (by simp)
  have hn:=hn.set (o:=2) v2 hNX
  have ow:=ownsB_set (N:=w1.heap.size) (o:=2) (u:=v2) HO.out (fun g e=>(hg g e).2)
  have HO:Aside ((u2.setCell ⟨w1.heap.size,2,none⟩ v2).ownsRow 0 9 1 rv n vs):=ow
  clear ow
  refine Calls.mono (expectQ hn.rd) ?_
  rintro e u3 ⟨rfl,T3,a3,c3,d3,y3,z3⟩
  have hc:=hc.call hn hNX a3
  have ow:=ownsB_call HO.out hn (fun g e=>(hg g e).1) a3
  have hn:=hn.call a3 c3
  have HO:Aside (u3.ownsRow 0 9 1 rv n vs):=ow
  clear ow
  go_wp2_with fail
  refine Calls.mono (hP.filter hn.rd (by omega)) ?_
  rintro e u4 ⟨v4,T4,rfl,o4,a4,c4,d4,z4,y4⟩
  have hc:=hc.call hn hNX a4
  have ow:=ownsB_call HO.out hn (fun g e=>(hg g e).1) a4
  have hn:=hn.item a4 c4 y4
  have x4:=cells_one o4
  have xx4:=x4
  unfold Value.cells at xx4
  have st4:=hc.store1 3 o4 (by simp)
  have HO:Aside (u4.ownsRow 0 9 1 rv n vs):=ow
  clear ow
  go_wp2_with fail
  have hc:=hc.set 3 v4 (by simp)
  have hn:=hn.set (o:=3) v4 hNX
  have ow:=ownsB_set (N:=w1.heap.size) (o:=3) (u:=v4) HO.out (fun g e=>(hg g e).2)
  have HO:Aside ((u4.setCell ⟨w1.heap.size,3,none⟩ v4).ownsRow 0 9 1 rv n vs):=ow
  clear ow
  go_ret
  refine ⟨.iface (typF 20) (.pointer (some ⟨w1.heap.size,0,none⟩)),T4,rfl,rfl,hn.kept,hn.rd,by omega,s1.trans (sM.trans (z1.trans (z2.trans (z3.trans z4)))),?_⟩
  refine Fn.thn f1 (fun e1 _ g1=>Fn.thn fp (fun ps _ gp=>Fn.thn y1 (fun _ _ _=>Fn.thn y2 (fun b eb _=>Fn.thn y3 (fun _ _ _=>Fn.thn y4 (fun r er _=>Fn.ok ?_) (Sx.refl _)) z4) (z3.trans z4)) (z2.trans (z3.trans z4))) (z1.trans (z2.trans (z3.trans z4)))) (sM.trans (z1.trans (z2.trans (z3.trans z4))))
  rw [← g1.1]
  exact Rf.defn hn hNX hc hg HO.out gp (hn.kid (.tail _ (.head _)) eb) (hn.kid (.head _) er)
 | true =>
  have b0:=acc_true d0
  refine Calls.mono (acceptT hn.rd d0) ?_
  rintro e w2 ⟨rfl,k2,r2⟩
  have hc:=hc.call hn hNX k2
  have hn:=hn.call k2 r2
  have hS:w2.cell? ⟨w1.heap.size,1,none⟩=some (.slice none 0 0):=(hc.cell 1).trans rfl
  have q2:=hc.free
  have q3:=(hn.mine _ hNX).2
  go_wp2_with fail
  go_region_law
   (first
    | (refine step_append_lies _ (by rfl) _ _ _ (by rfl) 0 9 i0 _ 1 16 Tryz.underlying46 hi0 hz0 hz1 hz2 rfl (by omega) (.slice none 0 0) 0 [] (by rfl) (World.ownsRow_nil _ _ _ _) ⟨w3.heap.size,0,none⟩ 1 1 [.string n3] (by rfl) (by rfl) (World.news_of_block (cs:=#[.string n3]) (t:=9) (fr:=(0,0)) (heap_new w3 _)) (by simp [Value.oneCell']) (by omega) (by decide) (by omega) (by omega) (w3.heap.size+1) (by simp) ?_;intro g3 cap3 w4 hown3 hgrow3 hat3 hlt3;have hc:=(hc.below (below_alloc _ _) q3).grown hgrow3 (by simp;omega) (by simp [Value.ownBlock]);have hn:=(hn.alloc _).grown hgrow3 (by simp [Value.ownBlock]) (hat3.imp id (fun e=>by simpa using e)) hlt3;have hS:w4.cell? ⟨w1.heap.size,1,none⟩=some (.slice none 0 0):=(hc.cell 1).trans rfl;have q2:=hc.free;have q4:=(hn.mine _ (.tail _ hNX)).2)
    | (go_simp;go_at_call 67;have hc:=hc.below (Below.refl _ _).drew q3;have hn:=hn.below (Below.refl _ _).drew;refine (expectKindQ hn.rd (by decide) (by decide)).mono ?_;rintro e w3 ⟨c3,n3,p3,L3,rfl,k3,r3,b3,f3,s3⟩;have hc:=hc.call hn hNX k3;have hn:=hn.call k3 r3;have hS:w3.cell? ⟨w1.heap.size,1,none⟩=some (.slice none 0 0):=(hc.cell 1).trans rfl;have q2:=hc.free;have q3:=(hn.mine _ hNX).2))
  all_goals
   have z2:=k2.size
   have z3:=k3.size
   simp only [World.size_alloc] at z2
   have hz:g3≠w1.heap.size:=by
    rcases hat3 with h | h
    ·cases h
    ·have:w2.heap.size≤w3.heap.size:=z3
     omega
   have hn:=hn.set (o:=1) (.slice (some ⟨g3,0,none⟩) 1 cap3) (.tail _ hNX)
   have hc:=hc.set 1 (.slice (some ⟨g3,0,none⟩) 1 cap3) (by simp)
   have ow:=ownsB_set (N:=w1.heap.size) (o:=1) (u:=.slice (some ⟨g3,0,none⟩) 1 cap3) hown3 (fun g e=>by simp only [Value.ownBlock,Option.some.injEq] at e;omega)
   have HO:Aside ((w4.setCell ⟨w1.heap.size,1,none⟩ (.slice (some ⟨g3,0,none⟩) 1 cap3)).ownsRow 0 9 1 (.slice (some ⟨g3,0,none⟩) 1 cap3) 1 [.string n3]):=ow
   clear ow hown3 hgrow3
   go_wp2_with fail
   go_loopg [] L1.length (fun k wr=>DeI w wr rb tb w1.heap.size n1 L1 k)
   case atStart =>
    have hR:=de_next (L1:=L1) (ps:=[]) (n:=0) (q:=List.length) (by simp [paramsS,d0]) (Nat.le_refl _) f3 rfl
    refine ⟨_,L3,_,1,[.string n3],.tail _ hNX,hc,fun k e=>?_,HO.out,by omega,by omega,(sx_acct d0).trans s3,hn,hR⟩
    simp only [Value.ownBlock,Option.some.injEq] at e
    exact ⟨e ▸ .head _,by omega⟩
   case round =>
    clear hNX HO hc hn
    obtain ⟨X,M,rv,n,vs,hNX,hc,hg,ow,hnm,hMk,sM,hn,hR⟩:=hrel
    have HO:Aside (wr.ownsRow 0 9 1 rv n vs):=ow
    clear ow
    cases d1:acc sSemi M with
    | mk b1 M1 =>
    cases b1 with
    | false =>
     go_wp2_with fail
     refine Calls.mono (acceptF hn.rd d1) ?_
     rintro e w5 ⟨rfl,k5,r5⟩
     have hc:=hc.call hn hNX k5
     have ow:=ownsB_call HO.out hn (fun g e=>(hg g e).1) k5
     have hn:=hn.call k5 r5
     have HO:Aside (w5.ownsRow 0 9 1 rv n vs):=ow
     clear ow
     go_wp2_with fail
     refine Calls.mono (expectQ hn.rd) ?_
     rintro e w6 ⟨rfl,L6,k6,r6,b6,f6,s6⟩
     have hc:=hc.call hn hNX k6
     have ow:=ownsB_call HO.out hn (fun g e=>(hg g e).1) k6
     have hn:=hn.call k6 r6
     have HO:Aside (w6.ownsRow 0 9 1 rv n vs):=ow
     clear ow
     have fp:Fn (paramsS L1) L6 fun ps=>vs=ps.map Value.string:=by
      rcases hR with ⟨ps,m,hts,hm,hE,hi⟩ | ⟨r,hE,e,k⟩
      ·have hz:M.length≠0:=fun e=>by
        have:=r5.wf.ne
        exact this (List.eq_nil_of_length_eq_zero e)
       match m,hm,hE with
       | 0,hm,_=>omega
       | m+1,_,hE =>
        rw [hE,show namesS (m+1) M = .ok ([],M) by simp [namesS,d1]]
        show Fn (thn (exq sShut M) fun _ l4=>Except.ok (ps ++ [],l4)) L6 _
        exact Fn.thn f6 (fun _ _ _=>Fn.ok (by rw [List.append_nil];exact hi)) (Sx.refl _)
      ·rw [hE]
       have:=s6 k
       subst this
       exact Fn.bad e k
     have sM:=sM.trans s6
     go_wp2_with fail
     refine Calls.mono (expectQ hn.rd) ?_
     rintro e u1 ⟨rfl,T1,a1,c1,d1,y1,z1⟩
     have hc:=hc.call hn hNX a1
     have ow:=ownsB_call HO.out hn (fun g e=>(hg g e).1) a1
     have hn:=hn.call a1 c1
     have HO:Aside (u1.ownsRow 0 9 1 rv n vs):=ow
     clear ow
     go_wp2_with fail
     refine Calls.mono (hP.filter hn.rd (by omega)) ?_
     rintro e u2 ⟨v2,T2,rfl,o2,a2,c2,d2,z2,y2⟩
     have hc:=hc.call hn hNX a2
     have ow:=ownsB_call HO.out hn (fun g e=>(hg g e).1) a2
     have hn:=hn.item a2 c2 y2
     have x2:=cells_one o2
     have xx2:=x2
     unfold Value.cells at xx2
     have st2:=hc.store1 2 o2 (by simp)
     have HO:Aside (u2.ownsRow 0 9 1 rv n vs):=ow
     clear ow
     go_wp2_with fail
     have hc:=hc.set 2 v2 (by simp)
     have hn:=hn.set (o:=2) v2 hNX
     have ow:=ownsB_set (N:=w1.heap.size) (o:=2) (u:=v2) HO.out (fun g e=>(hg g e).2)
     have HO:Aside ((u2.setCell ⟨w1.heap.size,2,none⟩ v2).ownsRow 0 9 1 rv n vs):=ow
     clear ow
     refine Calls.mono (expectQ hn.rd) ?_
     rintro e u3 ⟨rfl,T3,a3,c3,d3,y3,z3⟩
     have hc:=hc.call hn hNX a3
     have ow:=ownsB_call HO.out hn (fun g e=>(hg g e).1) a3
     have hn:=hn.call a3 c3
     have HO:Aside (u3.ownsRow 0 9 1 rv n vs):=ow
     clear ow
     go_wp2_with fail
     refine Calls.mono (hP.filter hn.rd (by omega)) ?_
     rintro e u4 ⟨v4,T4,rfl,o4,a4,c4,d4,z4,y4⟩
     have hc:=hc.call hn hNX a4
     have ow:=ownsB_call HO.out hn (fun g e=>(hg g e).1) a4
     have hn:=hn.item a4 c4 y4
     have x4:=cells_one o4
     have xx4:=x4
     unfold Value.cells at xx4
     have st4:=hc.store1 3 o4 (by simp)
     have HO:Aside (u4.ownsRow 0 9 1 rv n vs):=ow
     clear ow
     go_wp2_with fail
     have hc:=hc.set 3 v4 (by simp)
     have hn:=hn.set (o:=3) v4 hNX
     have ow:=ownsB_set (N:=w1.heap.size) (o:=3) (u:=v4) HO.out (fun g e=>(hg g e).2)
     have HO:Aside ((u4.setCell ⟨w1.heap.size,3,none⟩ v4).ownsRow 0 9 1 rv n vs):=ow
     clear ow
     go_ret
     refine ⟨.iface (typF 20) (.pointer (some ⟨w1.heap.size,0,none⟩)),T4,rfl,rfl,hn.kept,hn.rd,by omega,s1.trans (sM.trans (z1.trans (z2.trans (z3.trans z4)))),?_⟩
     refine Fn.thn f1 (fun e1 _ g1=>Fn.thn fp (fun ps _ gp=>Fn.thn y1 (fun _ _ _=>Fn.thn y2 (fun b eb _=>Fn.thn y3 (fun _ _ _=>Fn.thn y4 (fun r er _=>Fn.ok ?_) (Sx.refl _)) z4) (z3.trans z4)) (z2.trans (z3.trans z4))) (z1.trans (z2.trans (z3.trans z4)))) (sM.trans (z1.trans (z2.trans (z3.trans z4))))
     rw [← g1.1]
     exact Rf.defn hn hNX hc hg HO.out gp (hn.kid (.tail _ (.head _)) eb) (hn.kid (.head _) er)
    | true =>
     have b1:=acc_true d1
     obtain ⟨ps,m,hts,hm,hE,hi⟩:=hR.yes d1
     match gk,hMk with
     | 0,hMk=>omega
     | k+1,hMk =>
     go_wp2_with fail
     refine Calls.mono (acceptT hn.rd d1) ?_
     rintro e w5 ⟨rfl,k5,r5⟩
     have hc:=hc.call hn hNX k5
     have ow:=ownsB_call HO.out hn (fun g e=>(hg g e).1) k5
     have hn:=hn.call k5 r5
     have HO:Aside (w5.ownsRow 0 9 1 rv n vs):=ow
     clear ow
     have hS:w5.cell? ⟨w1.heap.size,1,none⟩=some rv:=(hc.cell 1).trans rfl
     have q2:=hc.free
     have q3:=(hn.mine _ hNX).2
     go_wp2_with fail
     go_region_law
      (first
       | (refine step_append_lies _ (by rfl) _ _ _ (by rfl) 0 9 i0 _ 1 16 Tryz.underlying46 hi0 hz0 hz1 hz2 rfl (by omega) rv n vs (by rfl) (ownsB_below HO.out (below_alloc _ _)) ⟨w6.heap.size,0,none⟩ 1 1 [.string n6] (by rfl) (by rfl) (World.news_of_block (cs:=#[.string n6]) (t:=9) (fr:=(0,0)) (heap_new w6 _)) (by simp [Value.oneCell']) (by omega) (by simp only [maxLen];omega) (by omega) (by omega) (w6.heap.size+1) (by simp) ?_;intro g6 cap6 w7 hown6 hgrow6 hat6 hlt6;have hc:=(hc.below (below_alloc _ _) q3).grown hgrow6 (by simp;omega) (fun e=>(hg _ e).2 rfl);have hn:=(hn.alloc _).grown hgrow6 (fun g e=>(hg g e).1) (hat6.imp id (fun e=>by simpa using e)) hlt6;have hS:w7.cell? ⟨w1.heap.size,1,none⟩=some rv:=(hc.cell 1).trans rfl;have q2:=hc.free;have q4:=(hn.mine _ (.tail _ hNX)).2)
       | (go_simp;go_at_call 67;have hc:=hc.below (Below.refl _ _).drew q3;have HO:=ownsB_below HO.out (Below.refl _ _).drew;have hn:=hn.below (Below.refl _ _).drew;refine (expectKindQ hn.rd (by decide) (by decide)).mono ?_;rintro e w6 ⟨c6,n6,p6,L6,rfl,k6,r6,b6,f6,s6⟩;have hc:=hc.call hn hNX k6;have HO:Aside (w6.ownsRow 0 9 1 rv n vs):=ownsB_call HO hn (fun g e=>(hg g e).1) k6;have hn:=hn.call k6 r6;have hS:w6.cell? ⟨w1.heap.size,1,none⟩=some rv:=(hc.cell 1).trans rfl;have q2:=hc.free;have q3:=(hn.mine _ hNX).2))
     all_goals
      have hgz:g6≠w1.heap.size:=by
       rcases hat6 with h | h
       ·exact (hg _ h).2
       ·omega
      have hn:=hn.set (o:=1) (.slice (some ⟨g6,0,none⟩) (n+1) cap6) (.tail _ hNX)
      have hc:=hc.set 1 (.slice (some ⟨g6,0,none⟩) (n+1) cap6) (by simp)
      have ow:=ownsB_set (N:=w1.heap.size) (o:=1) (u:=.slice (some ⟨g6,0,none⟩) (n+1) cap6) hown6 (fun g e=>by simp only [Value.ownBlock,Option.some.injEq] at e;omega)
      subst hi
      have hR:=de_next (L1:=L1) (ps:=ps) (n:=n) (x:=exk 2 M1) (q:=fun _=>m) (by
       rw [hE,show namesS (m+1) M=thn (exk 2 M1) fun t l2=>thn (namesS m l2) fun ts l3=>.ok (t.text :: ts,l3) by simp [namesS,d1]]
       simp only [thn_thn]
       rfl) (by omega) f6 hts
      have HO:Aside ((w7.setCell ⟨w1.heap.size,1,none⟩ (.slice (some ⟨g6,0,none⟩) (n+1) cap6)).ownsRow 0 9 1 (.slice (some ⟨g6,0,none⟩) (n+1) cap6) (n+1) (ps.map Value.string ++ [.string n6])):=ow
      clear ow hown6 hgrow6
      go_wp2_with fail
      go_roundg k
      case measure=>omega
      case rel =>
       refine ⟨_,L6,_,n+1,_,.tail _ hNX,hc,fun g e=>?_,HO.out,by omega,by omega,sM.trans ((sx_acct d1).trans s6),hn,hR⟩
       simp only [Value.ownBlock,Option.some.injEq] at e
       exact ⟨e ▸ .head _,by omega⟩
end Go.Proofs.Tryz
namespace Go.Proofs.Tryz
set_option maxHeartbeats 16000000
open Go.RowKit
set_option maxRecDepth 10000
def mD (x:ByteArray):ByteArray×Bool:=if x.data.toList=[40] then (⟨#[]⟩,true) else if x.data.toList=[34] then (⟨#[]⟩,false) else (x,false)
def memN (q:Nat×ByteArray×Tn×Tn):ByteArray:=if q.1=0 then q.2.1 else if q.1=1 then ⟨#[34]⟩ else ⟨#[40]⟩
def Gm (rb tb:Nat) (w:World) (L:List Tok) (x:Out (Nat×ByteArray×Tn×Tn)) (e:Ending) (w':World):Prop :=
 ∃ nm kv br vv L',e = .returned (.agg #[.string nm,kv,.bool br,vv])∧kv.oneCell'=true∧vv.oneCell'=true∧KeptB rb tb w w'∧RdP w' rb tb L'∧L'.length≤L.length∧Sx L L'∧Fn x L' fun q=>mD (memN q)=(nm,br)∧Rf (w.heap.size≤·) w' q.2.2.1 kv∧Rf (w.heap.size≤·) w' q.2.2.2 vv
theorem member_name {P:Ps}{B:Nat} (hP:SndP P B) {w:World}{rb tb:Nat}{t u:Tok}{l:List Tok} (h:RdP w rb tb (t :: u :: l)) (hk:t.kind=2) (hB:8 * (t :: u :: l).length≤B) :
  Calls Tryz.prog 148 #[.pointer (some ⟨rb,0,none⟩)] w (Gm rb tb w (t :: u :: l) (memberS P (t :: u :: l))):=by
 have hs0:∀ M,Sx (t :: u :: l) M:=fun M k=>absurd (show t.kind=1 from k) (by omega)
 have hkey:keyS P (t :: u :: l) = .ok ((0,t.text,litT (4,0,t.text)),u :: l):=by simp [keyS,hk]
 have hgd:=h.wf.1.name hk
 obtain ⟨o,c,⟨hr,hcap,hmax,hfz,hne2,htb,⟨h0,h1,h2,hrest⟩⟩⟩:=h.rd
 clear hrest
 simp only [List.length_cons] at hr hcap
 have hrb:=h.rbs
 have hA:=(((Cl.start w [.string ⟨#[]⟩,.nilIface,.bool false,.nilIface] 169).below (below_alloc _ (.cells #[.string ⟨#[]⟩,.nilIface,.bool false,.nilIface] 169)) (by simp)).below (below_alloc _ (.cells #[.int .u8 2,.string t.text,.int .i64 t.pos] 62)) (by simp;omega))
 have hN:=((Cl.start (w.alloc (.cells #[.string ⟨#[]⟩,.nilIface,.bool false,.nilIface] 169)) [.string ⟨#[]⟩,.nilIface,.bool false,.nilIface] 169).below (below_alloc _ (.cells #[.int .u8 2,.string t.text,.int .i64 t.pos] 62)) (by simp))
 have hK:=Cl.start ((w.alloc (.cells #[.string ⟨#[]⟩,.nilIface,.bool false,.nilIface] 169)).alloc (.cells #[.string ⟨#[]⟩,.nilIface,.bool false,.nilIface] 169)) [.int .u8 2,.string t.text,.int .i64 t.pos] 62
 have hn:=(((Nq.start h).own (.cells #[.string ⟨#[]⟩,.nilIface,.bool false,.nilIface] 169)).own (.cells #[.string ⟨#[]⟩,.nilIface,.bool false,.nilIface] 169)).own (.cells #[.int .u8 2,.string t.text,.int .i64 t.pos] 62)
 simp only [World.size_alloc] at hN hK hn
 have mK:(w.heap.size+1+1)∈[(w.heap.size+1+1),(w.heap.size+1),w.heap.size]:=.head _
 have mN:(w.heap.size+1)∈[(w.heap.size+1+1),(w.heap.size+1),w.heap.size]:=.tail _ (.head _)
 have mA:w.heap.size∈[(w.heap.size+1+1),(w.heap.size+1),w.heap.size]:=.tail _ (.tail _ (.head _))
 rw [hk] at h0
 clear hk
 go_enter Tryz.func148,Tryz.ntmps148
 go_wp2_with fail
 refine Calls.mono (takeQ hn.rd) ?_
 rintro e w1 ⟨rfl,k1,r1⟩
 have hK:=hK.call hn mK k1
 have hA:=hA.call hn mA k1
 have hN:=hN.call hn mN k1
 have hn:=hn.call k1 r1
 have q1:w1.cell? ⟨w.heap.size+1+1,1,none⟩=some (.string t.text):=(hK.cell 1).trans rfl
 have q2:=hN.free
 have q4:w1.cell? ⟨w.heap.size+1,0,none⟩=some (.string ⟨#[]⟩):=(hN.cell 0).trans rfl
 have q5:w1.cell? ⟨w.heap.size+1,1,none⟩=some .nilIface:=(hN.cell 1).trans rfl
 have q6:=(hn.mine _ mN).2
 have q7:=(hn.mine _ mK).2
 go_wp2_with fail
 have hA:=hA.same (Below.heap_setCell w1 ⟨(w.heap.size+1),0,none⟩ (.string t.text) w.heap.size (by simp))
 have hN:=hN.set 0 (.string t.text) (by simp)
 have hn:=hn.set (o:=0) (.string t.text) mN
 have hA:=hA.same (Below.heap_setCell _ ⟨(w.heap.size+1),1,none⟩ (.iface (typF 2) (.pointer (some ⟨w1.heap.size,0,none⟩))) w.heap.size (by simp))
 have hN:=hN.set 1 (.iface (typF 2) (.pointer (some ⟨w1.heap.size,0,none⟩))) (by simp)
 have hn:=hn.set (o:=1) (.iface (typF 2) (.pointer (some ⟨w1.heap.size,0,none⟩))) mN
 have hA:=hA.below (below_alloc ((w1.setCell ⟨(w.heap.size+1),0,none⟩ (.string t.text)).setCell ⟨(w.heap.size+1),1,none⟩ (.iface (typF 2) (.pointer (some ⟨w1.heap.size,0,none⟩)))) (.cells #[.iface 201 (.string t.text)] 101)) (hn.mine _ mA).2
 have hN:=hN.below (below_alloc ((w1.setCell ⟨(w.heap.size+1),0,none⟩ (.string t.text)).setCell ⟨(w.heap.size+1),1,none⟩ (.iface (typF 2) (.pointer (some ⟨w1.heap.size,0,none⟩)))) (.cells #[.iface 201 (.string t.text)] 101)) (hn.mine _ mN).2
 have hl:=Cl.start ((w1.setCell ⟨(w.heap.size+1),0,none⟩ (.string t.text)).setCell ⟨(w.heap.size+1),1,none⟩ (.iface (typF 2) (.pointer (some ⟨w1.heap.size,0,none⟩)))) [.iface 201 (.string t.text)] 101
 have hls:((w1.setCell ⟨(w.heap.size+1),0,none⟩ (.string t.text)).setCell ⟨(w.heap.size+1),1,none⟩ (.iface (typF 2) (.pointer (some ⟨w1.heap.size,0,none⟩)))).heap.size=w1.heap.size:=by simp
 have hn:=(hn.alloc (.cells #[.iface 201 (.string t.text)] 101)).add (x:=.ok (litT (4,0,t.text),[])) (v:=.iface (typF 2) (.pointer (some ⟨w1.heap.size,0,none⟩))) (fun t' l' e=>by
  cases e
  rw [hls] at hl
  refine Rf.mk ⟨?_,?_⟩ (by simp) rfl ⟨(hl.cell 0).trans rfl,trivial⟩
  ·have:=hn.kept.size
   simpa using this
  ·intro hm
   have:=(hn.mine _ hm).2
   simp at this)
 refine Calls.mono (expectQ hn.rd) ?_
 rintro e w2 ⟨rfl,L2,k2,r2,b2,f2,s2⟩
 have hA:=hA.call hn mA k2
 have hN:=hN.call hn mN k2
 have hn:=hn.call k2 r2
 go_wp2_with fail
 refine Calls.mono (hP.oper 3 (by omega) (by omega) hn.rd (by simp only [List.length_cons] at *;omega)) ?_
 rintro e w3 ⟨v3,L3,rfl,o3,k3,r3,b3,s3,f3⟩
 have hA:=hA.call hn mA k3
 have hN:=hN.call hn mN k3
 have hn:=hn.item k3 r3 f3
 have x3:=cells_one o3
 have z3:=x3
 unfold Value.cells at z3
 obtain ⟨U0,hU0⟩:∃ U0:Value,U0 = .string t.text:=⟨_,rfl⟩
 obtain ⟨U1,hU1⟩:∃ U1:Value,U1 = .iface (typF 2) (.pointer (some ⟨w1.heap.size,0,none⟩)):=⟨_,rfl⟩
 obtain ⟨U2,hU2⟩:∃ U2:Value,U2 = .bool false:=⟨_,rfl⟩
 have e0:U0.oneCell'=true:=by rw [hU0];rfl
 have e1:U1.oneCell'=true:=by rw [hU1];exact rfl
 have e2:U2.oneCell'=true:=by rw [hU2];rfl
 have hN:Cl w3 (w.heap.size+1) [U0,U1,U2,.nilIface]:=by rw [hU0,hU1,hU2];exact hN
 obtain ⟨W,y,hA,hN,hn⟩:∃ W,(Go.store ⟨(w.heap.size+1),3,none⟩ v3).run Tryz.prog w3 = .ok () W∧Cl W w.heap.size [.string ⟨#[]⟩,.nilIface,.bool false,.nilIface]∧Cl W (w.heap.size+1) [U0,U1,U2,v3]∧Nq w W rb tb [(w.heap.size+1+1),(w.heap.size+1),w.heap.size] L3 _ :=
  ⟨_,hN.store1 3 o3 (by simp),hA.same (Below.heap_setCell w3 ⟨(w.heap.size+1),3,none⟩ v3 w.heap.size (by simp)),hN.set 3 v3 (by simp),hn.set (o:=3) v3 mN⟩
 have c0:W.cell? ⟨(w.heap.size+1),0,none⟩=some U0:=(hN.cell 0).trans rfl
 have c1:W.cell? ⟨(w.heap.size+1),1,none⟩=some U1:=(hN.cell 1).trans rfl
 have c2:W.cell? ⟨(w.heap.size+1),2,none⟩=some U2:=(hN.cell 2).trans rfl
 have c3:W.cell? ⟨(w.heap.size+1),3,none⟩=some v3:=(hN.cell 3).trans rfl
 obtain ⟨W0,g0,hA,hn⟩:∃ W0,(Go.store ⟨w.heap.size,0,none⟩ U0).run Tryz.prog W = .ok () W0∧Cl W0 w.heap.size [U0,.nilIface,.bool false,.nilIface]∧Nq w W0 rb tb [(w.heap.size+1+1),(w.heap.size+1),w.heap.size] L3 _:=⟨_,hA.store1 0 e0 (by simp),hA.set 0 U0 (by simp),hn.set (o:=0) U0 mA⟩
 obtain ⟨W1,g1,hA,hn⟩:∃ W1,(Go.store ⟨w.heap.size,1,none⟩ U1).run Tryz.prog W0 = .ok () W1∧Cl W1 w.heap.size [U0,U1,.bool false,.nilIface]∧Nq w W1 rb tb [(w.heap.size+1+1),(w.heap.size+1),w.heap.size] L3 _:=⟨_,hA.store1 1 e1 (by simp),hA.set 1 U1 (by simp),hn.set (o:=1) U1 mA⟩
 obtain ⟨W2,g2,hA,hn⟩:∃ W2,(Go.store ⟨w.heap.size,2,none⟩ U2).run Tryz.prog W1 = .ok () W2∧Cl W2 w.heap.size [U0,U1,U2,.nilIface]∧Nq w W2 rb tb [(w.heap.size+1+1),(w.heap.size+1),w.heap.size] L3 _:=⟨_,hA.store1 2 e2 (by simp),hA.set 2 U2 (by simp),hn.set (o:=2) U2 mA⟩
 obtain ⟨W3,g3,hA,hn⟩:∃ W3,(Go.store ⟨w.heap.size,3,none⟩ v3).run Tryz.prog W2 = .ok () W3∧Cl W3 w.heap.size [U0,U1,U2,v3]∧Nq w W3 rb tb [(w.heap.size+1+1),(w.heap.size+1),w.heap.size] L3 _:=⟨_,hA.store1 3 o3 (by simp),hA.set 3 v3 (by simp),hn.set (o:=3) v3 mA⟩
 have HU:Aside (U0 = .string t.text∧U1 = .iface (typF 2) (.pointer (some ⟨w1.heap.size,0,none⟩))∧U2 = .bool false):=⟨hU0,hU1,hU2⟩
 clear hU0 hU1 hU2
 go_wp2_with fail
 have a0:W3.cell? ⟨w.heap.size,0,none⟩=some U0:=(hA.cell 0).trans rfl
 have a1:W3.cell? ⟨w.heap.size,1,none⟩=some U1:=(hA.cell 1).trans rfl
 have a2:W3.cell? ⟨w.heap.size,2,none⟩=some U2:=(hA.cell 2).trans rfl
 have a3:W3.cell? ⟨w.heap.size,3,none⟩=some v3:=(hA.cell 3).trans rfl
 refine bodyPost_ret (v:=.agg #[U0,U1,U2,v3]) (by simp [results,Tryz.results148,go_sem,a0,a1,a2,a3]) rfl ?_
 obtain ⟨rfl,rfl,rfl⟩:=HU.out
 refine ⟨t.text,_,false,v3,L3,rfl,rfl,o3,hn.kept,hn.rd,by simp only [List.length_cons] at *;omega,hs0 _,?_⟩
 unfold memberS
 rw [hkey]
 show Fn (thn (exq sColon (u :: l)) fun _ l2=>thn (P 13 l2) fun v l3=>Except.ok ((0,t.text,litT (4,0,t.text),v),l3)) L3 _
 refine Fn.thn f2 (fun _ _ _=>Fn.thn f3 (fun a e _=>Fn.ok ⟨?_,hn.kid (.tail _ (.head _)) rfl,hn.kid (.head _) e⟩) (Sx.refl _)) s3
 simp [mD,memN,hgd.1,hgd.2]
theorem member_string {P:Ps}{B:Nat} (hP:SndP P B) {w:World}{rb tb:Nat}{t u:Tok}{l:List Tok} (h:RdP w rb tb (t :: u :: l)) (hk:t.kind=6) (hB:8 * (t :: u :: l).length≤B) :
  Calls Tryz.prog 148 #[.pointer (some ⟨rb,0,none⟩)] w (Gm rb tb w (t :: u :: l) (memberS P (t :: u :: l))):=by
 have hs0:∀ M,Sx (t :: u :: l) M:=fun M k=>absurd (show t.kind=1 from k) (by omega)
 have hkey:keyS P (t :: u :: l) = .ok ((1,t.text,litT (4,0,t.text)),u :: l):=by simp [keyS,hk]
 obtain ⟨o,c,⟨hr,hcap,hmax,hfz,hne2,htb,⟨h0,h1,h2,hrest⟩⟩⟩:=h.rd
 clear hrest
 simp only [List.length_cons] at hr hcap
 have hrb:=h.rbs
 have hA:=(((Cl.start w [.string ⟨#[]⟩,.nilIface,.bool false,.nilIface] 169).below (below_alloc _ (.cells #[.string ⟨#[]⟩,.nilIface,.bool false,.nilIface] 169)) (by simp)).below (below_alloc _ (.cells #[.int .u8 6,.string t.text,.int .i64 t.pos] 62)) (by simp;omega))
 have hN:=((Cl.start (w.alloc (.cells #[.string ⟨#[]⟩,.nilIface,.bool false,.nilIface] 169)) [.string ⟨#[]⟩,.nilIface,.bool false,.nilIface] 169).below (below_alloc _ (.cells #[.int .u8 6,.string t.text,.int .i64 t.pos] 62)) (by simp))
 have hK:=Cl.start ((w.alloc (.cells #[.string ⟨#[]⟩,.nilIface,.bool false,.nilIface] 169)).alloc (.cells #[.string ⟨#[]⟩,.nilIface,.bool false,.nilIface] 169)) [.int .u8 6,.string t.text,.int .i64 t.pos] 62
 have hn:=(((Nq.start h).own (.cells #[.string ⟨#[]⟩,.nilIface,.bool false,.nilIface] 169)).own (.cells #[.string ⟨#[]⟩,.nilIface,.bool false,.nilIface] 169)).own (.cells #[.int .u8 6,.string t.text,.int .i64 t.pos] 62)
 simp only [World.size_alloc] at hN hK hn
 have mK:(w.heap.size+1+1)∈[(w.heap.size+1+1),(w.heap.size+1),w.heap.size]:=.head _
 have mN:(w.heap.size+1)∈[(w.heap.size+1+1),(w.heap.size+1),w.heap.size]:=.tail _ (.head _)
 have mA:w.heap.size∈[(w.heap.size+1+1),(w.heap.size+1),w.heap.size]:=.tail _ (.tail _ (.head _))
 rw [hk] at h0
 clear hk
 go_enter Tryz.func148,Tryz.ntmps148
 go_wp2_with fail
 refine Calls.mono (takeQ hn.rd) ?_
 rintro e w1 ⟨rfl,k1,r1⟩
 have hK:=hK.call hn mK k1
 have hA:=hA.call hn mA k1
 have hN:=hN.call hn mN k1
 have hn:=hn.call k1 r1
 have q1:w1.cell? ⟨w.heap.size+1+1,1,none⟩=some (.string t.text):=(hK.cell 1).trans rfl
 have q2:=hN.free
 have q5:w1.cell? ⟨w.heap.size+1,1,none⟩=some .nilIface:=(hN.cell 1).trans rfl
 have q6:=(hn.mine _ mN).2
 have q7:=(hn.mine _ mK).2
 go_wp2_with fail
 have hA:=hA.same (Below.heap_setCell _ ⟨(w.heap.size+1),1,none⟩ (.iface (typF 2) (.pointer (some ⟨w1.heap.size,0,none⟩))) w.heap.size (by simp))
 have hN:=hN.set 1 (.iface (typF 2) (.pointer (some ⟨w1.heap.size,0,none⟩))) (by simp)
 have hn:=hn.set (o:=1) (.iface (typF 2) (.pointer (some ⟨w1.heap.size,0,none⟩))) mN
 have hA:=hA.below (below_alloc (w1.setCell ⟨(w.heap.size+1),1,none⟩ (.iface (typF 2) (.pointer (some ⟨w1.heap.size,0,none⟩)))) (.cells #[.iface 201 (.string t.text)] 101)) (hn.mine _ mA).2
 have hN:=hN.below (below_alloc (w1.setCell ⟨(w.heap.size+1),1,none⟩ (.iface (typF 2) (.pointer (some ⟨w1.heap.size,0,none⟩)))) (.cells #[.iface 201 (.string t.text)] 101)) (hn.mine _ mN).2
 have hl:=Cl.start (w1.setCell ⟨(w.heap.size+1),1,none⟩ (.iface (typF 2) (.pointer (some ⟨w1.heap.size,0,none⟩)))) [.iface 201 (.string t.text)] 101
 have hls:(w1.setCell ⟨(w.heap.size+1),1,none⟩ (.iface (typF 2) (.pointer (some ⟨w1.heap.size,0,none⟩)))).heap.size=w1.heap.size:=by simp
 have hn:=(hn.alloc (.cells #[.iface 201 (.string t.text)] 101)).add (x:=.ok (litT (4,0,t.text),[])) (v:=.iface (typF 2) (.pointer (some ⟨w1.heap.size,0,none⟩))) (fun t' l' e=>by
  cases e
  rw [hls] at hl
  refine Rf.mk ⟨?_,?_⟩ (by simp) rfl ⟨(hl.cell 0).trans rfl,trivial⟩
  ·have:=hn.kept.size
   simpa using this
  ·intro hm
   have:=(hn.mine _ hm).2
   simp at this)
 refine Calls.mono (expectQ hn.rd) ?_
 rintro e w2 ⟨rfl,L2,k2,r2,b2,f2,s2⟩
 have hA:=hA.call hn mA k2
 have hN:=hN.call hn mN k2
 have hn:=hn.call k2 r2
 go_wp2_with fail
 refine Calls.mono (hP.oper 3 (by omega) (by omega) hn.rd (by simp only [List.length_cons] at *;omega)) ?_
 rintro e w3 ⟨v3,L3,rfl,o3,k3,r3,b3,s3,f3⟩
 have hA:=hA.call hn mA k3
 have hN:=hN.call hn mN k3
 have hn:=hn.item k3 r3 f3
 have x3:=cells_one o3
 have z3:=x3
 unfold Value.cells at z3
 obtain ⟨U0,hU0⟩:∃ U0:Value,U0 = .string ⟨#[]⟩:=⟨_,rfl⟩
 obtain ⟨U1,hU1⟩:∃ U1:Value,U1 = .iface (typF 2) (.pointer (some ⟨w1.heap.size,0,none⟩)):=⟨_,rfl⟩
 obtain ⟨U2,hU2⟩:∃ U2:Value,U2 = .bool false:=⟨_,rfl⟩
 have e0:U0.oneCell'=true:=by rw [hU0];rfl
 have e1:U1.oneCell'=true:=by rw [hU1];exact rfl
 have e2:U2.oneCell'=true:=by rw [hU2];rfl
 have hN:Cl w3 (w.heap.size+1) [U0,U1,U2,.nilIface]:=by rw [hU0,hU1,hU2];exact hN
 obtain ⟨W,y,hA,hN,hn⟩:∃ W,(Go.store ⟨(w.heap.size+1),3,none⟩ v3).run Tryz.prog w3 = .ok () W∧Cl W w.heap.size [.string ⟨#[]⟩,.nilIface,.bool false,.nilIface]∧Cl W (w.heap.size+1) [U0,U1,U2,v3]∧Nq w W rb tb [(w.heap.size+1+1),(w.heap.size+1),w.heap.size] L3 _ :=
  ⟨_,hN.store1 3 o3 (by simp),hA.same (Below.heap_setCell w3 ⟨(w.heap.size+1),3,none⟩ v3 w.heap.size (by simp)),hN.set 3 v3 (by simp),hn.set (o:=3) v3 mN⟩
 have c0:W.cell? ⟨(w.heap.size+1),0,none⟩=some U0:=(hN.cell 0).trans rfl
 have c1:W.cell? ⟨(w.heap.size+1),1,none⟩=some U1:=(hN.cell 1).trans rfl
 have c2:W.cell? ⟨(w.heap.size+1),2,none⟩=some U2:=(hN.cell 2).trans rfl
 have c3:W.cell? ⟨(w.heap.size+1),3,none⟩=some v3:=(hN.cell 3).trans rfl
 obtain ⟨W0,g0,hA,hn⟩:∃ W0,(Go.store ⟨w.heap.size,0,none⟩ U0).run Tryz.prog W = .ok () W0∧Cl W0 w.heap.size [U0,.nilIface,.bool false,.nilIface]∧Nq w W0 rb tb [(w.heap.size+1+1),(w.heap.size+1),w.heap.size] L3 _:=⟨_,hA.store1 0 e0 (by simp),hA.set 0 U0 (by simp),hn.set (o:=0) U0 mA⟩
 obtain ⟨W1,g1,hA,hn⟩:∃ W1,(Go.store ⟨w.heap.size,1,none⟩ U1).run Tryz.prog W0 = .ok () W1∧Cl W1 w.heap.size [U0,U1,.bool false,.nilIface]∧Nq w W1 rb tb [(w.heap.size+1+1),(w.heap.size+1),w.heap.size] L3 _:=⟨_,hA.store1 1 e1 (by simp),hA.set 1 U1 (by simp),hn.set (o:=1) U1 mA⟩
 obtain ⟨W2,g2,hA,hn⟩:∃ W2,(Go.store ⟨w.heap.size,2,none⟩ U2).run Tryz.prog W1 = .ok () W2∧Cl W2 w.heap.size [U0,U1,U2,.nilIface]∧Nq w W2 rb tb [(w.heap.size+1+1),(w.heap.size+1),w.heap.size] L3 _:=⟨_,hA.store1 2 e2 (by simp),hA.set 2 U2 (by simp),hn.set (o:=2) U2 mA⟩
 obtain ⟨W3,g3,hA,hn⟩:∃ W3,(Go.store ⟨w.heap.size,3,none⟩ v3).run Tryz.prog W2 = .ok () W3∧Cl W3 w.heap.size [U0,U1,U2,v3]∧Nq w W3 rb tb [(w.heap.size+1+1),(w.heap.size+1),w.heap.size] L3 _:=⟨_,hA.store1 3 o3 (by simp),hA.set 3 v3 (by simp),hn.set (o:=3) v3 mA⟩
 have HU:Aside (U0 = .string ⟨#[]⟩∧U1 = .iface (typF 2) (.pointer (some ⟨w1.heap.size,0,none⟩))∧U2 = .bool false):=⟨hU0,hU1,hU2⟩
 clear hU0 hU1 hU2
 go_wp2_with fail
 have a0:W3.cell? ⟨w.heap.size,0,none⟩=some U0:=(hA.cell 0).trans rfl
 have a1:W3.cell? ⟨w.heap.size,1,none⟩=some U1:=(hA.cell 1).trans rfl
 have a2:W3.cell? ⟨w.heap.size,2,none⟩=some U2:=(hA.cell 2).trans rfl
 have a3:W3.cell? ⟨w.heap.size,3,none⟩=some v3:=(hA.cell 3).trans rfl
 refine bodyPost_ret (v:=.agg #[U0,U1,U2,v3]) (by simp [results,Tryz.results148,go_sem,a0,a1,a2,a3]) rfl ?_
 obtain ⟨rfl,rfl,rfl⟩:=HU.out
 refine ⟨⟨#[]⟩,_,false,v3,L3,rfl,rfl,o3,hn.kept,hn.rd,by simp only [List.length_cons] at *;omega,hs0 _,?_⟩
 unfold memberS
 rw [hkey]
 show Fn (thn (exq sColon (u :: l)) fun _ l2=>thn (P 13 l2) fun v l3=>Except.ok ((1,t.text,litT (4,0,t.text),v),l3)) L3 _
 refine Fn.thn f2 (fun _ _ _=>Fn.thn f3 (fun a e _=>Fn.ok ⟨?_,hn.kid (.tail _ (.head _)) rfl,hn.kid (.head _) e⟩) (Sx.refl _)) s3
 simp [mD,memN]
theorem member_filter {P:Ps}{B:Nat} (hP:SndP P B) {w:World}{rb tb:Nat}{t:Tok}{m:List Tok} (h:RdP w rb tb (t :: m)) (i2:t.kind≠2) (i6:t.kind≠6) (hB:8 * (t :: m).length+5≤B) :
  Calls Tryz.prog 148 #[.pointer (some ⟨rb,0,none⟩)] w (Gm rb tb w (t :: m) (memberS P (t :: m))):=by
 have hkey:Fn (keyS P (t :: m)) (stuck (t :: m)) (fun _=>True)∨keyS P (t :: m)=(thn (exq sOpen (t :: m)) fun _ l1=>thn (P 0 l1) fun f l2=>thn (exq sShut l2) fun _ l3=>.ok ((2,⟨#[]⟩,f),l3)):=by
  cases m with
  | nil=>exact .inr rfl
  | cons u l=>exact .inr (by simp [keyS,i2,i6])
 have hkey:keyS P (t :: m)=(thn (exq sOpen (t :: m)) fun _ l1=>thn (P 0 l1) fun f l2=>thn (exq sShut l2) fun _ l3=>.ok ((2,⟨#[]⟩,f),l3)):=by
  cases m with
  | nil=>rfl
  | cons u l=>simp [keyS,i2,i6]
 obtain ⟨o,c,⟨hr,hcap,hmax,hfz,hne2,htb,⟨h0,h1,h2,hrest⟩⟩⟩:=h.rd
 clear hrest
 simp only [List.length_cons] at hr hcap
 have hrb:=h.rbs
 have hA:=(((Cl.start w [.string ⟨#[]⟩,.nilIface,.bool false,.nilIface] 169).below (below_alloc _ (.cells #[.string ⟨#[]⟩,.nilIface,.bool false,.nilIface] 169)) (by simp)).below (below_alloc _ (.cells #[.int .u8 t.kind,.string t.text,.int .i64 t.pos] 62)) (by simp;omega))
 have hN:=((Cl.start (w.alloc (.cells #[.string ⟨#[]⟩,.nilIface,.bool false,.nilIface] 169)) [.string ⟨#[]⟩,.nilIface,.bool false,.nilIface] 169).below (below_alloc _ (.cells #[.int .u8 t.kind,.string t.text,.int .i64 t.pos] 62)) (by simp))
 have hK:=Cl.start ((w.alloc (.cells #[.string ⟨#[]⟩,.nilIface,.bool false,.nilIface] 169)).alloc (.cells #[.string ⟨#[]⟩,.nilIface,.bool false,.nilIface] 169)) [.int .u8 t.kind,.string t.text,.int .i64 t.pos] 62
 have hn:=(((Nq.start h).own (.cells #[.string ⟨#[]⟩,.nilIface,.bool false,.nilIface] 169)).own (.cells #[.string ⟨#[]⟩,.nilIface,.bool false,.nilIface] 169)).own (.cells #[.int .u8 t.kind,.string t.text,.int .i64 t.pos] 62)
 simp only [World.size_alloc] at hN hK hn
 have mK:(w.heap.size+1+1)∈[(w.heap.size+1+1),(w.heap.size+1),w.heap.size]:=.head _
 have mN:(w.heap.size+1)∈[(w.heap.size+1+1),(w.heap.size+1),w.heap.size]:=.tail _ (.head _)
 have mA:w.heap.size∈[(w.heap.size+1+1),(w.heap.size+1),w.heap.size]:=.tail _ (.tail _ (.head _))
 have j2:(t.kind == 2)=false:=by simpa using i2
 have j6:(t.kind == 6)=false:=by simpa using i6
 go_enter Tryz.func148,Tryz.ntmps148
 go_wp2_with fail
 refine Calls.mono (expectQ hn.rd) ?_
 rintro e w1 ⟨rfl,L1,k1,r1,b1,f1,s1⟩
 have hA:=hA.call hn mA k1
 have hN:=hN.call hn mN k1
 have hn:=hn.call k1 r1
 have q2:=hN.free
 have q5:w1.cell? ⟨w.heap.size+1,2,none⟩=some (.bool false):=(hN.cell 2).trans rfl
 go_wp2_with fail
 have hA:=hA.same (Below.heap_setCell w1 ⟨(w.heap.size+1),2,none⟩ (.bool true) w.heap.size (by simp))
 have hN:=hN.set 2 (.bool true) (by simp)
 have hn:=hn.set (o:=2) (.bool true) mN
 refine Calls.mono (hP.filter hn.rd (by simp only [List.length_cons] at *;omega)) ?_
 rintro e w2 ⟨v2,L2,rfl,o2,k2,r2,b2,s2,f2⟩
 have hA:=hA.call hn mA k2
 have hN:=hN.call hn mN k2
 have hn:=hn.item k2 r2 f2
 have x2:=cells_one o2
 have z2:=x2
 unfold Value.cells at z2
 have y2:=hN.store1 1 o2 (by simp)
 go_wp2_with fail
 have hA:=hA.same (Below.heap_setCell w2 ⟨(w.heap.size+1),1,none⟩ v2 w.heap.size (by simp))
 have hN:=hN.set 1 v2 (by simp)
 have hn:=hn.set (o:=1) v2 mN
 refine Calls.mono (expectQ hn.rd) ?_
 rintro e w3 ⟨rfl,L3,k3,r3,b3,f3,s3⟩
 have hA:=hA.call hn mA k3
 have hN:=hN.call hn mN k3
 have hn:=hn.call k3 r3
 go_wp2_with fail
 refine Calls.mono (expectQ hn.rd) ?_
 rintro e w4 ⟨rfl,L4,k4,r4,b4,f4,s4⟩
 have hA:=hA.call hn mA k4
 have hN:=hN.call hn mN k4
 have hn:=hn.call k4 r4
 go_wp2_with fail
 refine Calls.mono (hP.oper 3 (by omega) (by omega) hn.rd (by simp only [List.length_cons] at *;omega)) ?_
 rintro e w5 ⟨v5,L5,rfl,o5,k5,r5,b5,s5,f5⟩
 have hA:=hA.call hn mA k5
 have hN:=hN.call hn mN k5
 have hn:=hn.item k5 r5 f5
 have x5:=cells_one o5
 have z5:=x5
 unfold Value.cells at z5
 obtain ⟨U0,hU0⟩:∃ U0:Value,U0 = .string ⟨#[]⟩:=⟨_,rfl⟩
 obtain ⟨U1,hU1⟩:∃ U1:Value,U1=v2:=⟨_,rfl⟩
 obtain ⟨U2,hU2⟩:∃ U2:Value,U2 = .bool true:=⟨_,rfl⟩
 have e0:U0.oneCell'=true:=by rw [hU0];rfl
 have e1:U1.oneCell'=true:=by rw [hU1];exact o2
 have e2:U2.oneCell'=true:=by rw [hU2];rfl
 have hN:Cl w5 (w.heap.size+1) [U0,U1,U2,.nilIface]:=by rw [hU0,hU1,hU2];exact hN
 obtain ⟨W,y,hA,hN,hn⟩:∃ W,(Go.store ⟨(w.heap.size+1),3,none⟩ v5).run Tryz.prog w5 = .ok () W∧Cl W w.heap.size [.string ⟨#[]⟩,.nilIface,.bool false,.nilIface]∧Cl W (w.heap.size+1) [U0,U1,U2,v5]∧Nq w W rb tb [(w.heap.size+1+1),(w.heap.size+1),w.heap.size] L5 _ :=
  ⟨_,hN.store1 3 o5 (by simp),hA.same (Below.heap_setCell w5 ⟨(w.heap.size+1),3,none⟩ v5 w.heap.size (by simp)),hN.set 3 v5 (by simp),hn.set (o:=3) v5 mN⟩
 have c0:W.cell? ⟨(w.heap.size+1),0,none⟩=some U0:=(hN.cell 0).trans rfl
 have c1:W.cell? ⟨(w.heap.size+1),1,none⟩=some U1:=(hN.cell 1).trans rfl
 have c2:W.cell? ⟨(w.heap.size+1),2,none⟩=some U2:=(hN.cell 2).trans rfl
 have c3:W.cell? ⟨(w.heap.size+1),3,none⟩=some v5:=(hN.cell 3).trans rfl
 obtain ⟨W0,g0,hA,hn⟩:∃ W0,(Go.store ⟨w.heap.size,0,none⟩ U0).run Tryz.prog W = .ok () W0∧Cl W0 w.heap.size [U0,.nilIface,.bool false,.nilIface]∧Nq w W0 rb tb [(w.heap.size+1+1),(w.heap.size+1),w.heap.size] L5 _:=⟨_,hA.store1 0 e0 (by simp),hA.set 0 U0 (by simp),hn.set (o:=0) U0 mA⟩
 obtain ⟨W1,g1,hA,hn⟩:∃ W1,(Go.store ⟨w.heap.size,1,none⟩ U1).run Tryz.prog W0 = .ok () W1∧Cl W1 w.heap.size [U0,U1,.bool false,.nilIface]∧Nq w W1 rb tb [(w.heap.size+1+1),(w.heap.size+1),w.heap.size] L5 _:=⟨_,hA.store1 1 e1 (by simp),hA.set 1 U1 (by simp),hn.set (o:=1) U1 mA⟩
 obtain ⟨W2,g2,hA,hn⟩:∃ W2,(Go.store ⟨w.heap.size,2,none⟩ U2).run Tryz.prog W1 = .ok () W2∧Cl W2 w.heap.size [U0,U1,U2,.nilIface]∧Nq w W2 rb tb [(w.heap.size+1+1),(w.heap.size+1),w.heap.size] L5 _:=⟨_,hA.store1 2 e2 (by simp),hA.set 2 U2 (by simp),hn.set (o:=2) U2 mA⟩
 obtain ⟨W3,g3,hA,hn⟩:∃ W3,(Go.store ⟨w.heap.size,3,none⟩ v5).run Tryz.prog W2 = .ok () W3∧Cl W3 w.heap.size [U0,U1,U2,v5]∧Nq w W3 rb tb [(w.heap.size+1+1),(w.heap.size+1),w.heap.size] L5 _:=⟨_,hA.store1 3 o5 (by simp),hA.set 3 v5 (by simp),hn.set (o:=3) v5 mA⟩
 have HU:Aside (U0 = .string ⟨#[]⟩∧U1=v2∧U2 = .bool true):=⟨hU0,hU1,hU2⟩
 clear hU0 hU1 hU2
 go_wp2_with fail
 have a0:W3.cell? ⟨w.heap.size,0,none⟩=some U0:=(hA.cell 0).trans rfl
 have a1:W3.cell? ⟨w.heap.size,1,none⟩=some U1:=(hA.cell 1).trans rfl
 have a2:W3.cell? ⟨w.heap.size,2,none⟩=some U2:=(hA.cell 2).trans rfl
 have a3:W3.cell? ⟨w.heap.size,3,none⟩=some v5:=(hA.cell 3).trans rfl
 refine bodyPost_ret (v:=.agg #[U0,U1,U2,v5]) (by simp [results,Tryz.results148,go_sem,a0,a1,a2,a3]) rfl ?_
 obtain ⟨rfl,rfl,rfl⟩:=HU.out
 refine ⟨⟨#[]⟩,_,true,v5,L5,rfl,o2,o5,hn.kept,hn.rd,by simp only [List.length_cons] at *;omega,s1.trans (s2.trans (s3.trans (s4.trans s5))),?_⟩
 unfold memberS
 rw [hkey]
 simp only [thn_thn]
 refine Fn.thn f1 (fun _ _ _=>Fn.thn f2 (fun a2 e2 _=>Fn.thn f3 (fun _ _ _=>?_) (s4.trans s5)) (s3.trans (s4.trans s5))) (s2.trans (s3.trans (s4.trans s5)))
 show Fn (thn (exq sColon L3) fun _ l2=>thn (P 13 l2) fun v l3=>Except.ok (((2,(⟨#[]⟩:ByteArray),a2,v):Nat×ByteArray×Tn×Tn),l3)) L5 _
 refine Fn.thn f4 (fun _ _ _=>Fn.thn f5 (fun a e _=>Fn.ok ⟨by simp [mD,memN],hn.kid (.tail _ (.head _)) e2,hn.kid (.head _) e⟩) (Sx.refl _)) s5
theorem member_ok {P:Ps}{B:Nat} (hP:SndP P B) {w:World}{rb tb:Nat}{L:List Tok} (h:RdP w rb tb L) (hB:8 * L.length+5≤B) :
  Calls Tryz.prog 148 #[.pointer (some ⟨rb,0,none⟩)] w (Gm rb tb w L (memberS P L)):=by
 match L,h,hB with
 | [],h,_=>exact h.wf.elim
 | [t],h,hB =>
  have hw:t.kind=0∨t.kind=1:=h.wf
  exact member_filter hP h (by omega) (by omega) hB
 | t :: u :: l,h,hB =>
  by_cases k2:t.kind=2
  ·exact member_name hP h k2 (by omega)
  by_cases k6:t.kind=6
  ·exact member_string hP h k6 (by omega)
  exact member_filter hP h k2 k6 hB
end Go.Proofs.Tryz
