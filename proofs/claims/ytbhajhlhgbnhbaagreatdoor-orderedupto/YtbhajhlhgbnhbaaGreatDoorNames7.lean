import Derived.Test.YtbhajhlhgbnhbaaGreatDoorWh1
import Derived.Test.YtbhajhlhgbnhbaaGreatDoorFx5
set_option linter.all false
namespace Go.Proofs.Tryz
set_option maxHeartbeats 16000000
open Go.RowKit
set_option maxRecDepth 10000
def Good3 (s:ByteArray) (a:Nat) (r:Int×Int×Bool):Prop:=r.2.2=true→0≤r.1∧r.1≤1114111∧∃ q:Nat,r.2.1=q∧a < q∧q≤s.size
theorem half_good {s:ByteArray}{start:Nat}{first:Int} (f0:55296≤first) (f1:first≤56319):∀ (k i:Nat) (sec:Int),i+k=6→start+6+i≤s.size→upTo sec i→Good3 s start (halfL s start first k i sec)
 | 0,i,sec,hik,hle,hu=>by
  obtain rfl:i=6:=by omega
  have hu':(decide (56320≤sec) && decide (sec≤57343))=true:=hu
  simp only [Bool.and_eq_true,decide_eq_true_eq] at hu'
  intro _
  exact ⟨by simp only [halfL];omega,by simp only [halfL];omega,start+12,by simp only [halfL];omega,by omega,by omega⟩
 | k+1,i,sec,hik,hle,hu=>by
  rw [halfL]
  split
  ·intro h;cases h
  ·rename_i hz
   split
   ·rename_i z0
    split
    ·exact half_good f0 f1 k (i+1) sec (by omega) (by omega) (by subst z0;exact hu)
    ·intro h;cases h
   ·split
    ·rename_i z1
     split
     ·exact half_good f0 f1 k (i+1) sec (by omega) (by omega) (by subst z1;exact hu)
     ·intro h;cases h
    ·rename_i z0 z1
     split
     ·rename_i d hd
      split
      ·rename_i hb
       obtain ⟨j,rfl⟩:∃ j,i=j+2:=⟨i - 2,by omega⟩
       exact half_good f0 f1 k (j+2+1) _ (by omega) (by omega) hb
      ·intro h;cases h
     ·intro h;cases h
theorem uni_good {s:ByteArray}{start:Nat}:∀ (k i:Nat) (ch:Int),i+k=4→start+2+i≤s.size→uniUp ch i→Good3 s start (uniL s start k i ch)
 | 0,i,ch,hik,hle,hu=>by
  obtain rfl:i=4:=by omega
  obtain ⟨u0,u1,u2⟩:=hu
  rw [uniL]
  split
  ·intro _;exact ⟨u0,by simp only;omega,start+6,by simp only;omega,by omega,by omega⟩
  ·split
   ·intro _;exact ⟨u0,by simp only;omega,start+6,by simp only;omega,by omega,by omega⟩
   ·exact half_good (by omega) (by omega) 6 0 0 rfl (by omega) rfl
 | k+1,i,ch,hik,hle,hu=>by
  rw [uniL]
  split
  ·intro h;cases h
  ·rename_i hz
   split
   ·intro h;cases h
   ·rename_i d hd
    obtain ⟨d0,d1⟩:=hexV_range hd
    split
    ·rename_i z1
     split
     ·intro h;cases h
     ·rename_i hb
      exact uni_good k (i+1) _ (by omega) (by omega) (uniUp_step hu (by omega) d0 d1 (fun _=>by simpa using hb))
    ·rename_i z1
     exact uni_good k (i+1) _ (by omega) (by omega) (uniUp_step hu (by omega) d0 d1 (fun e=>absurd e z1))
theorem esc_good {s:ByteArray}{a:Nat} (h:a < s.size):Good3 s a (escV s a):=by
 unfold escV
 split
 ·intro h;cases h
 ·rename_i hz
  unfold escC
  repeat' split
  all_goals first
   | exact uni_good 4 0 0 rfl (by omega) rfl
   | (intro h;cases h;done)
   | (intro _;exact ⟨by simp only;omega,by simp only;omega,a+2,by simp only;omega,by omega,by omega⟩)
theorem behind1_someg {w:World}{rb vb sb:Nat}{f:Value}{P:SP}{L:List SP}{F D:Nat→Prop} (hr:Box w rb f 66) (hS:StG (P :: L) F D w f) :
  Calls Tryz.prog 41 #[.pointer (some ⟨rb,0,none⟩),.pointer (some ⟨vb,0,none⟩),.pointer (some ⟨sb,0,none⟩)] w fun e w'=>Fr D w w'∧∃ s G F' D',e = .returned (.tuple #[spv s,.bool true])∧HoldsP P G w' s∧StG L F' D' w' f∧(∀ k,F' k→F k∨w.heap.size < k)∧(∀ k,D' k→D k∨w.heap.size < k)∧(∀ k,G k→F k∨w.heap.size < k)∧(∀ k,G k→¬ D' k):=by
 have h0:=hr.cell
 have h2:=hr.lt
 obtain ⟨K,cap,rfl,hE,hF,hD,h⟩:=hS
 have hE':∀ (args:Array Value) (w:World),(callFunc K args).run Tryz.prog w = .ok (.enter K args) w:=hE
 have H:Aside (∀ w',SameOn F w w'→w.heap.size≤w'.heap.size→Calls Tryz.prog K cap w' fun e w''=>Fr D w' w''∧∃ s G F' D',e = .returned (.tuple #[spv s,.bool true])∧HoldsP P G w'' s∧StG L F' D' w'' (.func (.func K) #[] cap)∧(∀ k,F' k→F k∨w'.heap.size≤k)∧(∀ k,D' k→D k∨w'.heap.size≤k)∧(∀ k,G k→F k∨w'.heap.size≤k)∧(∀ k,G k→¬ D' k)):=h
 clear h
 go_enter Tryz.func41,Tryz.ntmps41
 go_wp2_with (go_at_fn K;refine (H.out _ (fun k hk=>Below.heap_alloc _ _ _ (hF k hk)) (by simp)).mono ?_;rintro e w1 ⟨k1,⟨⟨T,u⟩,qp⟩,G,F',D',rfl,hP,hS',hF',hD',hG,hGD⟩;simp only [spv,iv];have q:SpotBox w1 w.heap.size .nilIface:=(SpotBox.new w .nilIface).same (k1.block _ (by simp) (new_not hF hD));obtain ⟨q0,q1,q2,q3,q4⟩:=q.facts)
 simp only [World.size_alloc] at hF' hD' hG
 have fe:Fr (· = w.heap.size) w1 (((w1.setCell ⟨w.heap.size,0,none⟩ (.iface T u)).setCell ⟨w.heap.size,1,none⟩ (.pointer qp)).alloc (.cells #[.iface T u,.pointer qp] 75)):=(((Fr.refl (· = w.heap.size) w1).setCell _ (.inl rfl)).setCell _ (.inl rfl)).alloc _
 refine bodyPost_ret (v:=.tuple #[.agg #[.iface T u,.pointer qp],.bool true]) (by simp [results,Tryz.results41,go_sem,q4,q0,q1]) rfl ⟨?_,((T,u),qp),G,F',D',rfl,?_,?_,?_,?_,?_,hGD⟩
 ·exact (((((Fr.refl D w).alloc _).trans k1 (fun _ _ e=>e)).setCell _ (.inr (Nat.le_refl _))).setCell _ (.inr (Nat.le_refl _))).alloc _
 ·exact hP.after fe (by grind)
 ·exact hS'.after fe (by grind)
 ·grind
 ·grind
 ·grind
def SecG (C:Nat→Prop) (w:World) (g:Value) (L:List SP):Prop :=
 ∃ K cap,g = .func (.func K) #[] cap∧Enters Tryz.prog K∧(∀ k,C k→k < w.heap.size)∧∀ w',SameOn C w w'→w.heap.size≤w'.heap.size→Calls Tryz.prog K cap w' (MadeC L C w')
theorem SecG.move {C:Nat→Prop}{w w1:World}{g:Value}{L:List SP} (h:SecG C w g L) (hs:SameOn C w w1) (hl:w.heap.size≤w1.heap.size):SecG C w1 g L:=by
 obtain ⟨K,cap,e,hE,hC,h⟩:=h
 exact ⟨K,cap,e,hE,fun k hk=>Nat.lt_of_lt_of_le (hC k hk) hl,fun w' a b=>h w' (hs.trans a) (Nat.le_trans hl b)⟩
theorem behind1_secondg {w:World}{rb vb sb:Nat}{f g:Value}{P:SP}{L:List SP}{Fo Do C:Nat→Prop} (hr:Box w rb f 66) (hv:Box w vb (.bool false) 4) (hb:Box w sb g 76) (hS:Str [] .none Fo Do w f) (hT:SecG C w g (P :: L)) (hrD:¬ Do rb) (hvD:¬ Do vb) (hbD:¬ Do sb) (hCD:∀ k,C k→¬ Do k) (hrC:¬ C rb) (hvC:¬ C vb) (hrv:rb≠vb) :
  Calls Tryz.prog 41 #[.pointer (some ⟨rb,0,none⟩),.pointer (some ⟨vb,0,none⟩),.pointer (some ⟨sb,0,none⟩)] w fun e w'=>Fr (fun k=>Do k∨k=rb∨k=vb) w w'∧∃ s G f F D,e = .returned (.tuple #[spv s,.bool true])∧HoldsP P G w' s∧
   Box w' rb f 66∧Box w' vb (.bool true) 4∧StG L F D w' f∧(∀ k,F k→C k∨w.heap.size < k)∧(∀ k,D k→w.heap.size < k)∧(∀ k,G k→C k∨w.heap.size < k)∧(∀ k,G k→¬ D k):=by
 have h0:=hr.cell
 have h2:=hr.lt
 have h3:=hv.lt
 have h4:=hb.lt
 obtain ⟨K,cap,rfl,hE,hF,hD,h⟩:=hS
 obtain ⟨K2,cap2,rfl,hE2,hC,h'⟩:=hT
 have hE':∀ (args:Array Value) (w:World),(callFunc K args).run Tryz.prog w = .ok (.enter K args) w:=hE
 have hE2':∀ (args:Array Value) (w:World),(callFunc K2 args).run Tryz.prog w = .ok (.enter K2 args) w:=hE2
 simp only [Ends1] at h
 have H':Aside (∀ w',SameOn C w w'→w.heap.size≤w'.heap.size→Calls Tryz.prog K2 cap2 w' (MadeC (P :: L) C w')):=h'
 clear h'
 go_enter Tryz.func41,Tryz.ntmps41
 go_wp2_with (first
  | (go_at_fn K;refine (h _ (fun k hk=>Below.heap_alloc _ _ _ (hF k hk)) (by simp)).mono ?_;rintro e w1 ⟨k1,rfl⟩;have q:SpotBox w1 w.heap.size .nilIface:=(SpotBox.new w .nilIface).same (k1.block _ (by simp) (new_not hF hD));obtain ⟨q0,q1,q2,q3,q4⟩:=q.facts;have hR:Fr Do w w1:=((Fr.refl Do w).alloc _).trans k1 (fun _ _ e=>e);have t0:=(hv.same (hR.block _ h3 hvD)).cell;have t1:vb < w1.heap.size:=(by omega);have t2:=(hb.same (hR.block _ h4 hbD)).cell;have t3:sb < w1.heap.size:=by omega)
  | (go_at_fn K2;refine (H'.out _ (fun k hk=>(Below.heap_alloc _ _ _ (Nat.lt_of_lt_of_le (hC k hk) hR.size)).trans (hR.block k (hC k hk) (hCD k hk))) (by simp;omega)).mono ?_;rintro e w2 ⟨k2,K3,cap3,rfl,F,D,hS,hFC,hDn⟩;have hl2:w1.heap.size+1≤w2.heap.size:=(by simpa using k2.size);have hR2:Fr Do w w2:=(hR.alloc _).trans (Fr.of_below (D:=fun _=>False) k2) (fun _ _ e=>e.elim);have i2:=hr.same (hR2.block _ h2 hrD);have i20:=i2.cell;have i21:=i2.free;have i22:=i2.lt;have j2:=hv.same (hR2.block _ h3 hvD);have j20:=j2.cell;have j21:=j2.free;have j22:=j2.lt;have r:SpotBox w2 w.heap.size .nilIface:=(q.alloc _).same (k2.block _ (by simp;omega));have k3:Fr (fun k=>k=rb∨k=vb) w2 ((w2.setCell ⟨rb,0,none⟩ (.func (.func K3) #[] cap3)).setCell ⟨vb,0,none⟩ (.bool true)):=((Fr.refl (fun k=>k=rb∨k=vb) w2).setCell _ (.inl (.inl rfl))).setCell _ (.inl (.inr rfl));have r':=r.same (k3.block _ r.lt (by omega));have i3:Box ((w2.setCell ⟨rb,0,none⟩ (.func (.func K3) #[] cap3)).setCell ⟨vb,0,none⟩ (.bool true)) rb (.func (.func K3) #[] cap3) 66:=(i2.set _).same (Below.heap_setCell _ _ _ _ (by simpa using hrv));have i30:=i3.cell;have hS3:=hS.after k3 (sec_free hFC hrC hvC (by simp;omega) (by simp;omega));obtain ⟨K3',cap3',ef,hE3,hF3,hD3,h3'⟩:=hS3;obtain ⟨rfl,rfl⟩:K3=K3'∧cap3=cap3':=(by simpa using ef);have H3:Aside (∀ w',SameOn F ((w2.setCell ⟨rb,0,none⟩ (.func (.func K3) #[] cap3)).setCell ⟨vb,0,none⟩ (.bool true)) w'→((w2.setCell ⟨rb,0,none⟩ (.func (.func K3) #[] cap3)).setCell ⟨vb,0,none⟩ (.bool true)).heap.size≤w'.heap.size→Calls Tryz.prog K3 cap3 w' fun e w''=>Fr D w' w''∧∃ s G F' D',e = .returned (.tuple #[spv s,.bool true])∧HoldsP P G w'' s∧StG L F' D' w'' (.func (.func K3) #[] cap3)∧(∀ k,F' k→F k∨w'.heap.size≤k)∧(∀ k,D' k→D k∨w'.heap.size≤k)∧(∀ k,G k→F k∨w'.heap.size≤k)∧(∀ k,G k→¬ D' k)):=h3';clear h3';have hE3':∀ (args:Array Value) (w:World),(callFunc K3 args).run Tryz.prog w = .ok (.enter K3 args) w:=hE3)
  | (go_at_fn K3;refine (H3.out _ (SameOn.refl _ _) (Nat.le_refl _)).mono ?_;rintro e w4 ⟨k4,⟨⟨T',u'⟩,qp⟩,G,F',D',rfl,hP,hS',hF',hD',hG,hGD⟩;simp only [spv,iv];have hDs:=sec_new hDn (n:=w1.heap.size) (by simp);have v:SpotBox w4 w.heap.size .nilIface:=r'.same (k4.block _ r'.lt (fun e=>by have:=hDs _ e;omega));obtain ⟨v0,v1,v2,v3,v4⟩:=v.facts))
 have hR3:Fr (fun k=>Do k∨k=rb∨k=vb) w w4:=((hR2.mono (fun k hk=>.inl hk)).trans k3 (fun i hi e=>.inr e)).trans k4 (fun i hi e=>by have:=hDs _ e;omega)
 have hend:Fr (fun k=>k=w.heap.size) w4 ((w4.setCell ⟨w.heap.size,0,none⟩ (.iface T' u')).setCell ⟨w.heap.size,1,none⟩ (.pointer qp)):=((Fr.refl (fun k=>k=w.heap.size) w4).setCell _ (.inl rfl)).setCell _ (.inl rfl)
 have hl3:w2.heap.size≤((w2.setCell ⟨rb,0,none⟩ (.func (.func K3) #[] cap3)).setCell ⟨vb,0,none⟩ (.bool true)).heap.size:=k3.size
 have hl4:=k4.size
 have j3:Box ((w2.setCell ⟨rb,0,none⟩ (.func (.func K3) #[] cap3)).setCell ⟨vb,0,none⟩ (.bool true)) vb (.bool true) 4:=(j2.same (Below.heap_setCell _ _ _ _ (by simpa using hrv.symm))).set _
 simp only [World.size_alloc] at hFC hDn
 have hFl:∀ k,F k→C k∨w.heap.size < k:=fun k hk=>by rcases hFC k hk with h | h;exact .inl h;exact .inr (by omega)
 have hFe:∀ k,F k→k≠w.heap.size:=fun k hk e=>by
  rcases hFC k hk with h | h
  ·have:=hC k h;omega
  ·omega
 refine bodyPost_ret (v:=.tuple #[.agg #[.iface T' u',.pointer qp],.bool true]) (by simp [results,Tryz.results41,go_sem,v4,v0,v1]) rfl ⟨?_,((T',u'),qp),G,_,F',D',rfl,?_,(i3.same (k4.block _ i3.lt (fun e=>by have:=hDs _ e;omega))).same (hend.block _ (by have:=i3.lt;omega) (by omega)),(j3.same (k4.block _ j3.lt (fun e=>by have:=hDs _ e;omega))).same (hend.block _ (by have:=j3.lt;omega) (by omega)),?_,?_,?_,?_,hGD⟩
 ·exact hR3.trans hend (fun i hi e=>by omega)
 ·refine hP.after hend ?_
  intro k hk e
  rcases hG k hk with h | h
  ·exact hFe k h e
  ·omega
 ·refine hS'.after hend ?_
  intro k hk e
  rcases hF' k hk with h | h
  ·exact hFe k h e
  ·omega
 ·intro k hk
  rcases hF' k hk with h | h
  ·exact hFl k h
  ·exact .inr (by omega)
 ·intro k hk
  rcases hD' k hk with h | h
  ·have:=hDs k h;omega
  ·omega
 ·intro k hk
  rcases hG k hk with h | h
  ·exact hFl k h
  ·exact .inr (by omega)
theorem behind_Bg {rb vb sb:Nat}{f:Value}:∀ {l:List SP}{w:World}{F D:Nat→Prop},Box w rb f 66→Box w vb (.bool true) 4→StG l F D w f→¬ D rb→¬ D vb→
  StG l (fun k=>F k∨k=rb∨k=vb) D w (.func (.func 41) #[] #[.pointer (some ⟨rb,0,none⟩),.pointer (some ⟨vb,0,none⟩),.pointer (some ⟨sb,0,none⟩)])
 | [],w,F,D,hr,hv,hS,hrD,hvD=>by
  have hSl:=hS.lt
  have hSs:=hS.sub
  have hrl:=hr.lt
  have hvl:=hv.lt
  refine ⟨_,_,rfl,enters_behind1,by grind,by grind,?_⟩
  intro w1 hs hl
  exact behind1_over (hr.same (hs _ (by simp))) (hv.same (hs _ (by simp))) hvD (hS.move (fun k hk=>hs k (.inl hk)) hl).toNone
 | P :: l,w,F,D,hr,hv,hS,hrD,hvD=>by
  have hSl:=hS.lt
  have hSs:=hS.sub
  have hrl:=hr.lt
  have hvl:=hv.lt
  refine ⟨_,_,rfl,enters_behind1,by grind,by grind,?_⟩
  intro w1 hs hl
  have hr1:Box w1 rb f 66:=hr.same (hs _ (by simp))
  have hv1:Box w1 vb (.bool true) 4:=hv.same (hs _ (by simp))
  refine (behind1_someg hr1 (hS.move (fun k hk=>hs k (.inl hk)) hl)).mono ?_
  rintro e w2 ⟨k2,s,G,F',D',rfl,hP,hS',hF',hD',hG,hGD⟩
  have hk2:=k2.size
  refine ⟨k2,s,G,_,D',rfl,hP,behind_Bg (l:=l) (hr1.same (k2.block _ hr1.lt hrD)) (hv1.same (k2.block _ hv1.lt hvD)) hS' (by grind) (by grind),?_,?_,?_,hGD⟩
  ·grind
  ·grind
  ·grind
theorem behind_g {g:Value}{P:SP}{L:List SP}{w:World}{C:Nat→Prop} (hT:SecG C w g (P :: L)) :
  Calls Tryz.prog 18 #[.func (.func 19) #[] #[],g] w (MadeC (P :: L) C w):=by
 have hS:=none_str w
 have hT':=hT
 obtain ⟨K2,cap2,rfl,_,hC,_⟩:=hT'
 refine behind_made.mono ?_
 rintro e w1 ⟨rfl,k1,b0,b1,b2⟩
 have hFl:=hS.lt
 have hs1:=k1.size
 have hl0:=b0.lt
 have hl1:=b1.lt
 have hl2:=b2.lt
 refine MadeC.mk' (F:=fun k=>C k∨w.heap.size≤k∧k < w1.heap.size) (D:=fun k=>k=w.heap.size+1∨k=w.heap.size+2) k1 ⟨_,_,rfl,enters_behind1,by grind,by grind,?_⟩ (by grind) (by grind)
 intro w2 hs hl
 have c0:=b0.same (hs (w.heap.size+1) (by grind))
 have c1:=b1.same (hs w.heap.size (by grind))
 have c2:=b2.same (hs (w.heap.size+2) (by grind))
 refine (behind1_secondg c0 c2 c1 (none_str w2) ((hT.move (fun k hk=>k1.block k (hC k hk)) k1.size).move (fun k hk=>hs k (.inl hk)) hl) (fun e=>e) (fun e=>e) (fun e=>e) (fun _ _ e=>e) (fun e=>by have:=hC _ e;omega) (fun e=>by have:=hC _ e;omega) (by omega)).mono ?_
 rintro e w3 ⟨k3,s,G,f,F,D,rfl,hP,d0,d2,hS3,hF,hD,hG,hGD⟩
 refine ⟨k3.mono (by grind),s,G,_,D,rfl,hP,behind_Bg d0 d2 hS3 (by grind) (by grind),?_,?_,?_,hGD⟩
 ·grind
 ·grind
 ·grind
theorem pull_someg {w:World}{f:Value}{P:SP}{L:List SP}{F D:Nat→Prop} (hS:StG (P :: L) F D w f) :
  Calls Tryz.prog 24 #[f] w fun e w'=>Fr D w w'∧∃ s G F' D',e = .returned (.tuple #[spv s,.bool true,.pointer none])∧HoldsP P G w' s∧StG L F' D' w' f∧(∀ k,F' k→F k∨w.heap.size+1 < k)∧(∀ k,D' k→D k∨w.heap.size+1 < k)∧(∀ k,G k→F k∨w.heap.size+1 < k)∧(∀ k,G k→¬ D' k):=by
 have hmf:∀ (fn:Fn) (first cap:Array Value) (w:World),(Instr.makeFunc fn first cap).run Tryz.prog w = .ok (.func fn first cap) w:=fun _ _ _ _=>rfl
 obtain ⟨K,cap,rfl,hE,hF,hD,h⟩:=hS
 have hE':∀ (args:Array Value) (w:World),(callFunc K args).run Tryz.prog w = .ok (.enter K args) w:=hE
 have H:Aside (∀ w',SameOn F w w'→w.heap.size≤w'.heap.size→Calls Tryz.prog K cap w' fun e w''=>Fr D w' w''∧∃ s G F' D',e = .returned (.tuple #[spv s,.bool true])∧HoldsP P G w'' s∧StG L F' D' w'' (.func (.func K) #[] cap)∧(∀ k,F' k→F k∨w'.heap.size≤k)∧(∀ k,D' k→D k∨w'.heap.size≤k)∧(∀ k,G k→F k∨w'.heap.size≤k)∧(∀ k,G k→¬ D' k)):=h
 clear h
 have n1:¬ D w.heap.size:=new_not hF hD
 have n2:¬ D (w.heap.size+1):=fun e=>by have:=hF _ (hD _ e);omega
 go_enter_defers Tryz.func24,Tryz.ntmps24
 go_wp2_with (go_at_fn K;refine (H.out _ (fun k hk=>(below_alloc2 w _ _).block k (hF k hk)) (by simp;omega)).mono ?_;rintro e w1 ⟨k1,⟨⟨T,u⟩,qp⟩,G,F',D',rfl,hP,hS',hF',hD',hG,hGD⟩;simp only [spv,iv];have q:SpotBox w1 w.heap.size .nilIface:=((SpotBox.new w .nilIface).alloc _).same (k1.block _ (by simp;omega) n1);obtain ⟨q0,q1,q2,q3,q4⟩:=q.facts;have c:Box w1 (w.heap.size+1) (.pointer none) 80:=Box.same (heap_new2' w _ _) (k1.block _ (by simp) n2);have c0:=c.cell;have c1:=c.free;have c2:=c.lt)
 refine leaves_cons (f:=67) (args:=#[.pointer (some ⟨w.heap.size+1,0,none⟩)]) (by simp) (by simp [go_sem]) ?_
 refine (catch_idle (w.heap.size+1) _).mono ?_
 rintro e u' w'' ⟨rfl,rfl,rfl⟩
 have hend:Fr (fun k=>k=w.heap.size∨k=w.heap.size+1) w1 (((((w1.setCell ⟨w.heap.size,0,none⟩ (.iface T u)).setCell ⟨w.heap.size,1,none⟩ (.pointer qp)).setCell ⟨w.heap.size,0,none⟩ (.iface T u)).setCell ⟨w.heap.size,1,none⟩ (.pointer qp)).setCell ⟨w.heap.size+1,0,none⟩ (.pointer none)):=(((((Fr.refl (fun k=>k=w.heap.size∨k=w.heap.size+1) w1).setCell _ (.inl (.inl rfl))).setCell _ (.inl (.inl rfl))).setCell _ (.inl (.inl rfl))).setCell _ (.inl (.inl rfl))).setCell _ (.inl (.inr rfl))
 have qF:=Eq.trans (Below.heap_setCell ((((w1.setCell ⟨w.heap.size,0,none⟩ (.iface T u)).setCell ⟨w.heap.size,1,none⟩ (.pointer qp)).setCell ⟨w.heap.size,0,none⟩ (.iface T u)).setCell ⟨w.heap.size,1,none⟩ (.pointer qp)) ⟨w.heap.size+1,0,none⟩ (.pointer none) w.heap.size (by simp)) (two_set1 (u:=.pointer qp) (two_set0 (u:=.iface T u) (two_set1 (u:=.pointer qp) (two_set0 (u:=.iface T u) q))))
 have cF:=((((c.same (Below.heap_setCell _ ⟨w.heap.size,0,none⟩ (.iface T u) _ (by simp))).same (Below.heap_setCell _ ⟨w.heap.size,1,none⟩ (.pointer qp) _ (by simp))).same (Below.heap_setCell _ ⟨w.heap.size,0,none⟩ (.iface T u) _ (by simp))).same (Below.heap_setCell _ ⟨w.heap.size,1,none⟩ (.pointer qp) _ (by simp))).set (.pointer none)
 obtain ⟨r0,r1,_,_,r4⟩:=SpotB.facts (T:=T) (u:=u) (q:=qp) qF
 have r5:=cF.cell
 have hR:Fr D w w1:=(((Fr.refl D w).alloc _).alloc _).trans k1 (fun _ _ e=>e)
 simp only [World.size_alloc] at hF' hD' hG
 refine ⟨.tuple #[.agg #[.iface T u,.pointer qp],.bool true,.pointer none],by simp [results,Tryz.results24,go_sem,r0,r1,r5],hR.trans hend (fun i hi e=>by omega),((T,u),qp),G,F',D',rfl,hP.after hend (by grind),hS'.after hend (by grind),by grind,by grind,by grind,hGD⟩
theorem next_someg {w:World}{sb:Nat}{f:Value}{P:SP}{L:List SP}{F D:Nat→Prop}{out:ByteArray} (hb:StreamBox w sb f) (hS:StG (P :: L) F D w f) (hsD:¬ D sb) (hc:∀ w' s G,Fr D w w'→HoldsP P G w' s→s.2=none∧CanonAt w' s.1 out) :
  Calls Tryz.prog 11 #[.pointer (some ⟨sb,0,none⟩)] w fun e w'=>Fr D w w'∧e = .returned (ansV 1 out)∧StreamBox w' sb f∧∃ F' D',(∀ k,F' k→F k∨w.heap.size≤k)∧(∀ k,D' k→D k∨w.heap.size≤k)∧StG L F' D' w' f:=by
 obtain ⟨K,cap,rfl⟩:=hS.shape
 have hfn:=fn_nil
 obtain ⟨c0,c1,c2,f0,f1,f2,hl⟩:=three_facts hb
 have hS2:=fun o=>hS.move (w1:=w.alloc o) (fun k hk=>(below_alloc w o).block k (hS.lt k hk)) (by simp)
 have n1:¬ D w.heap.size:=new_not hS.lt hS.sub
 go_enter Tryz.func11,Tryz.ntmps11
 go_wp2_with (first
  | (go_at_call 24;refine (pull_someg (hS2 _)).mono ?_;rintro e w1 ⟨k1,⟨⟨T,u⟩,qp⟩,G,F',D',rfl,hP,hS',hF',hD',hG,hGD⟩;have kw:Fr D w w1:=((Fr.refl D w).alloc _).trans k1 (fun _ _ e=>e);obtain ⟨hq0,hcn⟩:=hc _ _ _ kw hP;obtain rfl:qp=none:=hq0;simp only [spv,iv])
  | (go_at_call 23;refine (answer_some hcn).mono ?_;rintro e w2 ⟨rfl,k2⟩;simp only [ansV];have q:w2.heap[w.heap.size]? = _:=(k2.block w.heap.size (by have:=k1.size;simp at this;omega)).trans ((k1.block w.heap.size (by simp) n1).trans (heap_new w _));obtain ⟨q0,q1,q2,q3,q4⟩:=two_facts q;have hk2:=k2.size))
 have kF:Fr (· = w.heap.size) w1 (((w2.setCell ⟨w.heap.size,0,none⟩ (.int .u8 1)).setCell ⟨w.heap.size,1,none⟩ (.string out)).alloc (.cells #[.int .u8 1,.string out] 43)) :=
  (((Fr.of_below (D:=(· = w.heap.size)) k2).setCell _ (.inl rfl)).setCell _ (.inl rfl)).alloc _
 have kA:Fr D w (((w2.setCell ⟨w.heap.size,0,none⟩ (.int .u8 1)).setCell ⟨w.heap.size,1,none⟩ (.string out)).alloc (.cells #[.int .u8 1,.string out] 43)):=kw.trans kF (fun i hi e=>by omega)
 refine bodyPost_ret (v:=ansV 1 out) (by simp [results,Tryz.results11,go_sem,q4,q0,q1,ansV]) rfl ⟨kA,rfl,hb.same (kA.block _ hl hsD),F',?_,D',?_,hS'.after kF ?_⟩
 ·intro k hk
  rcases hF' k hk with h | h
  ·exact .inl h
  ·simp at h;exact .inr (by omega)
 ·intro k hk
  rcases hD' k hk with h | h
  ·exact .inl h
  ·simp at h;exact .inr (by omega)
 ·intro k hk e
  rcases hF' k hk with h | h
  ·have:=hS.lt k h;omega
  ·simp at h;omega
theorem check_nil (cb:Nat) (s:Option Addr) (w:World) :
  Calls Tryz.prog 40 #[.pointer (some ⟨cb,0,none⟩),.pointer s,.slice none 0 0] w fun e w'=>e = .returned (.tuple #[])∧Below w.heap.size w w':=by
 go_enter Tryz.func40,Tryz.ntmps40
 go_wp2_with fail
 refine wp_loop_rounds 1 ?_
 rw [rounds_succ]
 go_wp2_with fail
 go_end0
 exact ⟨rfl,Below.refl _ _⟩
theorem has_no (v:Value) (env:Env) (u:Int) (n:ByteArray) (k:Int) (w:World) (h:Scope w v env) (ho:hasB env u n k=false) :
  Calls Tryz.prog 141 #[v,.int .u8 u,.string n,.int .i64 k] w fun e w'=>e = .returned (.bool false)∧w'=w:=by
 have h1:=has_any v env u n k w h
 rw [ho] at h1;exact h1
theorem one_given {cb b:Nat}{s:Option Addr}{w:World}{n:ByteArray}{env:Env}{a:Option Addr}{k cap:Nat} (c0:w.cell? ⟨b,0,none⟩=some (.string n)) (c1:w.cell? ⟨b,1,none⟩=some (.slice a k cap)) (hk:k≤2) (hs:Scope w (.pointer s) env) (ho:hasB env 2 n k=false) (hn:givenB n k=true)
  (hc:∀ w',Below w.heap.size w w'→Calls Tryz.prog 40 #[.pointer (some ⟨cb,0,none⟩),.pointer s,.slice a k cap] w' fun e w''=>e = .returned (.tuple #[])∧Below w'.heap.size w' w'') :
  FineAt cb s w (.iface 169 (.pointer (some ⟨b,0,none⟩))):=by
 unfold FineAt
 have hb:=cell_lt c0
 have a0:=missVariable;have a1:=missBreak;have a2:=hitCall
 have HN:Hid _:=hn
 clear hn
 go_enter Tryz.func89,Tryz.ntmps89
 go_wp2_with fail
 go_quiet ((first | (go_at_call 141;exact Calls.quiet_of_same (has_no _ env _ _ _ _ (hs.drewN _) ho)) | (go_at_call 143;exact Calls.quiet_of_same (isGiven_yes _ _ _ HN.out))))
 go_wp2_with (go_at_call 40;refine (hc _ (below_drewN _ _)).mono ?_;rintro e w1 ⟨rfl,k1⟩)
 go_end0
 exact ⟨rfl,(below_drewN _ _).trans k1⟩
theorem binder_red {cb b:Nat}{s:Option Addr}{w:World}{x y z:Value}{n:ByteArray}{env:Env} (c0:w.cell? ⟨b,0,none⟩=some x) (c1:w.cell? ⟨b,1,none⟩=some (.string n)) (c2:w.cell? ⟨b,2,none⟩=some y) (c3:w.cell? ⟨b,3,none⟩=some z) (hs:Scope w (.pointer s) env)
  (hx:∃ T b,x = .iface T (.pointer (some ⟨b,0,none⟩))) (hy:∃ T b,y = .iface T (.pointer (some ⟨b,0,none⟩))) (hz:∃ T b,z = .iface T (.pointer (some ⟨b,0,none⟩))) (h1:Fine cb s w x) (h2:Fine cb s w y)
  (h3:∀ (s':Option Addr) (w':World),Below w.heap.size w w'→Scope w' (.pointer s') ((0,n,0) :: env)→Fine cb s' w' z) :
  Calls Tryz.prog 144 #[.pointer (some ⟨cb,0,none⟩),.pointer s,.iface 164 (.pointer (some ⟨b,0,none⟩))] w fun e w'=>e = .returned (.tuple #[])∧Below w.heap.size w w':=by
 obtain ⟨T1,b1,rfl⟩:=hx
 obtain ⟨T2,b2,rfl⟩:=hy
 obtain ⟨T3,b3,rfl⟩:=hz
 have hb:=cell_lt c0
 have a13:=missBind;have a14:=missLabel;have a15:=hitReduce
 go_enter Tryz.func144,Tryz.ntmps144
 go_wp2_with fail
 go_region_held3 (fun w'=>w'.cell? ⟨b,0,none⟩=some (.iface T1 (.pointer (some ⟨b1,0,none⟩)))∧w'.cell? ⟨b,2,none⟩=some (.iface T2 (.pointer (some ⟨b2,0,none⟩)))) (first | exact ⟨e0,e1⟩ | go_keep)
  (first | (go_at_call 40;refine (check2 (heap_newd w _) ⟨_,_,rfl⟩ ⟨_,_,rfl⟩ (h1.below (below_alloc _ _).drew) (h2.below (below_alloc _ _).drew)).mono ?_;rintro e w1 ⟨rfl,k1⟩;have e0:w1.cell? ⟨b,0,none⟩=some (.iface T1 (.pointer (some ⟨b1,0,none⟩))):=(k1.cell (p:=⟨b,0,none⟩) (by simp;omega)).trans (((below_alloc w _).drew.cell (p:=⟨b,0,none⟩) hb).trans c0);have e1:w1.cell? ⟨b,2,none⟩=some (.iface T2 (.pointer (some ⟨b2,0,none⟩))):=(k1.cell (p:=⟨b,2,none⟩) (by simp;omega)).trans (((below_alloc w _).drew.cell (p:=⟨b,2,none⟩) hb).trans c2)))
 have kw1:Below w.heap.size w w1:=(below_alloc _ _).drew.trans (k1.mono (by simp))
 have hb1:b < w1.heap.size:=Nat.lt_of_lt_of_le hb kw1.size
 have d1:=(kw1.cell (p:=⟨b,1,none⟩) hb).trans c1
 have d3:=(kw1.cell (p:=⟨b,3,none⟩) hb).trans c3
 clear a13 a14 a15 e0 e1
 go_wp2_with fail
 go_region_held3 (fun w'=>w'.cell? ⟨b,1,none⟩=some (.string n)∧w'.cell? ⟨b,3,none⟩=some (.iface T3 (.pointer (some ⟨b3,0,none⟩)))) (first | exact ⟨f1,f3⟩ | go_keep)
  (first
   | (go_at_call 199;refine (with_any _ env _ _ _ _ (by first | exact ((hs.below kw1).below (Below.refl _ _).drew) | exact ((hs.below kw1).below (below_alloc _ _).drew))).mono ?_;rintro e w2 ⟨bs,rfl,hs2,k2⟩;have kw2:Below w.heap.size w w2:=(by first | exact kw1.drew.trans (k2.mono kw1.size) | exact (kw1.alloc kw1.size _).drew.trans (k2.mono (by have:=kw1.size;simp;omega)));have f1:=(kw2.cell (p:=⟨b,1,none⟩) hb).trans c1;have f3:=(kw2.cell (p:=⟨b,3,none⟩) hb).trans c3;have hb2:b < w2.heap.size:=Nat.lt_of_lt_of_le hb kw2.size)
   | (go_at_call 40;refine (check1 (by first | exact heap_new w2 _ | exact (k2.block w1.heap.size (by simp)).trans (heap_newd w1 _)) ⟨_,_,rfl⟩ (by first | exact ((h3 _ _ kw2 hs2).below (below_alloc _ _)) | exact h3 _ _ kw2 hs2)).mono ?_;rintro e w3 ⟨rfl,k3⟩;have kw3:Below w.heap.size w w3:=(by first | exact (kw2.alloc kw2.size _).trans (k3.mono (by have:=kw2.size;simp;omega)) | exact kw2.trans (k3.mono kw2.size));have f1:=(kw3.cell (p:=⟨b,1,none⟩) hb).trans c1;have f3:=(kw3.cell (p:=⟨b,3,none⟩) hb).trans c3))
 all_goals
  go_wp2_with fail
  go_end0
  exact ⟨rfl,kw3⟩
theorem binder_bind {cb b:Nat}{s:Option Addr}{w:World}{x y:Value}{n:ByteArray}{env:Env} (c0:w.cell? ⟨b,0,none⟩=some x) (c1:w.cell? ⟨b,1,none⟩=some (.string n)) (c2:w.cell? ⟨b,2,none⟩=some y) (hs:Scope w (.pointer s) env)
  (hx:∃ T b,x = .iface T (.pointer (some ⟨b,0,none⟩))) (hy:∃ T b,y = .iface T (.pointer (some ⟨b,0,none⟩))) (h1:Fine cb s w x)
  (h3:∀ (s':Option Addr) (w':World),Below w.heap.size w w'→Scope w' (.pointer s') ((0,n,0) :: env)→Fine cb s' w' y) :
  Calls Tryz.prog 144 #[.pointer (some ⟨cb,0,none⟩),.pointer s,.iface 160 (.pointer (some ⟨b,0,none⟩))] w fun e w'=>e = .returned (.tuple #[])∧Below w.heap.size w w':=by
 obtain ⟨T1,b1,rfl⟩:=hx
 obtain ⟨T3,b3,rfl⟩:=hy
 have hb:=cell_lt c0
 have a13:=hitBind
 go_enter Tryz.func144,Tryz.ntmps144
 go_wp2_with (go_at_call 40;refine (check1 (heap_new _ _) ⟨_,_,rfl⟩ (h1.below (below_alloc _ _))).mono ?_;rintro e w1 ⟨rfl,k1⟩;have kw1:Below w.heap.size w w1:=(below_alloc _ _).trans (k1.mono (by simp));have hb1:b < w1.heap.size:=Nat.lt_of_lt_of_le hb kw1.size;have d1:=(kw1.cell (p:=⟨b,1,none⟩) hb).trans c1;have d3:=(kw1.cell (p:=⟨b,2,none⟩) hb).trans c2)
 go_region_held3 (fun w'=>w'.cell? ⟨b,1,none⟩=some (.string n)∧w'.cell? ⟨b,2,none⟩=some (.iface T3 (.pointer (some ⟨b3,0,none⟩)))) (first | exact ⟨f1,f3⟩ | go_keep)
  (first
   | (go_at_call 199;refine (with_any _ env _ _ _ _ (by first | exact ((hs.below kw1).below (Below.refl _ _).drew) | exact ((hs.below kw1).below (below_alloc _ _).drew))).mono ?_;rintro e w2 ⟨bs,rfl,hs2,k2⟩;have kw2:Below w.heap.size w w2:=(by first | exact kw1.drew.trans (k2.mono kw1.size) | exact (kw1.alloc kw1.size _).drew.trans (k2.mono (by have:=kw1.size;simp;omega)));have f1:=(kw2.cell (p:=⟨b,1,none⟩) hb).trans c1;have f3:=(kw2.cell (p:=⟨b,2,none⟩) hb).trans c2;have hb2:b < w2.heap.size:=Nat.lt_of_lt_of_le hb kw2.size)
   | (go_at_call 40;refine (check1 (by first | exact heap_new w2 _ | exact (k2.block w1.heap.size (by simp)).trans (heap_newd w1 _)) ⟨_,_,rfl⟩ (by first | exact ((h3 _ _ kw2 hs2).below (below_alloc _ _)) | exact h3 _ _ kw2 hs2)).mono ?_;rintro e w3 ⟨rfl,k3⟩;have kw3:Below w.heap.size w w3:=(by first | exact (kw2.alloc kw2.size _).trans (k3.mono (by have:=kw2.size;simp;omega)) | exact kw2.trans (k3.mono kw2.size));have f1:=(kw3.cell (p:=⟨b,1,none⟩) hb).trans c1;have f3:=(kw3.cell (p:=⟨b,2,none⟩) hb).trans c2))
 all_goals
  go_wp2_with fail
  go_end0
  exact ⟨rfl,kw3⟩
def withAll (ps:List ByteArray) (env:Env):Env:=ps.foldl (fun e p=>(2,p,0) :: e) env
theorem withAll_snoc (ps:List ByteArray) (p:ByteArray) (env:Env):withAll (ps ++ [p]) env=(2,p,0) :: withAll ps env:=by simp [withAll]
theorem binder_def {cb b d o cap k:Nat}{s:Option Addr}{w:World}{x y:Value}{n:ByteArray}{ps:List ByteArray}{env:Env} (hk:ps.length=k) (hk2:k≤100) (c0:w.cell? ⟨b,0,none⟩=some (.string n)) (c1:w.cell? ⟨b,1,none⟩=some (.slice (some ⟨d,o,none⟩) k cap)) (c2:w.cell? ⟨b,2,none⟩=some x) (c3:w.cell? ⟨b,3,none⟩=some y)
  (hd:d < w.heap.size) (hp:∀ i p,ps[i]? = some p→w.cell? ⟨d,o+i,none⟩=some (.string p)) (hs:Scope w (.pointer s) env)
  (hx:∃ T b,x = .iface T (.pointer (some ⟨b,0,none⟩))) (hy:∃ T b,y = .iface T (.pointer (some ⟨b,0,none⟩)))
  (h1:∀ (s':Option Addr) (w':World),Below w.heap.size w w'→Scope w' (.pointer s') (withAll ps ((2,n,k) :: env))→Fine cb s' w' x)
  (h2:∀ (s':Option Addr) (w':World),Below w.heap.size w w'→Scope w' (.pointer s') ((2,n,k) :: env)→Fine cb s' w' y) :
  Calls Tryz.prog 144 #[.pointer (some ⟨cb,0,none⟩),.pointer s,.iface 120 (.pointer (some ⟨b,0,none⟩))] w fun e w'=>e = .returned (.tuple #[])∧Below w.heap.size w w':=by
 obtain ⟨T1,b1,rfl⟩:=hx
 obtain ⟨T2,b2,rfl⟩:=hy
 have hb:=cell_lt c0
 have HK:Hid _:=hk
 clear hk
 have a13:=missBind;have a14:=missLabel;have a15:=missReduce;have a16:=missForeach;have a17:=hitDef
 go_enter Tryz.func144,Tryz.ntmps144
 go_wp2_with fail
 clear a13 a14 a15 a16 a17
 go_region_held3 (fun w'=>w'.cell? ⟨b,0,none⟩=some (.string n)∧w'.cell? ⟨b,1,none⟩=some (.slice (some ⟨d,o,none⟩) k cap)) (first | exact ⟨e0,e1⟩ | go_keep)
  (first | (go_at_call 199;refine (with_any _ env _ _ _ _ (hs.below (Below.refl _ _).drew)).mono ?_;rintro e w1 ⟨bs,rfl,hs1,k1⟩;have kw1:Below w.heap.size w w1:=(Below.refl _ _).drew.trans k1;have e0:=(kw1.cell (p:=⟨b,0,none⟩) hb).trans c0;have e1:=(kw1.cell (p:=⟨b,1,none⟩) hb).trans c1))
 go_wp2_with fail
 go_loopg [11,135] (k+1) (fun j v t wr=>∃ (i:Nat) (s':Option Addr),i+j=k+1∧i≤k∧t = .int .i64 i∧v = .pointer s'∧Below w.heap.size w wr∧Below w1.heap.size w1 wr∧Scope wr (.pointer s') (withAll (ps.take i) ((2,n,k) :: env)))
 case atStart=>exact ⟨0,_,by omega,by omega,rfl,rfl,kw1,Below.refl _ _,hs1⟩
 case round =>
  obtain ⟨i,s',hij,hik,rfl,rfl,hb2,hb3,hsc⟩:=hrel
  by_cases hi:i < k
  ·have hil:i < ps.length:=by have:=HK.out;omega
   have hpi:=hp i _ (List.getElem?_eq_getElem hil)
   have cp:=(hb2.cell (p:=⟨d,o+i,none⟩) hd).trans hpi
   have hi':(i:Int) < (k:Int):=by omega
   have hi0:(0:Int)≤(i:Int):=by omega
   have htk:withAll (ps.take (i+1)) ((2,n,k) :: env)=(2,ps[i],0) :: withAll (ps.take i) ((2,n,k) :: env):=by
    rw [List.take_succ_eq_append_getElem hil,withAll_snoc]
   have HT:Hid _:=htk
   clear htk hpi
   go_wp2_with (go_at_call 199;refine (with_any _ _ _ _ _ _ hsc).mono ?_;rintro e w2 ⟨bs2,rfl,hs2,k2⟩)
   go_roundg (k+1 - (i+1))
   case measure=>omega
   case rel=>exact ⟨i+1,_,by omega,by omega,by go_num,rfl,hb2.trans (k2.mono hb2.size),hb3.trans (k2.mono hb3.size),by rw [HT.out];exact hs2⟩
  ·have hi':¬ (i:Int) < (k:Int):=by omega
   have hik2:i=k:=by omega
   subst hik2
   have htk:ps.take i=ps:=List.take_of_length_le (by have:=HK.out;omega)
   rw [htk] at hsc
   clear htk
   have hbw:b < wr.heap.size:=Nat.lt_of_lt_of_le hb hb2.size
   have d2:=(hb2.cell (p:=⟨b,2,none⟩) hb).trans c2
   have hs1':=hs1.below hb3
   go_wp2_with (first
    | (go_at_call 40;refine (check1 (by exact heap_new wr _) ⟨_,_,rfl⟩ (by exact (h1 _ _ hb2 hsc).below (below_alloc _ _))).mono ?_;rintro e w4 ⟨rfl,k4⟩;have kw4:Below w.heap.size w w4:=(hb2.alloc hb2.size _).trans (k4.mono (by have:=hb2.size;simp;omega));have hs4:=(hs1'.below (below_alloc _ _)).below k4;have d3:=(kw4.cell (p:=⟨b,3,none⟩) hb).trans c3;have hb4:b < w4.heap.size:=Nat.lt_of_lt_of_le hb kw4.size)
    | (go_at_call 40;refine (check1 (by exact heap_new w4 _) ⟨_,_,rfl⟩ (by exact (h2 _ _ kw4 hs4).below (below_alloc _ _))).mono ?_;rintro e w5 ⟨rfl,k5⟩))
   go_end0
   exact ⟨rfl,(kw4.alloc kw4.size _).trans (k5.mono (by have:=kw4.size;simp;omega))⟩
theorem one_to_binder {cb b T:Nat}{s:Option Addr}{w:World} (hT:T=164∨T=120∨T=160)
  (hc:Calls Tryz.prog 144 #[.pointer (some ⟨cb,0,none⟩),.pointer s,.iface T (.pointer (some ⟨b,0,none⟩))] w fun e w'=>e = .returned (.tuple #[])∧Below w.heap.size w w') :
  FineAt cb s w (.iface T (.pointer (some ⟨b,0,none⟩))):=by
 unfold FineAt
 have a0:=missVariable;have a1:=missBreak;have a2:=missCall;have a3:=missField;have a4:=missIndex;have a5:=missEach;have a6:=missOptional;have a7:=missCollect;have a8:=missBuild;have a9:=missBinary;have a10:=missMinus;have a11:=missTry;have a12:=missIf
 rcases hT with rfl | rfl | rfl
 all_goals
  go_enter Tryz.func89,Tryz.ntmps89
  go_wp2_with (go_at_call 144;refine hc.mono ?_;rintro e w1 ⟨rfl,k1⟩)
  go_end0
  exact ⟨rfl,k1⟩
theorem cells1 {w:World}{d o:Nat}{v:Value} (h:w.cell? ⟨d,o,none⟩=some v) (i:Nat) (x:Value) (hx:[v][i]? = some x):w.cell? ⟨d,o+i,none⟩=some x:=by
 match i,hx with
 | 0,hx=>cases hx;exact h
theorem cells2 {w:World}{d o:Nat}{u v:Value} (h:w.cell? ⟨d,o,none⟩=some u) (h':w.cell? ⟨d,o+1,none⟩=some v) (i:Nat) (x:Value) (hx:[u,v][i]? = some x):w.cell? ⟨d,o+i,none⟩=some x:=by
 match i,hx with
 | 0,hx=>cases hx;exact h
 | 1,hx=>cases hx;exact h'
theorem fine_all:∀ (t:Tr) {p:Nat→Prop}{w:World}{v:Value}{env:Env}{s:Option Addr}{cb:Nat},okT env t=true→Rep p w v t→Scope w (.pointer s) env→Fine cb s w v:=by
 intro t
 induction t with
 | done y=>intro p w v env s cb ho;cases ho
 | ask s0 kind k ih =>
  intro p w v env s cb ho hr hs w' hb
  match kind,ho,hr with
  | 0,ho,hr=>obtain ⟨b,e⟩:=hr.upon hb;exact one_leaf (.inr (.inl ⟨b,e⟩))
  | 1,ho,hr=>obtain ⟨b,e,_⟩:=hr.upon hb;exact one_leaf (.inl ⟨b,e⟩)
  | 2,ho,hr=>obtain ⟨b,e,_⟩:=hr.upon hb;exact one_leaf (.inl ⟨b,e⟩)
  | 3,ho,hr=>obtain ⟨b,e,_⟩:=hr.upon hb;exact one_leaf (.inl ⟨b,e⟩)
  | 4,ho,hr=>obtain ⟨b,rfl,pb,c0,c1⟩:=hr.upon hb;exact one_var c0 (hs.below hb) ho
  | 5,ho,hr =>
   have hr':=hr.upon hb
   have hs':=hs.below hb
   have ho:(okT env (k 1) && okT env (k 2))=true:=ho
   simp only [Bool.and_eq_true] at ho
   obtain ⟨b,x,y,rfl,pb,c0,c1,r1,r2⟩:=hr'
   exact one_two (.inl ⟨rfl,rfl⟩) c0 c1 r1.shape r2.shape (ih 1 ho.1 r1 hs') (ih 2 ho.2 r2 hs')
  | 6,ho,hr =>
   have hr':=hr.upon hb
   have hs':=hs.below hb
   obtain ⟨b,x,rfl,pb,c0,r1⟩:=hr'
   exact one_each (.inl rfl) c0 r1.shape (ih 1 ho r1 hs')
  | 7,ho,hr =>
   have hr':=hr.upon hb
   have hs':=hs.below hb
   obtain ⟨b,x,rfl,pb,c0,r1⟩:=hr'
   exact one_each (.inr rfl) c0 r1.shape (ih 1 ho r1 hs')
  | 8,ho,hr =>
   have hr':=hr.upon hb
   have hs':=hs.below hb
   have ho:(hasB env 2 (payOf (k 0)).s 0 || givenB (payOf (k 0)).s 0)=true:=ho
   obtain ⟨b,rfl,pb,c0,c1,c2⟩:=hr'
   cases hh:hasB env 2 (payOf (k 0)).s 0 with
   | true=>exact one_callN (k:=0) c0 c1 (by omega) hs' hh (fun w'' _=>check_nil _ _ _)
   | false =>
    simp only [hh,Bool.false_or] at ho
    exact one_given (k:=0) c0 c1 (by omega) hs' hh ho (fun w'' _=>check_nil _ _ _)
  | 9,ho,hr =>
   have hr':=hr.upon hb
   have hs':=hs.below hb
   have ho:((hasB env 2 (payOf (k 0)).s 1 || givenB (payOf (k 0)).s 1) && okT env (k 1))=true:=ho
   rw [Bool.and_eq_true] at ho
   obtain ⟨b,d,o,c,x,rfl,pb,pd,c0,c1,c2,cd,r1⟩:=hr'
   have hcheck:∀ w'',Below w'.heap.size w' w''→Calls Tryz.prog 40 #[.pointer (some ⟨cb,0,none⟩),.pointer s,.slice (some ⟨d,o,none⟩) 1 c] w'' fun e w3=>e = .returned (.tuple #[])∧Below w''.heap.size w'' w3:=fun w'' k1 =>
    check_at _ _ _ _ _ [_] w'' (by simp) (fun _=>Nat.lt_of_lt_of_le (cell_lt cd) k1.size) (fun i x hx=>(k1.cell (p:=⟨_,_,none⟩) (cell_lt cd)).trans (cells1 cd i x hx)) (by simpa using r1.shape) (by simpa using (ih 1 ho.2 r1 hs').below k1)
   cases hh:hasB env 2 (payOf (k 0)).s 1 with
   | true=>exact one_callN (k:=1) c0 c1 (by omega) hs' hh hcheck
   | false=>exact one_given (k:=1) c0 c1 (by omega) hs' hh (by simpa [hh] using ho.1) hcheck
  | 10,ho,hr =>
   have hr':=hr.upon hb
   have hs':=hs.below hb
   have ho:((hasB env 2 (payOf (k 0)).s 2 || givenB (payOf (k 0)).s 2) && (okT env (k 1) && okT env (k 2)))=true:=ho
   rw [Bool.and_eq_true,Bool.and_eq_true] at ho
   obtain ⟨b,d,o,c,x,y,rfl,pb,pd,c0,c1,c2,cd,cd',r1,r2⟩:=hr'
   have hcheck:∀ w'',Below w'.heap.size w' w''→Calls Tryz.prog 40 #[.pointer (some ⟨cb,0,none⟩),.pointer s,.slice (some ⟨d,o,none⟩) 2 c] w'' fun e w3=>e = .returned (.tuple #[])∧Below w''.heap.size w'' w3:=fun w'' k1 =>
    check_at _ _ _ _ _ [_,_] w'' (by simp) (fun _=>Nat.lt_of_lt_of_le (cell_lt cd) k1.size) (fun i x hx=>(k1.cell (p:=⟨_,_,none⟩) (cell_lt cd)).trans (cells2 cd cd' i x hx)) (by simpa using ⟨r1.shape,r2.shape⟩) (by simpa using ⟨(ih 1 ho.2.1 r1 hs').below k1,(ih 2 ho.2.2 r2 hs').below k1⟩)
   cases hh:hasB env 2 (payOf (k 0)).s 2 with
   | true=>exact one_callN (k:=2) c0 c1 (by omega) hs' hh hcheck
   | false=>exact one_given (k:=2) c0 c1 (by omega) hs' hh (by simpa [hh] using ho.1) hcheck
  | 11,ho,hr =>
   have hr':=hr.upon hb
   have hs':=hs.below hb
   have ho:(okT env (k 1) && okT env (k 2))=true:=ho
   simp only [Bool.and_eq_true] at ho
   obtain ⟨b,x,y,rfl,pb,c0,c1,c2,r1,r2⟩:=hr'
   exact one_two (.inr (.inl ⟨rfl,rfl⟩)) c0 c2 r1.shape r2.shape (ih 1 ho.1 r1 hs') (ih 2 ho.2 r2 hs')
  | 12,ho,hr =>
   have hr':=hr.upon hb
   have hs':=hs.below hb
   have ho:(okT env (k 1) && okT env (k 2))=true:=ho
   simp only [Bool.and_eq_true] at ho
   obtain ⟨b,x,y,rfl,pb,c0,c1,r1,r2⟩:=hr'
   exact one_two (.inr (.inr ⟨rfl,rfl⟩)) c0 c1 r1.shape r2.shape (ih 1 ho.1 r1 hs') (ih 2 ho.2 r2 hs')
  | 13,ho,hr =>
   have hr':=hr.upon hb
   have hs':=hs.below hb
   have ho:(okT env (k 1) && (okT env (k 2) && okT ((0,(payOf (k 0)).s,0) :: env) (k 3)))=true:=ho
   simp only [Bool.and_eq_true] at ho
   obtain ⟨b,x,y,z,rfl,pb,c0,c1,c2,c3,r1,r2,r3⟩:=hr'
   exact one_to_binder (.inl rfl) (binder_red c0 c1 c2 c3 hs' r1.shape r2.shape r3.shape (ih 1 ho.1 r1 hs') (ih 2 ho.2.1 r2 hs') (fun s' w'' k1 hsc=>ih 3 ho.2.2 (r3.upon k1) hsc))
  | 14,ho,hr =>
   have hr':=hr.upon hb
   have hs':=hs.below hb
   have ho:(okT env (k 1) && (okT env (k 2) && okT env (k 3)))=true:=ho
   simp only [Bool.and_eq_true] at ho
   obtain ⟨b,x,y,z,rfl,pb,c0,c1,c2,r1,r2,r3⟩:=hr'
   exact one_ite c0 c1 c2 r1.shape r2.shape r3.shape (ih 1 ho.1 r1 hs') (ih 2 ho.2.1 r2 hs') (ih 3 ho.2.2 r3 hs')
  | 15,ho,hr =>
   have hr':=hr.upon hb
   have hs':=hs.below hb
   have ho:(okT ((2,(payOf (k 0)).q,0) :: (2,(payOf (k 0)).s,1) :: env) (k 1) && okT ((2,(payOf (k 0)).s,1) :: env) (k 2))=true:=ho
   simp only [Bool.and_eq_true] at ho
   obtain ⟨b,d,o,c,x,y,rfl,pb,pd,c0,c1,cq,c2,c3,r1,r2⟩:=hr'
   refine one_to_binder (.inr (.inl rfl)) (binder_def (ps:=[(payOf (k 0)).q]) (k:=1) rfl (by omega) c0 c1 c2 c3 (cell_lt cq) (fun i x hx=>?_) hs' r1.shape r2.shape (fun s' w'' k1 hsc=>ih 1 ho.1 (r1.upon k1) hsc) (fun s' w'' k1 hsc=>ih 2 ho.2 (r2.upon k1) hsc))
   match i,hx with
   | 0,hx=>cases hx;exact cq
  | 16,ho,hr =>
   have hr':=hr.upon hb
   have hs':=hs.below hb
   have ho:(okT ((2,(payOf (k 0)).r,0) :: (2,(payOf (k 0)).q,0) :: (2,(payOf (k 0)).s,2) :: env) (k 1) && okT ((2,(payOf (k 0)).s,2) :: env) (k 2))=true:=ho
   simp only [Bool.and_eq_true] at ho
   obtain ⟨b,d,o,c,x,y,rfl,pb,pd,c0,c1,cq,cr,c2,c3,r1,r2⟩:=hr'
   refine one_to_binder (.inr (.inl rfl)) (binder_def (ps:=[(payOf (k 0)).q,(payOf (k 0)).r]) (k:=2) rfl (by omega) c0 c1 c2 c3 (cell_lt cq) (fun i x hx=>?_) hs' r1.shape r2.shape (fun s' w'' k1 hsc=>ih 1 ho.1 (r1.upon k1) hsc) (fun s' w'' k1 hsc=>ih 2 ho.2 (r2.upon k1) hsc))
   match i,hx with
   | 0,hx=>cases hx;exact cq
   | 1,hx=>cases hx;exact cr
  | 17,ho,hr=>obtain ⟨b,e⟩:=hr.upon hb;exact one_leaf (.inr (.inr ⟨b,e⟩))
  | 18,ho,hr =>
   have hr':=hr.upon hb
   have hs':=hs.below hb
   have ho:(okT env (k 1) && okT ((0,(payOf (k 0)).s,0) :: env) (k 2))=true:=ho
   simp only [Bool.and_eq_true] at ho
   obtain ⟨b,x,y,rfl,pb,c0,c1,c2,r1,r2⟩:=hr'
   exact one_to_binder (.inr (.inr rfl)) (binder_bind c0 c1 c2 hs' r1.shape r2.shape (ih 1 ho.1 r1 hs') (fun s' w'' k1 hsc=>ih 2 ho.2 (r2.upon k1) hsc))
  | 19,ho,hr=>obtain ⟨b,e,_⟩:=hr.upon hb;exact one_leaf (.inl ⟨b,e⟩)
  | 20,ho,hr=>obtain ⟨b,e,_,c0⟩:=hr.upon hb;rw [e];exact one_coll0 c0
  | _+21,ho,_=>cases ho
end Go.Proofs.Tryz
