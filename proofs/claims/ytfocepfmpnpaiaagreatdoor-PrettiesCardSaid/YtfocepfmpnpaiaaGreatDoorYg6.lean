import Derived.Test.YtfocepfmpnpaiaaGreatDoorYf3
set_option linter.all false
namespace Go.Proofs.Tryz
set_option maxHeartbeats 16000000
open Go.RowKit
set_option maxRecDepth 10000
theorem token_dollar {RS:ByteArray→Nat→ByteArray×Int×Bool} (s:ByteArray) (a:Nat) (w:World) (hs:s.size≤2000) (ha:a < s.size) (hc:s[a]=36) (ha2:a+1 < s.size) (hl:isLetterB s[a+1]=true) :
  Calls Tryz.prog 25 #[.string s,.int .i64 a] w fun e w'=>∃ k x n p b,e = .returned (.tuple #[.agg #[.int .u8 k,.string x,.int .i64 n,.int .i64 p],.int .i64 b])∧RTk (tokAt RS s a).1 k x n p∧((tokAt RS s a).1.kind≠1→b=((tokAt RS s a).2:Nat))∧Below w.heap.size w w':=by
 have ha':(a:Int) < (s.size:Int):=by omega
 have hd:=drop_at s a ha
 have ha2':(a:Int)+1 < (s.size:Int):=by omega
 have hd2:=drop_at s (a+1) ha2
 have hR:nameLen (s.data.toList.drop (a+1))=nameLenR (s.data.toList.drop (a+1)):=by rw [hd2];simp [nameLen,nameLenR,hl]
 have hT:tokAt RS s a=(namedT 4 (s.extract (a+1) (a+1+nameLenR (s.data.toList.drop (a+1)))) a,a+1+nameLenR (s.data.toList.drop (a+1))):=by
  unfold tokAt
  rw [hd,hc,find_none (by decide)]
  unfold longT
  rw [hd,hc]
  simp only [show isLetterB 36=false by decide,Bool.false_eq_true,if_false,beq_self_eq_true,if_true,hR,Int.toNat_natCast]
 have hle:=nameLenR_le (s.data.toList.drop (a+1))
 simp only [List.length_drop,size_list] at hle
 have h1:0 < nameLenR (s.data.toList.drop (a+1)):=by rw [← hR,hd2];simp [nameLen,hl]
 have hE:=ends_any s (a+1)
 obtain ⟨N,hN⟩:∃ N,nameLenR (s.data.toList.drop (a+1))=N:=⟨_,rfl⟩
 rw [hN] at hT hle h1 hE
 clear hR hN hd hd2
 rw [hT]
 clear hT
 simp only
 have HE:Aside (∀ (w:World),s.size≤100000→a+1≤s.size→Calls Tryz.prog 49 #[.string s,.int .i64 ((a:Int)+1)] w fun e w'=>e = .returned (.int .i64 ((a+1+N:Nat):Int))∧w'=w):=fun w h1 h2=>by
  have:=hE w h1 h2
  rw [show (((a+1:Nat):Int))=(a:Int)+1 by omega] at this
  exact this
 clear hE
 have hxz:(s.extract (a+1) (a+1+N)).size=N:=by
  rw [← size_list,extract_list,List.length_take,List.length_drop,size_list];omega
 have hne:(s.extract (a+1) (a+1+N)).data.toList≠[]:=by
  intro e
  have:=size_list (s.extract (a+1) (a+1+N))
  rw [e] at this
  simp at this
  omega
 have hc1:(s[a].toNat:Int)=36:=by rw [hc];rfl
 have hcl:isLetterB s[a]=false:=by rw [hc];decide
 have hmn:min (a+1+N) s.size - (a+1)=N:=by omega
 have HC:Hid _:=hc
 clear hc
 by_cases h20:N≤20
 ·have hk:namedT 4 (s.extract (a+1) (a+1+N)) a=⟨4,s.extract (a+1) (a+1+N),a⟩:=by
   unfold namedT namedB
   rw [if_neg (by rintro (e | e);exact hne e;omega),if_neg (fun h=>absurd h.1 (by decide))]
   rfl
  rw [hk]
  have h20':(N:Int)≤20:=by omega
  clear hk hne hxz
  go_enter Tryz.func25,Tryz.ntmps25
  go_wp2_with fail
  refine Calls.mono (small_36 _) ?_
  rintro e w1 ⟨rfl,h1⟩
  subst w1
  go_wp2_with fail
  refine Calls.mono (small_any s[a+1] _) ?_
  rintro e w1 ⟨rfl,h1⟩
  subst w1
  rw [hl]
  go_wp2_with fail
  refine Calls.mono (HE.out _ (by omega) (by omega)) ?_
  rintro e w1 ⟨rfl,h1⟩
  subst w1
  go_wp2_with fail
  refine bodyPost_ret (v:=.tuple #[.agg #[.int .u8 118,.string (s.extract (a+1) (a+1+N)),.int .i64 0,.int .i64 a],.int .i64 ((a+1+N:Nat):Int)]) (by simp [results,Tryz.results25,go_sem]) rfl ?_
  exact ⟨_,_,_,_,_,rfl,⟨rfl,rfl,fun _ _ _=>rfl,fun h=>absurd (show (4:Int)=5 from h) (by decide)⟩,fun _=>rfl,(by repeat' (first | exact Below.refl _ _ | refine Below.setCell ?_ (by simp) _ | refine Below.dN ?_ _ | refine Below.alloc ?_ (by simp) _))⟩
 ·have hk:namedT 4 (s.extract (a+1) (a+1+N)) a=⟨1,⟨#[]⟩,a⟩:=by
   unfold namedT namedB
   rw [if_pos (.inr (by omega))]
   rfl
  rw [hk]
  have h20':¬ (N:Int)≤20:=by omega
  clear hk hne hxz
  go_enter Tryz.func25,Tryz.ntmps25
  go_wp2_with fail
  refine Calls.mono (small_36 _) ?_
  rintro e w1 ⟨rfl,h1⟩
  subst w1
  go_wp2_with fail
  refine Calls.mono (small_any s[a+1] _) ?_
  rintro e w1 ⟨rfl,h1⟩
  subst w1
  rw [hl]
  go_wp2_with fail
  refine Calls.mono (HE.out _ (by omega) (by omega)) ?_
  rintro e w1 ⟨rfl,h1⟩
  subst w1
  go_wp2_with fail
  refine bodyPost_ret (v:=.tuple #[.agg #[.int .u8 98,.string (s.extract (a+1) (a+1+N)),.int .i64 0,.int .i64 a],.int .i64 ((a+1+N:Nat):Int)]) (by simp [results,Tryz.results25,go_sem]) rfl ?_
  exact ⟨_,_,_,_,_,rfl,⟨rfl,rfl,fun _ h=>absurd rfl h,fun h=>absurd (show (1:Int)=5 from h) (by decide)⟩,fun h=>absurd rfl h,(by repeat' (first | exact Below.refl _ _ | refine Below.setCell ?_ (by simp) _ | refine Below.dN ?_ _ | refine Below.alloc ?_ (by simp) _))⟩
end Go.Proofs.Tryz
namespace Go.Proofs.Tryz
set_option maxHeartbeats 16000000
open Go.RowKit
set_option maxRecDepth 10000
theorem token_quote {RS:ByteArray→Nat→ByteArray×Int×Bool} (s:ByteArray) (a:Nat) (w:World) (hs:s.size≤2000) (ha:a < s.size) (hRS:RefStr RS) (hF:FitsStr RS) (hc:s[a]=34) :
  Calls Tryz.prog 25 #[.string s,.int .i64 a] w fun e w'=>∃ k x n p b,e = .returned (.tuple #[.agg #[.int .u8 k,.string x,.int .i64 n,.int .i64 p],.int .i64 b])∧RTk (tokAt RS s a).1 k x n p∧((tokAt RS s a).1.kind≠1→b=((tokAt RS s a).2:Nat))∧Below w.heap.size w w':=by
 have ha':(a:Int) < (s.size:Int):=by omega
 have hd:=drop_at s a ha
 have hT:tokAt RS s a=if (RS s a).2.2 then (⟨6,(RS s a).1,a⟩,(RS s a).2.1.toNat) else (⟨1,⟨#[]⟩,a⟩,a):=by
  unfold tokAt
  rw [hd,hc,find_none (by decide)]
  unfold longT
  rw [hd,hc]
  simp only [show isLetterB 34=false by decide,show isDigitB 34=false by decide,show ((34:UInt8) == 36)=false by decide,Bool.false_eq_true,if_false,beq_self_eq_true,if_true]
  split <;> simp
 rw [hT]
 have hS:=hRS s a
 have hf:=hF s a
 obtain ⟨X,P,b,hX⟩:∃ X P b,RS s a=(X,P,b):=⟨_,_,_,rfl⟩
 rw [hX] at hS hf ⊢
 simp only at hS hf ⊢
 clear hX hT hd
 obtain ⟨T,hT⟩:∃ T,(if b=true then ((⟨6,X,(a:Int)⟩:Tok),P.toNat) else (⟨1,⟨#[]⟩,a⟩,a))=T:=⟨_,rfl⟩
 rw [hT]
 have HT:Hid _:=hT
 clear hT
 have HS:Aside (∀ (w:World),a < s.size→s.size≤100000→Calls Tryz.prog 53 #[.string s,.int .i64 a] w fun e w'=>∃ x p,e = .returned (.tuple #[.string x,.int .i64 p,.bool b])∧(b=true→x=X∧p=P)∧Below w.heap.size w w'):=hS
 clear hS
 have hc1:(s[a].toNat:Int)=34:=by rw [hc];rfl
 have hcl:isLetterB s[a]=false:=by rw [hc];decide
 have hcd:isDigitB s[a]=false:=by rw [hc];decide
 have HC:Hid _:=hc
 clear hc
 cases b with
 | true =>
  have HF:Hid _:=hf rfl
  clear hf
  go_enter Tryz.func25,Tryz.ntmps25
  go_wp2_with fail
  refine Calls.mono (small_34 _) ?_
  rintro e w1 ⟨rfl,h1⟩
  subst w1
  go_wp2_with fail
  refine Calls.mono (figure_34 _) ?_
  rintro e w1 ⟨rfl,h1⟩
  subst w1
  go_wp2_with fail
  refine Calls.mono (HS.out _ (by omega) (by omega)) ?_
  rintro e w1 ⟨x,p,rfl,h0,h1⟩
  obtain ⟨q1,q2,q3⟩:=two_cells h1
  have c1:=cl_heap (cs:=[_,_,_,_]) q1
  have c2:=cl_heap (cs:=[_,_,_,_]) q2
  have d0:=c1.cell 0
  have d1:=c1.cell 1
  have d2:=c1.cell 2
  have d3:=c1.cell 3
  have e0:=c2.cell 0
  have e1:=c2.cell 1
  have e2:=c2.cell 2
  have e3:=c2.cell 3
  have f0:=c1.free 0
  have f1:=c1.free 1
  have f2:=c1.free 2
  have f3:=c1.free 3
  have g0:=c2.free 0
  have g1:=c2.free 1
  have g2:=c2.free 2
  have g3:=c2.free 3
  simp only [List.getElem?_cons_zero,List.getElem?_cons_succ] at d0 d1 d2 d3 e0 e1 e2 e3
  have hB:Below w.heap.size w w1:=(((Below.refl _ _).alloc (Nat.le_refl _) _).alloc (by simp) _).trans (h1.mono (by simp;omega))
  clear q1 q2 c1 c2 h1
  obtain ⟨rfl,rfl⟩:=h0 trivial
  go_wp2_with fail
  refine bodyPost_ret (v:=.tuple #[.agg #[.int .u8 115,.string x,.int .i64 0,.int .i64 a],.int .i64 p]) (by simp [results,Tryz.results25,go_sem,d0,d1,d2,d3,e0,e1,e2,e3]) rfl ?_
  rw [← HT.out]
  exact ⟨_,_,_,_,_,rfl,⟨rfl,rfl,fun _ _ _=>rfl,fun h=>absurd (show (6:Int)=5 from h) (by decide)⟩,fun _=>(show p=((p.toNat:Nat):Int) by have:=HF.out;omega),(by repeat' (first | exact hB | refine Below.setCell ?_ (by simp) _))⟩
 | false =>
  go_enter Tryz.func25,Tryz.ntmps25
  go_wp2_with fail
  refine Calls.mono (small_34 _) ?_
  rintro e w1 ⟨rfl,h1⟩
  subst w1
  go_wp2_with fail
  refine Calls.mono (figure_34 _) ?_
  rintro e w1 ⟨rfl,h1⟩
  subst w1
  go_wp2_with fail
  refine Calls.mono (HS.out _ (by omega) (by omega)) ?_
  rintro e w1 ⟨x,p,rfl,h0,h1⟩
  obtain ⟨q1,q2,q3⟩:=two_cells h1
  have c1:=cl_heap (cs:=[_,_,_,_]) q1
  have c2:=cl_heap (cs:=[_,_,_,_]) q2
  have d0:=c1.cell 0
  have d1:=c1.cell 1
  have d2:=c1.cell 2
  have d3:=c1.cell 3
  have e0:=c2.cell 0
  have e1:=c2.cell 1
  have e2:=c2.cell 2
  have e3:=c2.cell 3
  have f0:=c1.free 0
  have f1:=c1.free 1
  have f2:=c1.free 2
  have f3:=c1.free 3
  have g0:=c2.free 0
  have g1:=c2.free 1
  have g2:=c2.free 2
  have g3:=c2.free 3
  simp only [List.getElem?_cons_zero,List.getElem?_cons_succ] at d0 d1 d2 d3 e0 e1 e2 e3
  have hB:Below w.heap.size w w1:=(((Below.refl _ _).alloc (Nat.le_refl _) _).alloc (by simp) _).trans (h1.mono (by simp;omega))
  clear q1 q2 c1 c2 h1
  go_wp2_with fail
  refine bodyPost_ret (v:=.tuple #[.agg #[.int .u8 98,.string ⟨#[]⟩,.int .i64 0,.int .i64 a],.int .i64 p]) (by simp [results,Tryz.results25,go_sem,d0,d1,d2,d3,e0,e1,e2,e3]) rfl ?_
  rw [← HT.out]
  exact ⟨_,_,_,_,_,rfl,⟨rfl,rfl,fun _ h=>absurd rfl h,fun h=>absurd (show (1:Int)=5 from h) (by decide)⟩,fun h=>absurd rfl h,(by repeat' (first | exact hB | refine Below.setCell ?_ (by simp) _))⟩
end Go.Proofs.Tryz
