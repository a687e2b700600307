import Derived.Test.YtfocepfmpnpaiaaGreatDoorYf3
set_option linter.all false
namespace Go.Proofs.Tryz
set_option maxHeartbeats 16000000
open Go.RowKit
set_option maxRecDepth 10000
theorem digit_bounds {c:UInt8} (h:isDigitB c=true):(48:Int)≤c.toNat∧(c.toNat:Int)≤57:=by
 simp only [isDigitB,Bool.and_eq_true,decide_eq_true_eq,UInt8.le_iff_toNat_le] at h
 have h1:48≤c.toNat:=h.1
 have h2:c.toNat≤57:=h.2
 omega
theorem digit_letter {c:UInt8} (h:isDigitB c=true):isLetterB c=false:=by
 have:=digit_bounds h
 rw [Bool.eq_false_iff]
 intro e
 simp only [isLetterB,Bool.or_eq_true,Bool.and_eq_true,decide_eq_true_eq,UInt8.le_iff_toNat_le,beq_iff_eq,← UInt8.toNat_inj] at e
 have h95:(95:UInt8).toNat=95:=rfl
 have h97:(97:UInt8).toNat=97:=rfl
 omega
def digF (l:List UInt8):Int:=l.foldl (fun a c=>a * 10+((c.toNat:Int) - 48)) 0
theorem digF_snoc (l:List UInt8) (c:UInt8):digF (l ++ [c])=digF l * 10+((c.toNat:Int) - 48):=by simp [digF,List.foldl_append]
theorem digF_bound:∀ (n:Nat) (l:List UInt8),l.length=n→(∀ c∈l,isDigitB c=true)→0≤digF l∧digF l < (10:Int) ^ n
 | 0,l,h,_=>by
  have:l=[]:=List.eq_nil_of_length_eq_zero h
  subst this
  simp [digF]
 | n+1,l,h,hd=>by
  obtain ⟨m,c,rfl⟩:∃ m c,l=m ++ [c]:=by
   rcases List.eq_nil_or_concat l with e | ⟨m,c,e⟩
   ·subst e;simp at h
   ·exact ⟨m,c,by rw [e,List.concat_eq_append]⟩
  have ih:=digF_bound n m (by simpa using h) (fun c hc=>hd c (by simp [hc]))
  have hb:=digit_bounds (hd c (by simp))
  rw [digF_snoc,Int.pow_succ]
  generalize (10:Int) ^ n=p at *
  omega
theorem pow17 {n:Nat} (h:n≤17):(10:Int) ^ n≤100000000000000000:=by
 have:(10:Nat) ^ n≤10 ^ 17:=Nat.pow_le_pow_right (by decide) h
 have h2:((10 ^ n:Nat):Int)≤((10 ^ 17:Nat):Int):=Int.ofNat_le.2 this
 rw [Int.natCast_pow] at h2
 exact h2
theorem digLen_take {c:UInt8}:∀ {l:List UInt8},c∈l.take (digLen l)→isDigitB c=true
 | [],h=>by simp at h
 | d :: l,h=>by
  simp only [digLen] at h
  split at h
  ·simp only [List.take_succ_cons,List.mem_cons] at h
   rcases h with rfl | h
   ·assumption
   ·exact digLen_take h
  ·simp at h
theorem digLen_drop:∀ (k:Nat) (l:List UInt8),k≤digLen l→digLen (l.drop k)=digLen l - k
 | 0,l,_=>by simp
 | k+1,[],h=>by simp [digLen] at h
 | k+1,c :: l,h=>by
  simp only [digLen] at h ⊢
  split at h
  ·rename_i hc
   rw [if_pos hc,List.drop_succ_cons,digLen_drop k l (by omega)]
   omega
  ·omega
theorem token_digit {RS:ByteArray→Nat→ByteArray×Int×Bool} (s:ByteArray) (a:Nat) (w:World) (hs:s.size≤2000) (ha:a < s.size) (hdg:isDigitB s[a]=true) :
  Calls Tryz.prog 25 #[.string s,.int .i64 a] w fun e w'=>∃ k x n p b,e = .returned (.tuple #[.agg #[.int .u8 k,.string x,.int .i64 n,.int .i64 p],.int .i64 b])∧RTk (tokAt RS s a).1 k x n p∧((tokAt RS s a).1.kind≠1→b=((tokAt RS s a).2:Nat))∧Below w.heap.size w w':=by
 have ha':(a:Int) < (s.size:Int):=by omega
 have hd:=drop_at s a ha
 have hl:=digit_letter hdg
 have hbd:=digit_bounds hdg
 have h36:¬ (s[a].toNat:Int)=36:=by omega
 have h36':¬ s[a]=36:=by intro e;rw [e] at hbd;exact absurd hbd.1 (by decide)
 have hT:tokAt RS s a=if digLen (s.data.toList.drop a)≤18 then (⟨5,s.extract a (a+digLen (s.data.toList.drop a)),a⟩,a+digLen (s.data.toList.drop a)) else (⟨1,⟨#[]⟩,a⟩,a):=by
  unfold tokAt
  rw [hd,find_none (firsts_not (f:=isDigitB) (by decide) hdg)]
  unfold longT
  rw [hd]
  have h3:(s[a] == 36)=false:=by simpa using h36'
  simp only [hl,h3,hdg,Bool.false_eq_true,if_false,if_true]
  split
  ·simp only [Int.toNat_natCast]
  ·simp only [Int.toNat_natCast]
 rw [hT]
 clear hT hd
 have hle:=digLen_le (s.data.toList.drop a)
 simp only [List.length_drop,size_list] at hle
 have htk:∀ j,a≤j→j≤a+digLen (s.data.toList.drop a)→0≤digN (s.extract a j)∧digN (s.extract a j) < (10:Int) ^ (j - a):=fun j h1 h2=>by
  have e:digN (s.extract a j)=digF ((s.data.toList.drop a).take (j - a)):=by
   unfold digN digF
   rw [extract_list]
  rw [e]
  refine digF_bound _ _ ?_ fun c hc=>digLen_take (List.mem_of_mem_take (i:=j - a) (l:=(s.data.toList.drop a).take (digLen (s.data.toList.drop a))) ?_)
  ·rw [List.length_take,List.length_drop,size_list];omega
  ·rw [List.take_take,Nat.min_eq_left (by omega)]
   exact hc
 have hstep:∀ j (hj:j < s.size),a≤j→digN (s.extract a (j+1))=digN (s.extract a j) * 10+((s[j].toNat:Int) - 48):=fun j hj h1=>by
  have e:∀ j,digN (s.extract a j)=digF ((s.data.toList.drop a).take (j - a)):=fun j=>by
   unfold digN digF
   rw [extract_list]
  rw [e,e,← digF_snoc,show j+1 - a=j - a+1 by omega,List.take_add_one,List.getElem?_drop,show a+(j - a)=j by omega,at_list s j hj]
  rfl
 have hnext:∀ j (hj:j < s.size),a≤j→j < a+digLen (s.data.toList.drop a)→isDigitB s[j]=true:=fun j hj h1 h2=>by
  have h3:=digLen_drop (j - a) (s.data.toList.drop a) (by omega)
  rw [List.drop_drop,show a+(j - a)=j by omega,drop_at s j hj] at h3
  cases hh:isDigitB s[j] with
  | true=>rfl
  | false=>simp only [digLen,hh,Bool.false_eq_true,if_false] at h3;omega
 have hlast:∀ j (hj:j < s.size),j=a+digLen (s.data.toList.drop a)→isDigitB s[j]=false:=fun j hj h1=>by
  have h3:=digLen_drop (j - a) (s.data.toList.drop a) (by omega)
  rw [List.drop_drop,show a+(j - a)=j by omega,drop_at s j hj] at h3
  cases hh:isDigitB s[j] with
  | true=>simp only [digLen,hh,if_true] at h3;omega
  | false=>rfl
 obtain ⟨N,hN⟩:∃ N,digLen (s.data.toList.drop a)=N:=⟨_,rfl⟩
 rw [hN] at hle htk hnext hlast ⊢
 clear hN
 have Htk:Hid _:=htk
 have Hst:Hid _:=hstep
 have Hnx:Hid _:=hnext
 have Hla:Hid _:=hlast
 clear htk hstep hnext hlast
 obtain ⟨T,hT⟩:∃ T,(if N≤18 then ((⟨5,s.extract a (a+N),a⟩:Tok),a+N) else (⟨1,⟨#[]⟩,a⟩,a))=T:=⟨_,rfl⟩
 rw [hT]
 have HT:Hid _:=hT
 clear hT
 go_enter Tryz.func25,Tryz.ntmps25
 go_wp2_with fail
 refine Calls.mono (small_any s[a] _) ?_
 rintro e w1 ⟨rfl,h1⟩
 subst w1
 rw [hl]
 go_wp2_with fail
 refine Calls.mono (figure_any s[a] _) ?_
 rintro e w1 ⟨rfl,h1⟩
 subst w1
 rw [hdg]
 go_wp2_with fail
 have hdg0:=hdg
 clear hdg hl hbd h36 h36'
 go_loopg [10] N (fun k v wr=>∃ (j:Nat) (n:Int),v = .int .i64 j∧a≤j∧j≤a+N∧Hid (k=a+N - j)∧Cl wr (w.heap.size+1) [.int .u8 98,.string ⟨#[]⟩,.int .i64 n,.int .i64 a]∧Cl wr w.heap.size [.int .u8 0,.string ⟨#[]⟩,.int .i64 0,.int .i64 0]∧Below w.heap.size w wr∧w.heap.size+1 < wr.heap.size∧Hid (j - a≤18→n=digN (s.extract a j)))
 case atStart =>
  refine ⟨a,0,rfl,Nat.le_refl _,by omega,show _=_ by omega,cl_heap (heap_new2 w _ _),cl_heap (((below_alloc (w.alloc _) _).block w.heap.size (by simp)).trans (heap_new w _)),((below_alloc _ _).alloc (by simp) _),by simp,show _→_ from fun _=>?_⟩
  have:(s.extract a a).data.toList=[]:=by rw [extract_list];simp
  simp [digN,this]
 case round =>
  obtain ⟨j,n,rfl,hj1,hj2,hk,hc1,hc2,hB,hsz,hn⟩:=hrel
  have d0:=hc2.cell 0
  have d1:=hc2.cell 1
  have d2:=hc2.cell 2
  have d3:=hc2.cell 3
  have e0:=hc1.cell 0
  have e1:=hc1.cell 1
  have e2:=hc1.cell 2
  have e3:=hc1.cell 3
  have f0:=hc2.free 0
  have f1:=hc2.free 1
  have f2:=hc2.free 2
  have f3:=hc2.free 3
  have g0:=hc1.free 0
  have g1:=hc1.free 1
  have g2:=hc1.free 2
  have g3:=hc1.free 3
  simp only [List.getElem?_cons_zero,List.getElem?_cons_succ] at d0 d1 d2 d3 e0 e1 e2 e3
  have H1:Aside (Cl wr (w.heap.size+1) [.int .u8 98,.string ⟨#[]⟩,.int .i64 n,.int .i64 a]):=hc1
  have H2:Aside (Cl wr w.heap.size [.int .u8 0,.string ⟨#[]⟩,.int .i64 0,.int .i64 0]):=hc2
  clear hc1 hc2
  by_cases hlt:j < a+N
  ·have hjs:j < s.size:=by omega
   have hjs':(j:Int) < (s.size:Int):=by omega
   have hdj:=Hnx.out j hjs hj1 hlt
   have hb:=digit_bounds hdj
   go_wp2_with fail
   refine Calls.mono (figure_any s[j] _) ?_
   rintro e w1 ⟨rfl,h1⟩
   subst w1
   rw [hdj]
   clear hdj
   by_cases h18:j - a < 18
   ·have hn':=hn.out (by omega)
    have hb2:=Htk.out j hj1 hj2
    have hp:=pow17 (n:=j - a) (by omega)
    rw [← hn'] at hb2
    obtain ⟨hb3,hb4⟩:=hb2
    have hb5:n < 100000000000000000:=by omega
    clear hp hb4
    have HN:Hid _:=hn'
    clear hn'
    go_wp2_with fail
    go_region
    go_wp2_with fail
    go_roundg (a+N - (j+1))
    case measure=>have:=hk.out;omega
    case rel =>
     refine ⟨j+1,10 * n+((s[j].toNat:Int) - 48),by go_num,by omega,by omega,show _=_ from rfl,?_,?_,?_,?_,show _→_ from fun _=>?_⟩
     ·have:=H1.out.set 2 (.int .i64 (10 * n+((s[j].toNat:Int) - 48))) (by simp)
      exact ⟨this.cell,this.free⟩
     ·exact H2.out.same (Below.heap_setCell _ _ _ _ (by simp))
     ·exact (hB.setCell (by simp) _).drew
     ·simpa using hsz
     ·rw [Hst.out j hjs hj1,← HN.out];omega
   ·go_wp2_with fail
    go_region
    go_wp2_with fail
    go_roundg (a+N - (j+1))
    case measure=>have:=hk.out;omega
    case rel =>
     refine ⟨j+1,wrap64 (wrap64 (10 * n)+((s[j].toNat:Int) - 48)),by go_num,by omega,by omega,show _=_ from rfl,?_,?_,?_,?_,show _→_ from fun h=>absurd h (by omega)⟩
     ·have:=H1.out.set 2 (.int .i64 (wrap64 (wrap64 (10 * n)+((s[j].toNat:Int) - 48)))) (by simp)
      exact ⟨this.cell,this.free⟩
     ·exact H2.out.same (Below.heap_setCell _ _ _ _ (by simp))
     ·exact (hB.setCell (by simp) _).drew
     ·simpa using hsz
  ·have hja:j=a+N:=by omega
   have hk5:=hn.out
   have hbe:Hid _:=hn
   by_cases h18:N≤18
   ·have hT:=HT.out
    rw [if_pos h18] at hT
    have HT:Hid _:=hT
    clear hT
    have hnn:n=digN (s.extract a (a+N)):=by rw [← hja];exact hk5 (by omega)
    have HNN:Hid _:=hnn
    clear hnn hk5
    have h18':(j:Int) - (a:Int)≤18:=by omega
    have HJ:Hid _:=hja
    clear hja
    by_cases hjs:j < s.size
    ·have hjs':(j:Int) < (s.size:Int):=by omega
     have hdj:=Hla.out j hjs HJ.out
     go_wp2_with fail
     refine Calls.mono (figure_any s[j] _) ?_
     rintro e w1 ⟨rfl,h1⟩
     subst w1
     rw [hdj]
     go_wp2_with fail
     refine bodyPost_ret (v:=.tuple #[.agg #[.int .u8 100,.string ⟨#[]⟩,.int .i64 n,.int .i64 a],.int .i64 j]) (by simp [results,Tryz.results25,go_sem,d0,d1,d2,d3,e0,e1,e2,e3]) rfl ?_
     rw [← HT.out]
     exact ⟨_,_,_,_,_,rfl,⟨rfl,rfl,fun _ _ h=>absurd rfl h,fun _=>HNN.out⟩,by have:=HJ.out;first | (intro _;omega) | omega,(by repeat' (first | exact hB | refine Below.setCell ?_ (by simp) _))⟩
    ·have hjs':¬ (j:Int) < (s.size:Int):=by omega
     go_wp2_with fail
     refine bodyPost_ret (v:=.tuple #[.agg #[.int .u8 100,.string ⟨#[]⟩,.int .i64 n,.int .i64 a],.int .i64 j]) (by simp [results,Tryz.results25,go_sem,d0,d1,d2,d3,e0,e1,e2,e3]) rfl ?_
     rw [← HT.out]
     exact ⟨_,_,_,_,_,rfl,⟨rfl,rfl,fun _ _ h=>absurd rfl h,fun _=>HNN.out⟩,by have:=HJ.out;first | (intro _;omega) | omega,(by repeat' (first | exact hB | refine Below.setCell ?_ (by simp) _))⟩
   ·have hT:=HT.out
    rw [if_neg h18] at hT
    have HT:Hid _:=hT
    clear hT
    have h18':¬ (j:Int) - (a:Int)≤18:=by omega
    have HJ:Hid _:=hja
    clear hja hk5
    by_cases hjs:j < s.size
    ·have hjs':(j:Int) < (s.size:Int):=by omega
     have hdj:=Hla.out j hjs HJ.out
     go_wp2_with fail
     refine Calls.mono (figure_any s[j] _) ?_
     rintro e w1 ⟨rfl,h1⟩
     subst w1
     rw [hdj]
     go_wp2_with fail
     refine bodyPost_ret (v:=.tuple #[.agg #[.int .u8 98,.string ⟨#[]⟩,.int .i64 n,.int .i64 a],.int .i64 j]) (by simp [results,Tryz.results25,go_sem,d0,d1,d2,d3,e0,e1,e2,e3]) rfl ?_
     rw [← HT.out]
     exact ⟨_,_,_,_,_,rfl,⟨rfl,rfl,fun _ h=>absurd rfl h,fun h=>absurd (show (1:Int)=5 from h) (by decide)⟩,fun h=>absurd rfl h,(by repeat' (first | exact hB | refine Below.setCell ?_ (by simp) _))⟩
    ·have hjs':¬ (j:Int) < (s.size:Int):=by omega
     go_wp2_with fail
     refine bodyPost_ret (v:=.tuple #[.agg #[.int .u8 98,.string ⟨#[]⟩,.int .i64 n,.int .i64 a],.int .i64 j]) (by simp [results,Tryz.results25,go_sem,d0,d1,d2,d3,e0,e1,e2,e3]) rfl ?_
     rw [← HT.out]
     exact ⟨_,_,_,_,_,rfl,⟨rfl,rfl,fun _ h=>absurd rfl h,fun h=>absurd (show (1:Int)=5 from h) (by decide)⟩,fun h=>absurd rfl h,(by repeat' (first | exact hB | refine Below.setCell ?_ (by simp) _))⟩
end Go.Proofs.Tryz
