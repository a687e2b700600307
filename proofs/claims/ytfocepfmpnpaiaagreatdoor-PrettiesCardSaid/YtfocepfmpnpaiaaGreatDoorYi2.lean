import Derived.Test.YtfocepfmpnpaiaaGreatDoorYg4
import Derived.Test.YtfocepfmpnpaiaaGreatDoorYg6
import Derived.Test.YtfocepfmpnpaiaaGreatDoorYg8
import Derived.Test.YtfocepfmpnpaiaaGreatDoorYgb
import Derived.Test.YtfocepfmpnpaiaaGreatDoorYh6
set_option linter.all false
namespace Go.Proofs.Tryz
set_option maxHeartbeats 16000000
open Go.RowKit
set_option maxRecDepth 10000
theorem escaped_at (s:ByteArray) (a:Nat) (q:Int) (hq:q=(a:Int)+1) (hs:s.size≤100000) (ha:a+1≤s.size) (w:World) :
  Calls Tryz.prog 77 #[.string s,.int .i64 q] w (EscP (escV s a) w):=by
 have e:q=((a+1:Nat):Int):=by omega
 subst e
 exact escaped_ok s a (a+1) rfl hs ha w
theorem tail_bound {s:ByteArray}:∀ {k a:Nat}{lo hi:Int},(tailL s k a lo hi).2=true→a≤s.size→a≤(tailL s k a lo hi).1∧(tailL s k a lo hi).1≤s.size
 | 0,a,lo,hi,_,h=>⟨Nat.le_refl _,h⟩
 | k+1,a,lo,hi,h,ha=>by
  rw [tailL] at h ⊢
  split at h
  ·cases h
  ·rename_i h1
   rw [if_neg h1]
   split at h
   ·cases h
   ·rename_i h2
    rw [if_neg h2]
    split at h
    ·cases h
    ·rename_i h3
     rw [if_neg h3]
     have:=tail_bound h (by omega)
     omega
def StrP (R:List UInt8×Int×Bool) (w:World) (e:Ending) (w':World):Prop:=∃ x p,e = .returned (.tuple #[.string x,.int .i64 p,.bool R.2.2])∧(R.2.2=true→x.data.toList=R.1∧p=R.2.1)∧Below w.heap.size w w'
theorem readStringR_ok (s:ByteArray) (a:Nat) (hs:s.size≤100000) (ha:a < s.size) (w:World) :
  Calls Tryz.prog 53 #[.string s,.int .i64 a] w (StrP (strL s (s.size+1) (a+1) []) w):=by
 obtain ⟨R,hR⟩:∃ R,strL s (s.size+1) (a+1) []=R:=⟨_,rfl⟩
 rw [hR]
 have HR:Hid _:=hR
 clear hR
 go_enter Tryz.func53,Tryz.ntmps53
 go_wp2_with fail
 go_loopg [1,7] (s.size+1) (fun k v t wr=>∃ (j:Nat) (x:ByteArray),v = .int .i64 j∧t = .string x∧a < j∧j≤s.size∧x.size≤4 * j∧s.size < k+j∧Hid (strL s k j x.data.toList=R)∧Below w.heap.size w wr)
 case atStart=>exact ⟨a+1,⟨#[]⟩,by go_num,rfl,by omega,by omega,Nat.zero_le _,by omega,show _=_ from HR.out,Below.refl _ _⟩
 case round =>
  obtain ⟨j,x,rfl,rfl,hj1,hj2,hx,hk,hr,hB⟩:=hrel
  match gk,hk,hr with
  | 0,hk,hr=>exact absurd hk (by omega)
  | k+1,hk,hr =>
  have hr:=hr.out
  rw [strL] at hr
  by_cases z:s.size≤j
  ·rw [if_pos z] at hr
   have z':¬ (j:Int) < (s.size:Int):=by omega
   have z2:¬ (j:Int)+1≤(s.size:Int):=by omega
   have HR2:Hid _:=hr
   clear hr
   go_wp2_with fail
   go_ret3
   rw [← HR2.out]
   exact ⟨_,_,rfl,fun h=>(by cases h),hB⟩
  rw [if_neg z] at hr
  have hlt:j < s.size:=by omega
  have l0:(j:Int) < (s.size:Int):=by omega
  have hcl:charL s j=if (followV (byteAt s j)).2.2 < 0 then (j,false) else tailL s (followV (byteAt s j)).2.2.toNat (j+1) (followV (byteAt s j)).1 (followV (byteAt s j)).2.1:=rfl
  have hch:=character_ok s j hs hlt
  by_cases c1:byteAt s j=34
  ·rw [if_pos c1] at hr
   rw [byte_at hlt] at c1
   have HR2:Hid _:=hr
   clear hr hcl hch z
   go_wp2_with fail
   go_ret3
   rw [← HR2.out]
   exact ⟨_,_,rfl,fun _=>⟨rfl,rfl⟩,hB⟩
  rw [if_neg c1] at hr
  by_cases c2:byteAt s j < 32
  ·rw [if_pos c2] at hr
   rw [byte_at hlt] at c1 c2
   have HR2:Hid _:=hr
   clear hr hcl hch z
   go_wp2_with fail
   go_ret3
   rw [← HR2.out]
   exact ⟨_,_,rfl,fun h=>(by cases h),hB⟩
  rw [if_neg c2] at hr
  by_cases c3:byteAt s j=92
  ·rw [if_pos c3] at hr
   rw [byte_at hlt] at c1 c2 c3
   have hE:=escaped_at s j ((j:Int)+1) rfl hs (by omega)
   have hgood:Good3 s j (escV s j):=esc_good hlt
   obtain ⟨u,hu⟩:∃ u,escV s j=u:=⟨_,rfl⟩
   rw [hu] at hr hE hgood
   clear hu hcl hch z c1 c2
   have HE:Aside (∀ w:World,Calls Tryz.prog 77 #[.string s,.int .i64 ((j:Int)+1)] w (EscP u w)):=hE
   clear hE
   obtain ⟨u1,u2,ok⟩:=u
   unfold Good3 at hgood
   simp only at hr hgood
   cases ok with
   | false =>
    rw [if_neg (by decide)] at hr
    have HR2:Hid _:=hr
    clear hr hgood
    go_wp2_with fail
    refine Calls.mono (HE.out _) ?_
    rintro e w1 ⟨y,p,rfl,h1,h2⟩
    go_wp2_with fail
    go_ret3
    rw [← HR2.out]
    exact ⟨_,_,rfl,fun h=>(by cases h),hB.trans (h2.mono hB.size)⟩
   | true =>
    rw [if_pos rfl] at hr
    obtain ⟨g1,g2,q,g3,g4,g5⟩:=hgood rfl
    have HR2:Hid _:=hr
    clear hr hgood
    go_wp2_with fail
    refine Calls.mono (HE.out _) ?_
    rintro e w1 ⟨y,p,rfl,h1,h2⟩
    obtain ⟨hy,hp⟩:=h1 rfl
    simp only at hy hp g3
    have hp':p=(q:Int):=by rw [hp];exact g3
    subst hp'
    have hy4:y.size≤4:=by
     rw [← size_list,hy]
     have:=rune_len u1
     simpa [Lib.encodeRune,Lib.runeCells] using this
    have HY:Hid _:=hy
    clear hy h1 hp
    go_wp2_with fail
    go_roundg k
    case measure=>omega
    case rel =>
     refine ⟨q,x ++ y,rfl,rfl,by omega,by omega,?_,by omega,show _=_ from ?_,hB.trans (h2.mono hB.size)⟩
     ·have:(x ++ y).size=x.size+y.size:=by rw [← size_list,append_list,List.length_append,size_list,size_list]
      omega
     ·rw [append_list,HY.out]
      have:=HR2.out
      rw [g3,Int.toNat_natCast] at this
      exact this
  rw [if_neg c3] at hr
  rw [byte_at hlt] at c1 c2 c3
  have hch2:charL s j=charL s j:=rfl
  unfold charL at hch2
  have hstr:(if (charL s j).2 then strL s k (charL s j).1 (x.data.toList ++ (s.data.toList.drop j).take ((charL s j).1 - j)) else ([],((charL s j).1:Int),false))=R:=by
   rw [← hr]
   unfold charL
   by_cases hneg:(followV (byteAt s j)).2.2 < 0
   ·simp only [if_pos hneg]
    rfl
   ·simp only [if_neg hneg]
  have hb2:(charL s j).2=true→j < (charL s j).1∧(charL s j).1≤s.size:=by
   unfold charL
   split
   ·intro h;cases h
   ·intro h
    have:=tail_bound h (by omega)
    omega
  clear hr hcl hch2
  obtain ⟨P,ok,hP⟩:∃ P ok,charL s j=(P,ok):=⟨_,_,rfl⟩
  rw [hP] at hstr hb2 hch
  simp only at hstr hb2
  clear hP z
  have HC:Aside (∀ w:World,Calls Tryz.prog 78 #[.string s,.int .i64 j] w (ChP (P,ok) w)):=hch
  clear hch
  cases ok with
  | false =>
   rw [if_neg (by decide)] at hstr
   have HR2:Hid _:=hstr
   clear hstr hb2
   go_wp2_with fail
   refine Calls.mono (HC.out _) ?_
   rintro e w1 ⟨rfl,h1⟩
   subst w1
   go_wp2_with fail
   go_ret3
   rw [← HR2.out]
   exact ⟨_,_,rfl,fun h=>(by cases h),hB⟩
  | true =>
   rw [if_pos rfl] at hstr
   obtain ⟨g1,g2⟩:=hb2 rfl
   have HR2:Hid _:=hstr
   clear hstr hb2
   have g3:(P:Int)≤(s.size:Int):=by omega
   have g4:(j:Int)≤(P:Int):=by omega
   go_wp2_with fail
   refine Calls.mono (HC.out _) ?_
   rintro e w1 ⟨rfl,h1⟩
   subst w1
   go_wp2_with fail
   go_roundg k
   case measure=>omega
   case rel =>
    have hz:(x ++ s.extract j P).size=x.size+(P - j):=by rw [← size_list,append_list,List.length_append,size_list,extract_list,List.length_take,List.length_drop,size_list];omega
    refine ⟨P,x ++ s.extract j P,rfl,rfl,by omega,by omega,?_,by omega,show _=_ from ?_,hB⟩
    ·omega
    ·rw [append_list,extract_list]
     exact HR2.out
end Go.Proofs.Tryz
namespace Go.Proofs.Tryz
set_option maxHeartbeats 16000000
open Go.RowKit
set_option maxRecDepth 10000
theorem strT_fit {s:ByteArray}:∀ (k a:Nat) (cs:List UInt8),(strL s k a cs).2.2=true→∃ p:Nat,(strL s k a cs).2.1=p∧a < p∧p≤s.size
 | 0,a,cs,h=>by cases h
 | k+1,a,cs,h=>by
  rw [strL] at h ⊢
  by_cases z:s.size≤a
  ·rw [if_pos z] at h
   cases h
  rw [if_neg z] at h ⊢
  by_cases c1:byteAt s a=34
  ·rw [if_pos c1]
   exact ⟨a+1,rfl,by omega,by omega⟩
  rw [if_neg c1] at h ⊢
  by_cases c2:byteAt s a < 32
  ·rw [if_pos c2] at h
   cases h
  rw [if_neg c2] at h ⊢
  by_cases c3:byteAt s a=92
  ·rw [if_pos c3] at h ⊢
   by_cases ok:(escV s a).2.2=true
   ·rw [if_pos ok] at h ⊢
    obtain ⟨_,_,q,g3,g4,g5⟩:=(esc_good (s:=s) (a:=a) (by omega)) ok
    obtain ⟨p,h1,h2,h3⟩:=strT_fit k _ _ h
    exact ⟨p,h1,by rw [g3] at h2;simp only [Int.toNat_natCast] at h2;omega,h3⟩
   ·rw [if_neg ok] at h
    cases h
  rw [if_neg c3] at h ⊢
  by_cases c4:(followV (byteAt s a)).2.2 < 0
  ·rw [if_pos c4] at h
   cases h
  rw [if_neg c4] at h ⊢
  by_cases ok:(tailL s (followV (byteAt s a)).2.2.toNat (a+1) (followV (byteAt s a)).1 (followV (byteAt s a)).2.1).2=true
  ·rw [if_pos ok] at h ⊢
   have:=tail_bound ok (by omega)
   obtain ⟨p,h1,h2,h3⟩:=strT_fit k _ _ h
   exact ⟨p,h1,by omega,h3⟩
  ·rw [if_neg ok] at h
   cases h
def RSt (s:ByteArray) (a:Nat):ByteArray×Int×Bool:=(⟨(strL s (s.size+1) (a+1) []).1.toArray⟩,(strL s (s.size+1) (a+1) []).2.1,(strL s (s.size+1) (a+1) []).2.2)
theorem fits_RSt:FitsStr RSt:=fun s a h=>by
 obtain ⟨p,h1,h2,h3⟩:=strT_fit _ _ _ h
 show (a:Int) < (strL s (s.size+1) (a+1) []).2.1∧(strL s (s.size+1) (a+1) []).2.1≤(s.size:Int)
 omega
theorem bytes_eq {t:ByteArray}{l:List UInt8} (h:t.data.toList=l):t=⟨l.toArray⟩:=by
 subst h
 cases t
 simp
theorem reads_RSt (hA:AppendsRune):ReadsStr RSt:=fun s a w ha hs=>by
 refine (string_ok hA s a ha (by omega) w).mono ?_
 rintro e w' ⟨hB,t,rfl,ht⟩
 exact ⟨by rw [bytes_eq ht];rfl,hB⟩
theorem ref_RSt:RefStr RSt:=fun s a w ha hs=>by
 refine (readStringR_ok s a hs ha w).mono ?_
 rintro e w' ⟨x,p,rfl,h,hB⟩
 exact ⟨x,p,rfl,fun ok=>⟨bytes_eq (h ok).1,(h ok).2⟩,hB⟩
def TokP (RS:ByteArray→Nat→ByteArray×Int×Bool) (s:ByteArray) (a:Nat) (w:World) (e:Ending) (w':World):Prop :=
 ∃ k x n p b,e = .returned (.tuple #[.agg #[.int .u8 k,.string x,.int .i64 n,.int .i64 p],.int .i64 b])∧RTk (tokAt RS s a).1 k x n p∧((tokAt RS s a).1.kind≠1→b=((tokAt RS s a).2:Nat))∧Below w.heap.size w w'
theorem token_any {RS:ByteArray→Nat→ByteArray×Int×Bool} (hRS:RefStr RS) (hF:FitsStr RS) (s:ByteArray) (a:Nat) (w:World) (hs:s.size≤2000) (ha:a < s.size) (hb:isBlankB s[a]=false) :
  Calls Tryz.prog 25 #[.string s,.int .i64 a] w (TokP RS s a w):=by
 by_cases hl:isLetterB s[a]=true
 ·exact token_letter s a w hs ha hl
 have hl:=Bool.eq_false_iff.2 hl
 by_cases hd:isDigitB s[a]=true
 ·exact token_digit s a w hs ha hd
 have hd:=Bool.eq_false_iff.2 hd
 by_cases h34:s[a]=34
 ·exact token_quote s a w hs ha hRS hF h34
 have hx:=drop_at s a ha
 have e1:(s.extract a (a+1)).data.toList=[s[a]]:=by rw [extract_list,Nat.add_sub_cancel_left,hx];rfl
 have b1:s.extract a (a+1)=⟨#[s[a]]⟩:=bytes_eq e1
 have HO:∀ w:World,Calls Tryz.prog 50 #[.string ⟨#[46,124,44,60,62,61,43,45,42,47,37,63,40,41,91,93,123,125,58,59]⟩,.string (s.extract a (a+1))] w fun e w'=>e = .returned (.bool (onesS.contains s[a]))∧w'=w:=fun w=>by
  have:=within_at ⟨#[46,124,44,60,62,61,43,45,42,47,37,63,40,41,91,93,123,125,58,59]⟩ (s.extract a (a+1)) [s[a]] w (by decide) e1 (by simp) (by simp)
  rw [show (ByteArray.data ⟨#[46,124,44,60,62,61,43,45,42,47,37,63,40,41,91,93,123,125,58,59]⟩).toList=onesS from rfl,within_ones] at this
  exact this
 have hq:¬ (s[a].toNat:Int)=34:=fun h=>h34 (by rw [← UInt8.toNat_inj];show s[a].toNat=34;omega)
 have hn32:s[a]≠32:=by rintro e;rw [e] at hb;revert hb;decide
 by_cases h36:s[a]=36
 ·have hc1:(s[a].toNat:Int)=36:=by rw [h36];rfl
  have ho:onesS.contains s[a]=false:=by rw [h36];decide
  rw [ho] at HO
  by_cases ha2:a+1 < s.size
  ·by_cases hl2:isLetterB s[a+1]=true
   ·exact token_dollar s a w hs ha h36 ha2 hl2
   ·have hl2:=Bool.eq_false_iff.2 hl2
    have e2:(s.extract a (a+2)).data.toList=[s[a],s[a+1]]:=by rw [extract_list,Nat.add_sub_cancel_left,hx,drop_at s (a+1) ha2];rfl
    refine token_dol2 s a w hs ha hc1 ha2 hl2 (fun w=>?_) HO ?_
    ·have:=within_blank ⟨#[32,46,46,32,47,47,32,61,61,32,33,61,32,60,61,32,62,61,32,124,61,32]⟩ (s.extract a (a+2)) w (by decide) (by rw [← size_list,e2];simp)
     rw [e2,show withinB (ByteArray.data ⟨#[32,46,46,32,47,47,32,61,61,32,33,61,32,60,61,32,62,61,32,124,61,32]⟩).toList (32 :: ([s[a],s[a+1]] ++ [32]))=withinB twosS [32,s[a],s[a+1],32] from rfl,within_twos _ _ hn32] at this
     rw [show twosL.contains (s[a],s[a+1])=false by rw [h36];simp [twosL]] at this
     exact this
    ·unfold tokAt
     rw [hx,find_none (by rw [h36];decide)]
     unfold longT
     rw [hx]
     have h0:nameLen (s.data.toList.drop (a+1))=0:=by rw [drop_at s (a+1) ha2];simp [nameLen,hl2]
     simp only [hl,h36,Bool.false_eq_true,if_false,beq_self_eq_true,if_true,show isLetterB 36=false by decide,h0]
     unfold namedT namedB
     rw [if_pos (.inl (by rw [extract_list];simp))]
     rfl
  ·refine token_dol1 s a w hs ha hc1 ha2 HO ?_
   unfold tokAt
   rw [hx,find_none (by rw [h36];decide)]
   unfold longT
   rw [hx]
   have h0:nameLen (s.data.toList.drop (a+1))=0:=by rw [List.drop_eq_nil_of_le (by rw [size_list];omega)];rfl
   simp only [hl,h36,Bool.false_eq_true,if_false,beq_self_eq_true,if_true,show isLetterB 36=false by decide,h0]
   unfold namedT namedB
   rw [if_pos (.inl (by rw [extract_list];simp))]
   rfl
 have h36':¬ (s[a].toNat:Int)=36:=fun h=>h36 (by rw [← UInt8.toNat_inj];show s[a].toNat=36;omega)
 have hlong:(longT RS s a).1=⟨1,⟨#[]⟩,a⟩:=by
  unfold longT
  rw [hx]
  simp only [hl,hd,Bool.false_eq_true,if_false,show (s[a] == 36)=false by simpa using h36,show (s[a] == 34)=false by simpa using h34]
 by_cases ha2:a+1 < s.size
 ·have hx2:=drop_at s (a+1) ha2
  have e2:(s.extract a (a+2)).data.toList=[s[a],s[a+1]]:=by rw [extract_list,Nat.add_sub_cancel_left,hx,hx2];rfl
  have b2:s.extract a (a+2)=⟨#[s[a],s[a+1]]⟩:=bytes_eq e2
  have HT:∀ w:World,Calls Tryz.prog 50 #[.string ⟨#[32,46,46,32,47,47,32,61,61,32,33,61,32,60,61,32,62,61,32,124,61,32]⟩,.string (⟨#[32]⟩ ++ s.extract a (a+2) ++ ⟨#[32]⟩)] w fun e w'=>e = .returned (.bool (twosL.contains (s[a],s[a+1])))∧w'=w:=fun w=>by
   have:=within_blank ⟨#[32,46,46,32,47,47,32,61,61,32,33,61,32,60,61,32,62,61,32,124,61,32]⟩ (s.extract a (a+2)) w (by decide) (by rw [← size_list,e2];simp)
   rw [e2,show withinB (ByteArray.data ⟨#[32,46,46,32,47,47,32,61,61,32,33,61,32,60,61,32,62,61,32,124,61,32]⟩).toList (32 :: ([s[a],s[a+1]] ++ [32]))=withinB twosS [32,s[a],s[a+1],32] from rfl,within_twos _ _ hn32] at this
   exact this
  by_cases h2:twosL.contains (s[a],s[a+1])=true
  ·rw [h2] at HT
   refine token_two s a w hs ha hl hd hq h36' ha2 HT ?_
   unfold tokAt
   rw [hx,hx2,find_two h2,b2]
   rfl
  ·have h2:=Bool.eq_false_iff.2 h2
   rw [h2] at HT
   have h22:∀ d r,s.data.toList.drop (a+1)=d :: r→twosL.contains (s[a],d)=false:=fun d r e=>by
    rw [hx2] at e
    cases e
    exact h2
   by_cases h1:onesS.contains s[a]=true
   ·rw [h1] at HO
    refine token_one2 s a w hs ha hl hd hq h36' ha2 HT HO ?_
    unfold tokAt
    rw [hx,find_one h22 h1,b1]
    rfl
   ·have h1:=Bool.eq_false_iff.2 h1
    rw [h1] at HO
    refine token_no2 s a w hs ha hl hd hq h36' ha2 HT HO ?_
    unfold tokAt
    rw [hx,find_neither h22 h1]
    exact hlong
 ·have h22:∀ d r,s.data.toList.drop (a+1)=d :: r→twosL.contains (s[a],d)=false:=fun d r e=>by
   rw [List.drop_eq_nil_of_le (by rw [size_list];omega)] at e
   cases e
  by_cases h1:onesS.contains s[a]=true
  ·rw [h1] at HO
   refine token_one1 s a w hs ha hl hd hq h36' ha2 HO ?_
   unfold tokAt
   rw [hx,find_one h22 h1,b1]
   rfl
  ·have h1:=Bool.eq_false_iff.2 h1
   rw [h1] at HO
   refine token_no1 s a w hs ha hl hd hq h36' ha2 HO ?_
   unfold tokAt
   rw [hx,find_neither h22 h1]
   exact hlong
theorem token_end (s:ByteArray) (w:World) (hs:s.size≤2000) :
  Calls Tryz.prog 25 #[.string s,.int .i64 s.size] w fun e w'=>e = .returned (.tuple #[.agg #[.int .u8 101,.string ⟨#[]⟩,.int .i64 0,.int .i64 s.size],.int .i64 s.size])∧Below w.heap.size w w':=by
 go_enter Tryz.func25,Tryz.ntmps25
 go_wp2_with fail
 refine bodyPost_ret (v:=.tuple #[.agg #[.int .u8 101,.string ⟨#[]⟩,.int .i64 0,.int .i64 s.size],.int .i64 s.size]) (by simp [results,Tryz.results25,go_sem]) rfl ?_
 exact ⟨rfl,(by repeat' (first | exact Below.refl _ _ | refine Below.setCell ?_ (by simp) _ | refine Below.dN ?_ _ | refine Below.alloc ?_ (by simp) _))⟩
end Go.Proofs.Tryz
namespace Go.Proofs.Tryz
set_option maxHeartbeats 16000000
open Go.RowKit
set_option maxRecDepth 10000
def CellsR:List Tok→List Value→Prop
 | [],cs=>cs=[]
 | t :: l,cs=>∃ k x n p cs',RTk t k x n p∧cs = .int .u8 k :: .string x :: .int .i64 n :: .int .i64 p :: cs'∧CellsR l cs'
theorem CellsR.length:∀ {l:List Tok}{cs:List Value},CellsR l cs→cs.length=l.length * 4
 | [],cs,h=>by cases h;rfl
 | t :: l,cs,⟨k,x,n,p,cs',_,e,h⟩=>by
  subst e
  have:=CellsR.length h
  simp
  omega
theorem CellsR.snoc {t:Tok}{k n p:Int}{x:ByteArray} (ht:RTk t k x n p):∀ {l:List Tok}{cs:List Value},CellsR l cs→CellsR (l ++ [t]) (cs ++ [.int .u8 k,.string x,.int .i64 n,.int .i64 p])
 | [],cs,h=>by
  cases h
  exact ⟨k,x,n,p,[],ht,rfl,rfl⟩
 | u :: l,cs,⟨k',x',n',p',cs',h1,e,h⟩=>by
  subst e
  exact ⟨k',x',n',p',_,h1,rfl,CellsR.snoc ht h⟩
def ToksR (w:World) (g:Nat):Nat→List Tok→Prop
 | _,[]=>True
 | o,t :: l=>(∃ k x n p,RTk t k x n p∧w.cell? ⟨g,o,none⟩=some (.int .u8 k)∧w.cell? ⟨g,o+1,none⟩=some (.string x)∧w.cell? ⟨g,o+2,none⟩=some (.int .i64 n)∧w.cell? ⟨g,o+3,none⟩=some (.int .i64 p))∧ToksR w g (o+4) l
theorem toksR_of_cells {w:World}{g:Nat}:∀ (l:List Tok) (cs:List Value) (o:Nat),CellsR l cs→(∀ (i:Nat) (v:Value),cs[i]? = some v→w.cell? ⟨g,o+i,none⟩=some v)→ToksR w g o l
 | [],_,_,_,_=>trivial
 | t :: l,cs,o,⟨k,x,n,p,cs',h1,e,h2⟩,h=>by
  subst e
  refine ⟨⟨k,x,n,p,h1,h 0 _ rfl,h 1 _ rfl,h 2 _ rfl,h 3 _ rfl⟩,toksR_of_cells l cs' (o+4) h2 fun i v hv=>?_⟩
  have:=h (i+4) v (by simpa using hv)
  rw [show o+4+i=o+(i+4) by omega]
  exact this
theorem info_tokR:(Tryz.prog.info? 43).map (fun i=>(i.zero,i.size,i.bytes))=some (some (.agg #[.int .u8 0,.string ⟨#[]⟩,.int .i64 0,.int .i64 0]),4,40):=by kernel_rfl
theorem blank_stop (s:ByteArray) (a:Nat) (h:a+blanks (s.data.toList.drop a) < s.size):isBlankB (s[a+blanks (s.data.toList.drop a)])=false:=by
 have key:∀ (l:List UInt8) (h:blanks l < l.length),isBlankB l[blanks l]=false:=by
  intro l
  induction l with
  | nil=>intro h;simp [blanks] at h
  | cons c l ih =>
   intro h
   by_cases hc:isBlankB c=true
   ·have e:blanks (c :: l)=blanks l+1:=by simp [blanks,hc]
    have h':blanks l < l.length:=by simp [e] at h;omega
    have:=ih h'
    simp only [e,List.getElem_cons_succ]
    exact this
   ·have e:blanks (c :: l)=0:=by simp [blanks,hc]
    simp only [e,List.getElem_cons_zero]
    simpa using hc
 have hl:(s.data.toList.drop a).length=s.size - a:=by rw [List.length_drop,size_list]
 have h1:=key (s.data.toList.drop a) (by omega)
 rw [List.getElem_drop] at h1
 simpa [ByteArray.getElem_eq_getElem_data] using h1
def ToksP (toks:List Tok) (w:World) (e:Ending) (w':World):Prop:=∃ g cap,e = .returned (.slice (some ⟨g,0,none⟩) toks.length cap)∧w.heap.size≤g∧g < w'.heap.size∧ToksR w' g 0 toks∧toks.length≤cap∧cap≤maxLen∧Below w.heap.size w w'
theorem tokAt_behind {RS:ByteArray→Nat→ByteArray×Int×Bool} (hF:FitsStr RS) {s:ByteArray}{a:Nat} (hk:¬ (tokAt RS s a).1.kind=1):a < (tokAt RS s a).2∧(tokAt RS s a).2≤s.size:=by
 unfold tokAt at hk ⊢
 cases e:signsB.find? (fun p=>prefixB p.data.toList (s.data.toList.drop a)) with
 | some p =>
  have hall:∀ q∈signsB,0 < q.size:=by decide
  have h0:=hall p (List.mem_of_find?_eq_some e)
  have hp:=List.find?_some e
  have hl:=(List.isPrefixOf_iff_prefix.1 (show p.data.toList.isPrefixOf (s.data.toList.drop a)=true from hp)).length_le
  rw [List.length_drop,size_list,size_list] at hl
  simp only
  omega
 | none =>
  rw [e] at hk
  simp only at hk ⊢
  obtain ⟨b,h1,h2,h3⟩:=longT_fit hF hk
  rw [h1,Int.toNat_natCast]
  exact ⟨h2,h3⟩
theorem kbyte_end (t:Tok) (h:t.kind=0∨t.kind=1∨t.kind=2∨t.kind=3∨t.kind=4∨t.kind=5∨t.kind=6∨t.kind=7):(kbyte t.kind=98↔t.kind=1)∧(kbyte t.kind=101↔t.kind=0):=by
 rcases h with h | h | h | h | h | h | h | h <;> rw [h] <;> decide
theorem namedT_kinds (k:Int) (x:ByteArray) (p:Int):(namedT k x p).kind=1∨(namedT k x p).kind=3∨(namedT k x p).kind=k:=by
 unfold namedT namedB
 split
 ·exact .inl rfl
 ·split
  ·exact .inr (.inl rfl)
  ·exact .inr (.inr rfl)
theorem tokAt_kinds (RS:ByteArray→Nat→ByteArray×Int×Bool) (s:ByteArray) (a:Nat):(tokAt RS s a).1.kind=1∨(tokAt RS s a).1.kind=2∨(tokAt RS s a).1.kind=3∨(tokAt RS s a).1.kind=4∨(tokAt RS s a).1.kind=5∨(tokAt RS s a).1.kind=6∨(tokAt RS s a).1.kind=7:=by
 unfold tokAt
 split
 ·simp
 ·unfold longT
  split
  ·simp
  ·split
   ·have:=namedT_kinds 2 (s.extract a (a+nameLen (‹UInt8› :: ‹List UInt8›))) a
    simp only
    omega
   ·split
    ·rename_i c l _ _ _
     have:=namedT_kinds 4 (s.extract (a+1) (a+1+nameLen l)) a
     simp only
     omega
    ·repeat' split
     all_goals simp
theorem tokensR_any {RS:ByteArray→Nat→ByteArray×Int×Bool} (hRS:RefStr RS) (hF:FitsStr RS) (s:ByteArray) (n:Nat) (toks:List Tok) (w:World) (hs:s.size≤2000) (hn:n≤3000) (hn2:s.size < n) (h:lexT RS s n 0=toks) :
  Calls Tryz.prog 9 #[.string s] w (ToksP toks w):=by
 obtain ⟨i0,hi0,hz0,hz1,hz2⟩:=info_parts info_tokR
 have HTA:Aside (∀ (a:Nat) (w:World) (ha:a < s.size),isBlankB s[a]=false→Calls Tryz.prog 25 #[.string s,.int .i64 a] w (TokP RS s a w)):=fun a w ha hb=>token_any hRS hF s a w hs ha hb
 have HFa:Aside (FitsStr RS):=hF
 clear hRS hF
 go_enter Tryz.func9,Tryz.ntmps9
 go_wp2_with fail
 go_loopg [3,4] n (fun k v t wr=>∃ (acc:List Tok) (cs:List Value) (a:Nat) (rest:List Tok),a≤s.size∧t = .int .i64 a∧Below w.heap.size w wr∧wr.ownsRow w.heap.size 43 4 v acc.length cs∧Aside (CellsR acc cs)∧acc.length+k≤3000∧s.size < k+a∧Hid (lexT RS s k a=rest)∧Hid (acc ++ rest=toks))
 case atStart=>exact ⟨[],[],0,toks,Nat.zero_le _,rfl,Below.refl _ _,World.ownsRow_nil _ _ _ _,show CellsR [] [] from rfl,by simpa using hn,by omega,show _=_ from h,show _=_ from rfl⟩
 case round =>
  clear h
  obtain ⟨acc,cs,a,rest,ha,rfl,hb,hown,hcr,hlen,hfu,h,ht⟩:=hrel
  match gk,h,hlen,hfu with
  | 0,_,_,hfu=>exact absurd hfu (by omega)
  | k+1,h,hlen,hfu =>
  have hbl:=blanksR_any s a
  have h:=h.out
  rw [lexT_at] at h
  have hAle:a+blanks (s.data.toList.drop a)≤s.size:=by have:=blanks_le (s.data.toList.drop a);simp only [List.length_drop,size_list] at this;omega
  obtain ⟨A,hA⟩:∃ A,a+blanks (s.data.toList.drop a)=A:=⟨_,rfl⟩
  have hAa:a≤A:=by omega
  have hst:∀ h:A < s.size,isBlankB s[A]=false:=by subst hA;exact blank_stop s a
  simp only [hA] at hbl h hAle
  have HBL:Aside (∀ (w:World),s.size≤100000→a≤s.size→Calls Tryz.prog 24 #[.string s,.int .i64 a] w fun e w'=>e = .returned (.int .i64 A)∧w'=w):=hbl
  clear hbl hA
  by_cases hend:s.size≤A
  ·rw [if_pos hend] at h
   have hAs:A=s.size:=by omega
   subst hAs
   have HE:Hid _:=h
   clear h hst
   go_wp2_with fail
   refine Calls.mono (HBL.out _ (by omega) (by omega)) ?_
   rintro e w1 ⟨rfl,h1⟩
   subst w1
   go_wp2_with fail
   refine Calls.mono (token_end s _ hs) ?_
   rintro e w2 ⟨rfl,h2⟩
   go_wp2_with (refine wpList_append_lies _ (by rfl) _ _ _ (by rfl) w.heap.size 43 i0 _ 4 40 Tryz.underlying36 hi0 hz0 hz1 hz2 rfl (by omega) u3 acc.length cs (by rfl) ((owns_sameT hown (fun q hq=>h2.block q (hown.lt q hq).2)).alloc _ |>.alloc _) ⟨w2.heap.size+1,0,none⟩ 1 1 [.int .u8 101,.string ⟨#[]⟩,.int .i64 0,.int .i64 s.size] (by rfl) (by rfl) (World.news_of_block (cs:=#[.int .u8 101,.string ⟨#[]⟩,.int .i64 0,.int .i64 s.size]) (t:=43) (fr:=(0,0)) (heap_new2 w2 _ _)) (by simp [Value.oneCell']) (by omega) (by unfold maxLen;omega) (by omega) (by have:=hb.size;have:=h2.size;simp;omega) (w2.heap.size+2) (by simp) ?_;intro g cap w6 hown6 hgrow hat hlt6;have d0:w6.cell? ⟨w2.heap.size,0,none⟩=some (.int .u8 101):=hgrow.cell (by simp) (fun e=>by have:=(hown.lt _ e.symm).2;have:=h2.size;simp only at *;omega))
   go_ret
   have hl1:(acc ++ [(⟨0,⟨#[]⟩,(s.size:Nat)⟩:Tok)]).length=acc.length+1:=by simp
   obtain ⟨_,hh | ⟨g',c',cur,hv,hg,hbk,hn2,hcap,hsz,htk⟩⟩:=hown6
   ·cases hh.1
   ·cases hv
    have hb2:Below w.heap.size w w2:=hb.trans (h2.mono hb.size)
    have hB:Below w.heap.size w w6:=((hb2.alloc hb2.size _).alloc (by have:=hb2.size;simp;omega) _).grown hgrow (by have:=hb2.size;simp;omega) (fun q hq=>(hown.lt q hq).1)
    have hto:acc ++ [(⟨0,⟨#[]⟩,(s.size:Nat)⟩:Tok)]=toks:=by rw [← ht.out,← HE.out]
    refine ⟨g,cap,by rw [← hto,hl1];rfl,hg,hlt6,?_,by rw [← hto,hl1];exact hn2,hcap,hB⟩
    rw [← hto]
    refine toksR_of_cells _ _ 0 (CellsR.snoc (k:=101) (x:=⟨#[]⟩) (n:=0) (p:=(s.size:Int)) (t:=⟨0,⟨#[]⟩,(s.size:Nat)⟩) ⟨rfl,rfl,fun h=>absurd rfl h,fun h=>absurd (show (0:Int)=5 from h) (by decide)⟩ hcr.out) fun i v hiv=>?_
    rw [Nat.zero_add]
    have hi3:i < (acc.length+1) * 4:=by
     have:=(List.getElem?_eq_some_iff.1 hiv).1
     have h4:=hcr.out.length
     simp at this;omega
    rw [← htk,List.getElem?_take_of_lt hi3] at hiv
    simpa [World.cell?,hbk] using hiv
  ·rw [if_neg hend] at h
   have hlt:A < s.size:=by omega
   have hTA:=fun w=>HTA.out A w hlt (hst hlt)
   have hfit:=tokAt_behind (RS:=RS) HFa.out (s:=s) (a:=A)
   have hkk:=tokAt_kinds RS s A
   clear hst
   unfold TokP at hTA
   obtain ⟨t,tb,hT⟩:∃ t tb,tokAt RS s A=(t,tb):=⟨_,_,rfl⟩
   rw [hT] at h hTA hfit hkk
   simp only at h hTA hfit hkk
   clear hT
   have HT:Aside (∀ (w:World),Calls Tryz.prog 25 #[.string s,.int .i64 A] w fun e w'=>∃ k x n p b,e = .returned (.tuple #[.agg #[.int .u8 k,.string x,.int .i64 n,.int .i64 p],.int .i64 b])∧RTk t k x n p∧(t.kind≠1→b=(tb:Int))∧Below w.heap.size w w'):=hTA
   clear hTA
   by_cases hk1:t.kind=1
   ·rw [if_pos hk1] at h
    have HE:Hid _:=h
    have HK:Hid _:=hk1
    clear h hfit hkk hk1
    go_wp2_with fail
    refine Calls.mono (HBL.out _ (by omega) (by omega)) ?_
    rintro e w1 ⟨rfl,h1⟩
    subst w1
    go_wp2_with fail
    refine Calls.mono (HT.out _) ?_
    rintro e w2 ⟨k',x,m,p,b,rfl,hR,_,h2⟩
    have hk98:k'=98:=by rw [hR.kind,HK.out];rfl
    subst hk98
    have HRT:Aside (RTk t 98 x m p):=hR
    clear hR
    go_wp2_with (refine wpList_append_lies _ (by rfl) _ _ _ (by rfl) w.heap.size 43 i0 _ 4 40 Tryz.underlying36 hi0 hz0 hz1 hz2 rfl (by omega) u3 acc.length cs (by rfl) ((owns_sameT hown (fun q hq=>h2.block q (hown.lt q hq).2)).alloc _ |>.alloc _) ⟨w2.heap.size+1,0,none⟩ 1 1 [.int .u8 98,.string x,.int .i64 m,.int .i64 p] (by rfl) (by rfl) (World.news_of_block (cs:=#[.int .u8 98,.string x,.int .i64 m,.int .i64 p]) (t:=43) (fr:=(0,0)) (heap_new2 w2 _ _)) (by simp [Value.oneCell']) (by omega) (by unfold maxLen;omega) (by omega) (by have:=hb.size;have:=h2.size;simp;omega) (w2.heap.size+2) (by simp) ?_;intro g cap w6 hown6 hgrow hat hlt6;have d0:w6.cell? ⟨w2.heap.size,0,none⟩=some (.int .u8 98):=hgrow.cell (by simp) (fun e=>by have:=(hown.lt _ e.symm).2;have:=h2.size;simp only at *;omega))
    go_ret
    have hl1:(acc ++ [t]).length=acc.length+1:=by simp
    obtain ⟨_,hh | ⟨g',c',cur,hv,hg,hbk,hn2,hcap,hsz,htk⟩⟩:=hown6
    ·cases hh.1
    ·cases hv
     have hb2:Below w.heap.size w w2:=hb.trans (h2.mono hb.size)
     have hB:Below w.heap.size w w6:=((hb2.alloc hb2.size _).alloc (by have:=hb2.size;simp;omega) _).grown hgrow (by have:=hb2.size;simp;omega) (fun q hq=>(hown.lt q hq).1)
     have hto:acc ++ [t]=toks:=by rw [← ht.out,← HE.out]
     refine ⟨g,cap,by rw [← hto,hl1];rfl,hg,hlt6,?_,by rw [← hto,hl1];exact hn2,hcap,hB⟩
     rw [← hto]
     refine toksR_of_cells _ _ 0 (CellsR.snoc HRT.out hcr.out) fun i v hiv=>?_
     rw [Nat.zero_add]
     have hi3:i < (acc.length+1) * 4:=by
      have:=(List.getElem?_eq_some_iff.1 hiv).1
      have h4:=hcr.out.length
      simp at this;omega
     rw [← htk,List.getElem?_take_of_lt hi3] at hiv
     simpa [World.cell?,hbk] using hiv
   ·rw [if_neg hk1] at h
    obtain ⟨hf1,hf2⟩:=hfit hk1
    have hkb:=kbyte_end t (by omega)
    have k98:¬ kbyte t.kind=98:=fun e=>hk1 (hkb.1.1 e)
    have k101:¬ kbyte t.kind=101:=fun e=>by have:=hkb.2.1 e;omega
    have HE:Hid _:=h
    have HK:Hid _:=hk1
    clear h hfit hkk hk1 hkb
    go_wp2_with fail
    refine Calls.mono (HBL.out _ (by omega) (by omega)) ?_
    rintro e w1 ⟨rfl,h1⟩
    subst w1
    go_wp2_with fail
    refine Calls.mono (HT.out _) ?_
    rintro e w2 ⟨k',x,m,p,b,rfl,hR,hbb,h2⟩
    have hbb:=hbb HK.out
    subst hbb
    have HRT:Aside (RTk t k' x m p):=hR
    rw [← hR.kind] at k98 k101
    have n98:(k' == 98)=false:=by simpa using k98
    have n101:(k' == 101)=false:=by simpa using k101
    clear hR
    go_wp2_with (refine wpList_append_lies _ (by rfl) _ _ _ (by rfl) w.heap.size 43 i0 _ 4 40 Tryz.underlying36 hi0 hz0 hz1 hz2 rfl (by omega) u3 acc.length cs (by rfl) ((owns_sameT hown (fun q hq=>h2.block q (hown.lt q hq).2)).alloc _ |>.alloc _) ⟨w2.heap.size+1,0,none⟩ 1 1 [.int .u8 k',.string x,.int .i64 m,.int .i64 p] (by rfl) (by rfl) (World.news_of_block (cs:=#[.int .u8 k',.string x,.int .i64 m,.int .i64 p]) (t:=43) (fr:=(0,0)) (heap_new2 w2 _ _)) (by simp [Value.oneCell']) (by omega) (by unfold maxLen;omega) (by omega) (by have:=hb.size;have:=h2.size;simp;omega) (w2.heap.size+2) (by simp) ?_;intro g cap w6 hown6 hgrow hat hlt6;have d0:w6.cell? ⟨w2.heap.size,0,none⟩=some (.int .u8 k'):=hgrow.cell (by simp) (fun e=>by have:=(hown.lt _ e.symm).2;have:=h2.size;simp only at *;omega))
    go_roundg k
    case measure=>omega
    case rel =>
     refine ⟨acc ++ [t],cs ++ [.int .u8 k',.string x,.int .i64 m,.int .i64 p],tb,lexT RS s k tb,hf2,rfl,?_,?_,show CellsR _ _ from CellsR.snoc HRT.out hcr.out,by simp;omega,by omega,show _=_ from rfl,show _=_ from ?_⟩
     ·have hb2:Below w.heap.size w w2:=hb.trans (h2.mono hb.size)
      exact ((hb2.alloc hb2.size _).alloc (by have:=hb2.size;simp;omega) _).grown hgrow (by have:=hb2.size;simp;omega) (fun q hq=>(hown.lt q hq).1)
     ·rw [List.length_append,List.length_singleton];exact hown6
     ·rw [← ht.out,← HE.out];simp
end Go.Proofs.Tryz
namespace Go.Proofs.Tryz
set_option maxHeartbeats 16000000
open Go.RowKit
set_option maxRecDepth 10000
abbrev Kn:=Int×ByteArray×Nat
def kcells:List Kn→List Value
 | []=>[]
 | k :: l=>.int .u8 k.1 :: .string k.2.1 :: .int .i64 k.2.2 :: kcells l
theorem kcells_length:∀ l,(kcells l).length=l.length * 3
 | []=>rfl
 | k :: l=>by simp [kcells,kcells_length l];omega
theorem kcells_append:∀ a b,kcells (a ++ b)=kcells a ++ kcells b
 | [],_=>rfl
 | k :: a,b=>by simp [kcells,kcells_append a b]
theorem kcells_take:∀ (n:Nat) (l:List Kn),kcells (l.take n)=(kcells l).take (n * 3)
 | 0,l=>by simp [kcells]
 | n+1,[]=>by simp [kcells]
 | n+1,k :: l=>by
  rw [List.take_succ_cons,show (n+1) * 3=n * 3+3 by omega]
  simp [kcells,kcells_take n l]
structure Okt (t:Tok):Prop where
 size:t.text.size≤2000
 word:t.kind=3→isWordB t.text.data.toList=true
 nword:t.kind=7→isWordB t.text.data.toList=false
 sign:t.kind=3∨t.kind=7→32 ∉ t.text.data.toList∧t.text.data.toList≠[]
 k0:0≤t.kind
 k7:t.kind≤7
 pos:0≤t.pos
 name:t.kind=2→∀ c∈t.text.data.toList,(isLetterB c || isDigitB c)=true
structure RRa (w:World) (rb g cap:Nat) (F:List Tok) (I:Nat) (bad lost:Int) (nv:Value) (K:List Kn):Prop where
 c0:w.cell? ⟨rb,0,none⟩=some (.slice (some ⟨g,0,none⟩) F.length cap)
 c1:w.cell? ⟨rb,1,none⟩=some (.int .i64 I)
 c2:w.cell? ⟨rb,2,none⟩=some (.int .i64 bad)
 c3:w.cell? ⟨rb,3,none⟩=some (.int .i64 lost)
 c4:w.cell? ⟨rb,4,none⟩=some nv
 fz:∀ o,w.frozen? ⟨rb,o,none⟩=false
 toks:ToksR w g 0 F
 names:w.ownsRow 0 76 3 nv K.length (kcells K)
 ne:g≠rb
 nrb:nv.ownBlock≠some rb
 ng:nv.ownBlock≠some g
 gs:g < w.heap.size
 cap1:F.length≤cap
 cap2:cap≤maxLen
 lt:I < F.length
 len:F.length≤3000
 okt:∀ t∈F,Okt t
theorem ToksR.same {w w':World}{g:Nat} (h:w'.heap[g]? = w.heap[g]?):∀ {l:List Tok}{o:Nat},ToksR w g o l→ToksR w' g o l
 | [],_,_=>trivial
 | t :: l,o,⟨⟨k,x,n,p,a,c0,c1,c2,c3⟩,r⟩=>⟨⟨k,x,n,p,a,(World.cell?_of_block (w:=w) h).trans c0,(World.cell?_of_block (w:=w) h).trans c1,(World.cell?_of_block (w:=w) h).trans c2,(World.cell?_of_block (w:=w) h).trans c3⟩,ToksR.same h r⟩
section
variable {w w' : World} {rb g cap I : Nat} {F : List Tok} {bad lost : Int} {nv : Value} {K : List Kn}
theorem RRa.rbs (h:RRa w rb g cap F I bad lost nv K):rb < w.heap.size:=cell_lt h.c0
theorem RRa.same (h:RRa w rb g cap F I bad lost nv K) (hr:w'.heap[rb]? = w.heap[rb]?) (hg:w'.heap[g]? = w.heap[g]?) (hn:∀ b,nv.ownBlock=some b→w'.heap[b]? = w.heap[b]?) (hs:w.heap.size≤w'.heap.size):RRa w' rb g cap F I bad lost nv K :=
 ⟨(World.cell?_of_block (w:=w) hr).trans h.c0,(World.cell?_of_block (w:=w) hr).trans h.c1,(World.cell?_of_block (w:=w) hr).trans h.c2,(World.cell?_of_block (w:=w) hr).trans h.c3,(World.cell?_of_block (w:=w) hr).trans h.c4,fun o=>(World.frozen?_of_block (w:=w) hr).trans (h.fz o),h.toks.same hg,owns_sameT h.names hn,h.ne,h.nrb,h.ng,Nat.lt_of_lt_of_le h.gs hs,h.cap1,h.cap2,h.lt,h.len,h.okt⟩
theorem RRa.below (h:RRa w rb g cap F I bad lost nv K) (k:Below w.heap.size w w'):RRa w' rb g cap F I bad lost nv K :=
 h.same (k.block _ h.rbs) (k.block _ h.gs) (fun b hb=>k.block _ (h.names.lt b hb).2) k.size
theorem RRa.set1 (h:RRa w rb g cap F I bad lost nv K) {J:Nat} (hJ:J < F.length):RRa (w.setCell ⟨rb,1,none⟩ (.int .i64 J)) rb g cap F J bad lost nv K:=by
 have o:∀ i,i≠1→(w.setCell ⟨rb,1,none⟩ (.int .i64 J)).cell? ⟨rb,i,none⟩=w.cell? ⟨rb,i,none⟩:=fun i hi=>World.cell?_setCell_other _ _ _ _ (by intro h;cases h;exact hi rfl)
 have hb:∀ k,k≠rb→(w.setCell ⟨rb,1,none⟩ (.int .i64 J)).heap[k]? = w.heap[k]?:=fun k hk=>Below.heap_setCell _ _ _ _ (by simpa using hk)
 exact ⟨(o _ (by decide)).trans h.c0,World.cell?_setCell_same _ _ _ h.c1,(o _ (by decide)).trans h.c2,(o _ (by decide)).trans h.c3,(o _ (by decide)).trans h.c4,fun i=>by rw [World.frozen?_setCell];exact h.fz i,h.toks.same (hb _ h.ne),owns_sameT h.names (fun b e=>hb b (fun e2=>h.nrb (e2 ▸ e))),h.ne,h.nrb,h.ng,by simpa using h.gs,h.cap1,h.cap2,hJ,h.len,h.okt⟩
theorem RRa.set2 (h:RRa w rb g cap F I bad lost nv K) (b:Int):RRa (w.setCell ⟨rb,2,none⟩ (.int .i64 b)) rb g cap F I b lost nv K:=by
 have o:∀ i,i≠2→(w.setCell ⟨rb,2,none⟩ (.int .i64 b)).cell? ⟨rb,i,none⟩=w.cell? ⟨rb,i,none⟩:=fun i hi=>World.cell?_setCell_other _ _ _ _ (by intro h;cases h;exact hi rfl)
 have hb:∀ k,k≠rb→(w.setCell ⟨rb,2,none⟩ (.int .i64 b)).heap[k]? = w.heap[k]?:=fun k hk=>Below.heap_setCell _ _ _ _ (by simpa using hk)
 exact ⟨(o _ (by decide)).trans h.c0,(o _ (by decide)).trans h.c1,World.cell?_setCell_same _ _ _ h.c2,(o _ (by decide)).trans h.c3,(o _ (by decide)).trans h.c4,fun i=>by rw [World.frozen?_setCell];exact h.fz i,h.toks.same (hb _ h.ne),owns_sameT h.names (fun b e=>hb b (fun e2=>h.nrb (e2 ▸ e))),h.ne,h.nrb,h.ng,by simpa using h.gs,h.cap1,h.cap2,h.lt,h.len,h.okt⟩
theorem RRa.set3 (h:RRa w rb g cap F I bad lost nv K) (b:Int):RRa (w.setCell ⟨rb,3,none⟩ (.int .i64 b)) rb g cap F I bad b nv K:=by
 have o:∀ i,i≠3→(w.setCell ⟨rb,3,none⟩ (.int .i64 b)).cell? ⟨rb,i,none⟩=w.cell? ⟨rb,i,none⟩:=fun i hi=>World.cell?_setCell_other _ _ _ _ (by intro h;cases h;exact hi rfl)
 have hb:∀ k,k≠rb→(w.setCell ⟨rb,3,none⟩ (.int .i64 b)).heap[k]? = w.heap[k]?:=fun k hk=>Below.heap_setCell _ _ _ _ (by simpa using hk)
 exact ⟨(o _ (by decide)).trans h.c0,(o _ (by decide)).trans h.c1,(o _ (by decide)).trans h.c2,World.cell?_setCell_same _ _ _ h.c3,(o _ (by decide)).trans h.c4,fun i=>by rw [World.frozen?_setCell];exact h.fz i,h.toks.same (hb _ h.ne),owns_sameT h.names (fun b e=>hb b (fun e2=>h.nrb (e2 ▸ e))),h.ne,h.nrb,h.ng,by simpa using h.gs,h.cap1,h.cap2,h.lt,h.len,h.okt⟩
theorem ToksR.get:∀ {F:List Tok}{o I:Nat}{t:Tok},ToksR w g o F→F[I]? = some t→∃ k x n p,RTk t k x n p∧w.cell? ⟨g,o+I * 4,none⟩=some (.int .u8 k)∧w.cell? ⟨g,o+I * 4+1,none⟩=some (.string x)∧w.cell? ⟨g,o+I * 4+2,none⟩=some (.int .i64 n)∧w.cell? ⟨g,o+I * 4+3,none⟩=some (.int .i64 p)
 | [],_,_,_,_,h=>by simp at h
 | u :: F,o,0,t,⟨h1,_⟩,h=>by
  simp only [List.getElem?_cons_zero,Option.some.injEq] at h
  subst h
  simpa using h1
 | u :: F,o,I+1,t,⟨_,h2⟩,h=>by
  obtain ⟨k,x,n,p,h⟩:=ToksR.get h2 (by simpa using h)
  refine ⟨k,x,n,p,?_⟩
  rw [show o+(I+1) * 4=o+4+I * 4 by omega]
  exact h
def HandP (t:Tok) (w:World) (e:Ending) (w':World):Prop:=∃ k x n p,e = .returned (.agg #[.int .u8 k,.string x,.int .i64 n,.int .i64 p])∧RTk t k x n p∧Below w.heap.size w w'
theorem hand_ok {t:Tok} (h:RRa w rb g cap F I bad lost nv K) (ht:F[I]? = some t) :
  Calls Tryz.prog 11 #[.pointer (some ⟨rb,0,none⟩)] w (HandP t w):=by
 obtain ⟨k,x,n,p,hR,d0,d1,d2,d3⟩:=h.toks.get ht
 have hlt:=h.lt
 have hlen:=h.len
 have c0:=h.c0
 have c1:=h.c1
 have hrb:=h.rbs
 have hg:=h.gs
 simp only [Nat.zero_add] at d0 d1 d2 d3
 have i1:(I:Int) < (F.length:Int):=by omega
 have HR:Aside (RTk t k x n p):=hR
 obtain ⟨N,hN⟩:∃ N,F.length=N:=⟨_,rfl⟩
 rw [hN] at c0 i1 hlt hlen
 clear h ht hR hN
 go_enter Tryz.func11,Tryz.ntmps11
 go_wp2_with fail
 go_region
 go_wp2_with fail
 exact bodyPost_ret (v:=.agg #[.int .u8 k,.string x,.int .i64 n,.int .i64 p]) (by simp [results,Tryz.results11,go_sem]) rfl ⟨k,x,n,p,rfl,HR.out,(below_alloc _ _).drew⟩
end
end Go.Proofs.Tryz
