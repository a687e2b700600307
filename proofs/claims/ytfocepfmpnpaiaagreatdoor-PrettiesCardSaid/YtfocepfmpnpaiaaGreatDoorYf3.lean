import Derived.Test.YtfocepfmpnpaiaaGreatDoorYg1
import Derived.Test.YtfocepfmpnpaiaaGreatDoorYe4
import Derived.BigQuiet
set_option linter.all false
namespace Go.Proofs.Tryz
set_option maxHeartbeats 16000000
open Go.RowKit
set_option maxRecDepth 10000
def namedT (k:Int) (s:ByteArray) (pos:Int):Tok:=(namedB k s pos).getD ⟨1,⟨#[]⟩,pos⟩
theorem named_any (k:Int) (s:ByteArray) (pos:Int) (w:World) (hs:s.size≤100000) :
  Calls Tryz.prog 63 #[.int .u8 k,.string s,.int .i64 pos] w fun e w'=>e = .returned (.agg #[.int .u8 (namedT k s pos).kind,.string (namedT k s pos).text,.int .i64 (namedT k s pos).pos])∧Below w.heap.size w w':=by
 cases h:namedB k s pos with
 | some t =>
  rw [show namedT k s pos=t by simp [namedT,h]]
  exact named_ok k s pos t w hs h
 | none =>
  rw [show namedT k s pos=⟨1,⟨#[]⟩,pos⟩ by simp [namedT,h]]
  have hc:s.data.toList=[]∨20 < s.size:=by
   unfold namedB at h
   split at h
   ·assumption
   ·split at h <;> cases h
  by_cases h0:s.data.toList=[]
  ·have h0:s.toList.isEmpty=true:=by rw [ByteArray.toList_eq,h0];rfl
   clear hc h
   go_enter Tryz.func63,Tryz.ntmps63
   go_wp2_with fail
   exact bodyPost_ret (v:=.agg #[.int .u8 1,.string ⟨#[]⟩,.int .i64 pos]) (by simp [results,Tryz.results63,go_sem]) rfl ⟨rfl,(Below.refl _ _).alloc (Nat.le_refl _) _⟩
  ·have h20:(20:Int) < (s.size:Int):=by rcases hc with e | e;exact absurd e h0;omega
   have h1:s.toList.isEmpty=false:=by
    rw [ByteArray.toList_eq,List.isEmpty_eq_false_iff];exact h0
   clear hc h h0
   go_enter Tryz.func63,Tryz.ntmps63
   go_wp2_with fail
   exact bodyPost_ret (v:=.agg #[.int .u8 1,.string ⟨#[]⟩,.int .i64 pos]) (by simp [results,Tryz.results63,go_sem]) rfl ⟨rfl,(Below.refl _ _).alloc (Nat.le_refl _) _⟩
end Go.Proofs.Tryz
namespace Go.Proofs.Tryz
set_option maxHeartbeats 16000000
open Go.RowKit
set_option maxRecDepth 10000
def longT (RS:ByteArray→Nat→ByteArray×Int×Bool) (s:ByteArray) (a:Nat):Tok×Int :=
 match s.data.toList.drop a with
 | []=>(⟨1,⟨#[]⟩,a⟩,a)
 | c :: l =>
  if isLetterB c then (namedT 2 (s.extract a (a+nameLen (c :: l))) a,((a+nameLen (c :: l):Nat):Int))
  else if c == 36 then (namedT 4 (s.extract (a+1) (a+1+nameLen l)) a,((a+1+nameLen l:Nat):Int))
  else if isDigitB c then (if digLen (c :: l)≤18 then (⟨5,s.extract a (a+digLen (c :: l)),a⟩,((a+digLen (c :: l):Nat):Int)) else (⟨1,⟨#[]⟩,a⟩,a))
  else if c == 34 then (if (RS s a).2.2 then (⟨6,(RS s a).1,a⟩,(RS s a).2.1) else (⟨1,⟨#[]⟩,a⟩,a))
  else (⟨1,⟨#[]⟩,a⟩,a)
def ReadsStr (RS:ByteArray→Nat→ByteArray×Int×Bool):Prop:=∀ (s:ByteArray) (a:Nat) (w:World),a < s.size→s.size≤100000→
 Calls Tryz.prog 65 #[.string s,.int .i64 a] w fun e w'=>e = .returned (.tuple #[.string (RS s a).1,.int .i64 (RS s a).2.1,.bool (RS s a).2.2])∧Below w.heap.size w w'
theorem readLong_any {RS:ByteArray→Nat→ByteArray×Int×Bool} (hRS:ReadsStr RS) (s:ByteArray) (a:Nat) (w:World) (hs:s.size≤100000) (ha:a < s.size) :
  Calls Tryz.prog 36 #[.string s,.int .i64 a] w fun e w'=>e = .returned (.tuple #[.agg #[.int .u8 (longT RS s a).1.kind,.string (longT RS s a).1.text,.int .i64 (longT RS s a).1.pos],.int .i64 (longT RS s a).2])∧Below w.heap.size w w':=by
 have ha':(a:Int) < (s.size:Int):=by omega
 have hd:=drop_at s a ha
 obtain ⟨R,h⟩:∃ R,longT RS s a=R:=⟨_,rfl⟩
 rw [h]
 unfold longT at h
 rw [hd] at h
 simp only at h
 have HD:Hid _:=hd
 clear hd
 have HRS:Aside (ReadsStr RS):=hRS
 clear hRS
 split at h
 ·rename_i hl
  subst h
  have hle:=nameLen_le (s[a] :: s.data.toList.drop (a+1))
  rw [← HD.out] at hle ⊢
  simp only [List.length_drop,size_list] at hle
  obtain ⟨N,hN⟩:∃ N,nameLen (s.data.toList.drop a)=N:=⟨_,rfl⟩
  rw [hN] at hle ⊢
  have HN:Hid _:=hN
  clear hN
  go_enter Tryz.func36,Tryz.ntmps36
  go_wp2_with (first
   | (go_at_call 61;refine (isLetter_any _ _).mono ?_;rintro e w1 ⟨rfl,h1⟩;subst w1;rw [hl])
   | (go_at_call 62;refine (nameEnd_any s a _ hs (by omega)).mono ?_;rintro e w1 ⟨rfl,h1⟩;subst w1;rw [HN.out])
   | (go_at_call 63;refine (named_any 2 _ _ _ (extract_size s _ _ hs)).mono ?_;rintro e w1 ⟨rfl,h1⟩;obtain ⟨q1,q2⟩:=bcell h1;have q3:=h1.size;simp at q1 q2 q3))
  exact bodyPost_ret (v:=.tuple #[.agg #[.int .u8 (namedT 2 (s.extract a (a+N)) a).kind,.string (namedT 2 (s.extract a (a+N)) a).text,.int .i64 (namedT 2 (s.extract a (a+N)) a).pos],.int .i64 ((a+N:Nat):Int)]) (by simp [results,Tryz.results36,go_sem,q1]) rfl
   ⟨rfl,(((((Below.refl _ _).alloc (Nat.le_refl _) _).trans (h1.mono (by simp))).setCell (Nat.le_refl _) _).setCell (Nat.le_refl _) _).setCell (Nat.le_refl _) _⟩
 ·rename_i hl
  have hl:isLetterB s[a]=false:=by simpa using hl
  split at h
  ·rename_i hdol
   have hdol:((s[a].toNat:Nat):Int)=36:=by
    have:s[a]=36:=by simpa using hdol
    rw [this];rfl
   subst h
   have hle:=nameLen_le (s.data.toList.drop (a+1))
   simp only [List.length_drop,size_list] at hle
   obtain ⟨N,hN⟩:∃ N,nameLen (s.data.toList.drop (a+1))=N:=⟨_,rfl⟩
   rw [hN] at hle ⊢
   have HN:Hid _:=hN
   clear hN
   go_enter Tryz.func36,Tryz.ntmps36
   go_wp2_with (first
    | (go_at_call 61;refine (isLetter_36 _).mono ?_;rintro e w1 ⟨rfl,h1⟩;subst w1)
    | (go_at_call 62;refine (nameEnd_at s (a+1) _ _ hs (by omega) (by omega)).mono ?_;rintro e w1 ⟨rfl,h1⟩;subst w1;rw [HN.out])
    | (go_at_call 63;refine (named_any 4 _ _ _ (extract_size s _ _ hs)).mono ?_;rintro e w1 ⟨rfl,h1⟩;obtain ⟨q1,q2⟩:=bcell h1;have q3:=h1.size;simp at q1 q2 q3))
   exact bodyPost_ret (v:=.tuple #[.agg #[.int .u8 (namedT 4 (s.extract (a+1) (a+1+N)) a).kind,.string (namedT 4 (s.extract (a+1) (a+1+N)) a).text,.int .i64 (namedT 4 (s.extract (a+1) (a+1+N)) a).pos],.int .i64 ((a+1+N:Nat):Int)]) (by simp [results,Tryz.results36,go_sem,q1]) rfl
    ⟨rfl,(((((Below.refl _ _).alloc (Nat.le_refl _) _).trans (h1.mono (by simp))).setCell (Nat.le_refl _) _).setCell (Nat.le_refl _) _).setCell (Nat.le_refl _) _⟩
  ·rename_i hdol
   have hdol:¬ ((s[a].toNat:Nat):Int)=36:=by
    intro e
    have:s[a]=36:=by rw [← UInt8.toNat_inj];show s[a].toNat=36;omega
    exact hdol (by simp [this])
   split at h
   ·rename_i hdg
    split at h
    ·rename_i h18
     subst h
     have hle:=digLen_le (s[a] :: s.data.toList.drop (a+1))
     rw [← HD.out] at hle h18 ⊢
     simp only [List.length_drop,size_list] at hle
     obtain ⟨N,hN⟩:∃ N,digLen (s.data.toList.drop a)=N:=⟨_,rfl⟩
     rw [hN] at hle h18 ⊢
     have HN:Hid _:=hN
     clear hN
     go_enter Tryz.func36,Tryz.ntmps36
     go_wp2_with (first
      | (go_at_call 61;refine (isLetter_any _ _).mono ?_;rintro e w1 ⟨rfl,h1⟩;subst w1;rw [hl])
      | (go_at_call 64;refine (isDigit_any _ _).mono ?_;rintro e w1 ⟨rfl,h1⟩;subst w1;rw [hdg]))
     go_loop [9] (fun t=>∃ k:Nat,a≤k∧k≤s.size∧t = .int .i64 k∧digLen (s.data.toList.drop k)+k=a+N) (fun t=>s.size - (intOf t).toNat)
     case atStart=>exact ⟨a,Nat.le_refl _,by omega,rfl,by rw [HN.out];omega⟩
     case round =>
      obtain ⟨k,hk1,hk2,rfl,hk⟩:=hrel
      by_cases hlt:k < s.size
      ·rw [drop_at s k hlt] at hk
       have HK:Hid _:=hk
       clear hk
       by_cases hd2:isDigitB s[k]=true
       ·go_wp2_with (go_at_call 64;refine (isDigit_any _ _).mono ?_;rintro e w1 ⟨rfl,h1⟩;subst w1;rw [hd2])
        go_round
        case rel =>
         refine ⟨k+1,by omega,by omega,by go_num,?_⟩
         have h:=HK.out
         simp only [digLen,hd2,if_true] at h;omega
        case measure=>simp [intOf];omega
       ·have hd2:isDigitB s[k]=false:=by simpa using hd2
        have hkN:k=a+N:=by have h:=HK.out;simp only [digLen,hd2,Bool.false_eq_true,if_false] at h;omega
        clear HK
        subst hkN
        go_wp2_with (go_at_call 64;refine (isDigit_any _ _).mono ?_;rintro e w1 ⟨rfl,h1⟩;subst w1;rw [hd2])
        exact bodyPost_ret (v:=.tuple #[.agg #[.int .u8 5,.string (s.extract a (a+N)),.int .i64 a],.int .i64 ((a+N:Nat):Int)]) (by simp [results,Tryz.results36,go_sem]) rfl ⟨rfl,(Below.refl _ _).alloc (Nat.le_refl _) _⟩
      ·have he:k=s.size:=by omega
       have hdrop:s.data.toList.drop k=[]:=List.drop_eq_nil_of_le (by simp;exact Nat.le_of_eq he.symm)
       rw [hdrop] at hk
       have hkN:k=a+N:=by simp only [digLen] at hk;omega
       clear hk hdrop he
       subst hkN
       have hge:¬ ((a:Int)+(N:Int)) < (s.size:Int):=by omega
       go_wp2_with fail
       exact bodyPost_ret (v:=.tuple #[.agg #[.int .u8 5,.string (s.extract a (a+N)),.int .i64 a],.int .i64 ((a+N:Nat):Int)]) (by simp [results,Tryz.results36,go_sem]) rfl ⟨rfl,(Below.refl _ _).alloc (Nat.le_refl _) _⟩
    ·rename_i h18
     subst h
     have hle:=digLen_le (s[a] :: s.data.toList.drop (a+1))
     rw [← HD.out] at hle h18
     simp only [List.length_drop,size_list] at hle
     obtain ⟨N,hN⟩:∃ N,digLen (s.data.toList.drop a)=N:=⟨_,rfl⟩
     rw [hN] at hle h18
     have HN:Hid _:=hN
     clear hN
     go_enter Tryz.func36,Tryz.ntmps36
     go_wp2_with (first
      | (go_at_call 61;refine (isLetter_any _ _).mono ?_;rintro e w1 ⟨rfl,h1⟩;subst w1;rw [hl])
      | (go_at_call 64;refine (isDigit_any _ _).mono ?_;rintro e w1 ⟨rfl,h1⟩;subst w1;rw [hdg]))
     go_loop [9] (fun t=>∃ k:Nat,a≤k∧k≤s.size∧t = .int .i64 k∧digLen (s.data.toList.drop k)+k=a+N) (fun t=>s.size - (intOf t).toNat)
     case atStart=>exact ⟨a,Nat.le_refl _,by omega,rfl,by rw [HN.out];omega⟩
     case round =>
      obtain ⟨k,hk1,hk2,rfl,hk⟩:=hrel
      by_cases hlt:k < s.size
      ·rw [drop_at s k hlt] at hk
       have HK:Hid _:=hk
       clear hk
       by_cases hd2:isDigitB s[k]=true
       ·go_wp2_with (go_at_call 64;refine (isDigit_any _ _).mono ?_;rintro e w1 ⟨rfl,h1⟩;subst w1;rw [hd2])
        go_round
        case rel =>
         refine ⟨k+1,by omega,by omega,by go_num,?_⟩
         have h:=HK.out
         simp only [digLen,hd2,if_true] at h;omega
        case measure=>simp [intOf];omega
       ·have hd2:isDigitB s[k]=false:=by simpa using hd2
        have hkN:k=a+N:=by have h:=HK.out;simp only [digLen,hd2,Bool.false_eq_true,if_false] at h;omega
        clear HK
        subst hkN
        go_wp2_with (go_at_call 64;refine (isDigit_any _ _).mono ?_;rintro e w1 ⟨rfl,h1⟩;subst w1;rw [hd2])
        exact bodyPost_ret (v:=.tuple #[.agg #[.int .u8 1,.string ⟨#[]⟩,.int .i64 a],.int .i64 a]) (by simp [results,Tryz.results36,go_sem]) rfl ⟨rfl,(Below.refl _ _).alloc (Nat.le_refl _) _⟩
      ·have he:k=s.size:=by omega
       have hdrop:s.data.toList.drop k=[]:=List.drop_eq_nil_of_le (by simp;exact Nat.le_of_eq he.symm)
       rw [hdrop] at hk
       have hkN:k=a+N:=by simp only [digLen] at hk;omega
       clear hk hdrop he
       subst hkN
       have hge:¬ ((a:Int)+(N:Int)) < (s.size:Int):=by omega
       go_wp2_with fail
       exact bodyPost_ret (v:=.tuple #[.agg #[.int .u8 1,.string ⟨#[]⟩,.int .i64 a],.int .i64 a]) (by simp [results,Tryz.results36,go_sem]) rfl ⟨rfl,(Below.refl _ _).alloc (Nat.le_refl _) _⟩
   ·rename_i hdg
    have hdg:isDigitB s[a]=false:=by simpa using hdg
    split at h
    ·rename_i hqt
     have hqt:((s[a].toNat:Nat):Int)=34:=by
      have:s[a]=34:=by simpa using hqt
      rw [this];rfl
     have HS:Aside (∀ w,Calls Tryz.prog 65 #[.string s,.int .i64 a] w fun e w'=>e = .returned (.tuple #[.string (RS s a).1,.int .i64 (RS s a).2.1,.bool (RS s a).2.2])∧Below w.heap.size w w'):=fun w=>HRS.out s a w ha hs
     clear HD
     obtain ⟨⟨c,z,ok⟩,hc⟩:∃ q,RS s a=q:=⟨_,rfl⟩
     rw [hc] at HS h
     clear hc
     cases ok with
     | true =>
      simp only [if_true] at h
      subst h
      go_enter Tryz.func36,Tryz.ntmps36
      go_wp2_with (first
       | (go_at_call 61;refine (isLetter_34 _).mono ?_;rintro e w1 ⟨rfl,h1⟩;subst w1)
       | (go_at_call 64;refine (isDigit_34 _).mono ?_;rintro e w1 ⟨rfl,h1⟩;subst w1)
       | (go_at_call 65;refine Calls.mono (HS.out _) ?_;rintro e w1 ⟨rfl,h1⟩;obtain ⟨q1,q2⟩:=bcell h1;have q3:=h1.size;simp at q1 q2 q3))
      exact bodyPost_ret (v:=.tuple #[.agg #[.int .u8 6,.string c,.int .i64 a],.int .i64 z]) (by simp [results,Tryz.results36,go_sem,q1]) rfl
       ⟨rfl,(((((Below.refl _ _).alloc (Nat.le_refl _) _).trans (h1.mono (by simp))).setCell (Nat.le_refl _) _).setCell (Nat.le_refl _) _).setCell (Nat.le_refl _) _⟩
     | false =>
      simp only [Bool.false_eq_true,if_false] at h
      subst h
      go_enter Tryz.func36,Tryz.ntmps36
      go_wp2_with (first
       | (go_at_call 61;refine (isLetter_34 _).mono ?_;rintro e w1 ⟨rfl,h1⟩;subst w1)
       | (go_at_call 64;refine (isDigit_34 _).mono ?_;rintro e w1 ⟨rfl,h1⟩;subst w1)
       | (go_at_call 65;refine Calls.mono (HS.out _) ?_;rintro e w1 ⟨rfl,h1⟩;obtain ⟨q1,q2⟩:=bcell h1;have q3:=h1.size;simp at q1 q2 q3))
      exact bodyPost_ret (v:=.tuple #[.agg #[.int .u8 1,.string ⟨#[]⟩,.int .i64 a],.int .i64 a]) (by simp [results,Tryz.results36,go_sem,q1]) rfl
       ⟨rfl,(((((Below.refl _ _).alloc (Nat.le_refl _) _).trans (h1.mono (by simp))).setCell (Nat.le_refl _) _).setCell (Nat.le_refl _) _).setCell (Nat.le_refl _) _⟩
    ·rename_i hqt
     subst h
     have hqt:¬ ((s[a].toNat:Nat):Int)=34:=by
      intro e
      have:s[a]=34:=by rw [← UInt8.toNat_inj];show s[a].toNat=34;omega
      exact hqt (by simp [this])
     go_enter Tryz.func36,Tryz.ntmps36
     go_wp2_with (first
      | (go_at_call 61;refine (isLetter_any _ _).mono ?_;rintro e w1 ⟨rfl,h1⟩;subst w1;rw [hl])
      | (go_at_call 64;refine (isDigit_any _ _).mono ?_;rintro e w1 ⟨rfl,h1⟩;subst w1;rw [hdg]))
     exact bodyPost_ret (v:=.tuple #[.agg #[.int .u8 1,.string ⟨#[]⟩,.int .i64 a],.int .i64 a]) (by simp [results,Tryz.results36,go_sem]) rfl ⟨rfl,(Below.refl _ _).alloc (Nat.le_refl _) _⟩
end Go.Proofs.Tryz
namespace Go.Proofs.Tryz
set_option maxHeartbeats 16000000
open Go.RowKit
set_option maxRecDepth 10000
def lexT (RS:ByteArray→Nat→ByteArray×Int×Bool) (s:ByteArray):Nat→Nat→List Tok
 | 0,a=>[⟨1,⟨#[]⟩,(a:Nat)⟩]
 | n+1,a =>
  if s.size≤a+blanks (s.data.toList.drop a) then [⟨0,⟨#[]⟩,(a+blanks (s.data.toList.drop a):Nat)⟩]
  else match signsB.find? (fun p=>prefixB p.data.toList (s.data.toList.drop (a+blanks (s.data.toList.drop a)))) with
   | some p=>⟨7,p,(a+blanks (s.data.toList.drop a):Nat)⟩ :: lexT RS s n (a+blanks (s.data.toList.drop a)+p.size)
   | none=>if (longT RS s (a+blanks (s.data.toList.drop a))).1.kind=1 then [(longT RS s (a+blanks (s.data.toList.drop a))).1]
    else (longT RS s (a+blanks (s.data.toList.drop a))).1 :: lexT RS s n (longT RS s (a+blanks (s.data.toList.drop a))).2.toNat
def FitsStr (RS:ByteArray→Nat→ByteArray×Int×Bool):Prop:=∀ s a,(RS s a).2.2=true→(a:Int) < (RS s a).2.1∧(RS s a).2.1≤(s.size:Int)
theorem namedT_kind {k:Int}{x:ByteArray}{p:Int} (h:¬ (namedT k x p).kind=1):x.data.toList≠[]:=by
 intro e
 apply h
 unfold namedT namedB
 simp [e]
theorem nameLen_extract {s:ByteArray}{a n:Nat} (h:(s.extract a (a+n)).data.toList≠[]):0 < n:=by
 rcases Nat.eq_zero_or_pos n with e | e
 ·subst e
  exact absurd (by rw [extract_list];simp) h
 ·exact e
theorem longT_fit {RS:ByteArray→Nat→ByteArray×Int×Bool} (hF:FitsStr RS) {s:ByteArray}{a:Nat} (hk:¬ (longT RS s a).1.kind=1):∃ b:Nat,(longT RS s a).2=b∧a < b∧b≤s.size:=by
 obtain ⟨R,h⟩:∃ R,longT RS s a=R:=⟨_,rfl⟩
 rw [h] at hk ⊢
 unfold longT at h
 cases e:s.data.toList.drop a with
 | nil=>rw [e] at h;subst h;exact absurd rfl hk
 | cons c l =>
  have hl:(s.data.toList.drop a).length=l.length+1:=by rw [e];rfl
  simp only [List.length_drop,size_list] at hl
  have h1:=nameLen_le (c :: l)
  have h2:=nameLen_le l
  have h3:=digLen_le (c :: l)
  simp only [List.length_cons] at h1 h3
  rw [e] at h
  simp only at h
  split at h
  ·subst h
   have:=nameLen_extract (namedT_kind hk)
   exact ⟨_,rfl,by omega,by omega⟩
  ·split at h
   ·subst h
    have:=nameLen_extract (namedT_kind hk)
    exact ⟨_,rfl,by omega,by omega⟩
   ·split at h
    ·rename_i hd
     split at h
     ·subst h
      refine ⟨_,rfl,?_,by omega⟩
      have:0 < digLen (c :: l):=by simp [digLen,hd]
      omega
     ·subst h;exact absurd rfl hk
    ·split at h
     ·split at h
      ·rename_i hok
       subst h
       have:=hF s a hok
       exact ⟨(RS s a).2.1.toNat,by show (RS s a).2.1=_;omega,by omega,by omega⟩
      ·subst h;exact absurd rfl hk
     ·subst h;exact absurd rfl hk
theorem readTokens_any {RS:ByteArray→Nat→ByteArray×Int×Bool} (hRS:ReadsStr RS) (hF:FitsStr RS) (s:ByteArray) (n:Nat) (toks:List Tok) (w:World) (hs:s.size≤2000) (hn:n≤3000) (hn2:s.size < n) (hS:SignsIn w) (h:lexT RS s n 0=toks) :
  Calls Tryz.prog 20 #[.string s] w fun e w'=>∃ g cap,e = .returned (.slice (some ⟨g,0,none⟩) toks.length cap)∧w.heap.size≤g∧g < w'.heap.size∧Toks w' g 0 toks∧toks.length≤cap∧cap≤maxLen∧Below w.heap.size w w'∧Free w' g:=by
 obtain ⟨i0,hi0,hz0,hz1,hz2⟩:=info_parts info_token
 obtain ⟨cs,hcs⟩:∃ cs,signsB.map Value.string=cs:=⟨_,rfl⟩
 have hcl:cs.length=27:=by rw [← hcs];rfl
 go_enter Tryz.func20,Tryz.ntmps20
 go_wp2_with fail
 go_step3
 go_wp2_with fail
 go_step3
 go_wp2_with fail
 go_loopg [3,4] n (fun k v t wr=>∃ (acc:List Tok) (a:Nat) (rest:List Tok),a≤s.size∧t = .int .i64 a∧Below w.heap.size w wr∧wr.ownsRow w.heap.size 62 3 v acc.length (tcells acc)∧acc.length+k≤3000∧s.size < k+a∧lexT RS s k a=rest∧acc ++ rest=toks)
 case atStart=>exact ⟨[],0,toks,Nat.zero_le _,rfl,Below.refl _ _,World.ownsRow_nil _ _ _ _,by simpa using hn,by omega,h,rfl⟩
 case round =>
  obtain ⟨acc,a,rest,ha,rfl,hb,hown,hlen,hfu,h,ht⟩:=hrel
  match gk,h,hlen,hfu with
  | 0,_,_,hfu=>exact absurd hfu (by omega)
  | k+1,h,hlen,hfu =>
  obtain ⟨A,hA⟩:∃ A,a+blanks (s.data.toList.drop a)=A:=⟨_,rfl⟩
  have hAle:A≤s.size:=by have:=blanks_le (s.data.toList.drop a);simp only [List.length_drop,size_list] at this;omega
  have hAa:a≤A:=by omega
  simp only [lexT,hA] at h
  have HA:Hid _:=hA
  clear hA
  go_wp2_with fail
  go_loop [4] (fun t=>∃ j:Nat,a≤j∧j≤s.size∧t = .int .i64 j∧blanks (s.data.toList.drop j)+j=A) (fun t=>s.size - (intOf t).toNat)
  case atStart=>exact ⟨a,Nat.le_refl _,ha,rfl,by rw [← HA.out];omega⟩
  case round =>
   obtain ⟨j,hj1,hj2,rfl,hj⟩:=hrel
   by_cases hlt:j < s.size
   ·rw [drop_at s j hlt] at hj
    by_cases hbl:isBlankB s[j]=true
    ·simp only [blanks,hbl,if_true] at hj
     have HJ:Hid _:=hj
     clear hj
     go_wp2_with (go_at_call 34;refine (isBlank_any _ _).mono ?_;rintro e w1 ⟨rfl,h1⟩;subst w1;rw [hbl])
     go_round
     case rel=>exact ⟨j+1,by omega,by omega,by go_num,by have:=HJ.out;omega⟩
     case measure=>simp [intOf];omega
    ·have hbl:isBlankB s[j]=false:=by simpa using hbl
     have hjA:j=A:=by simp only [blanks,hbl,Bool.false_eq_true,if_false] at hj;omega
     clear hj
     subst hjA
     rw [if_neg (by omega)] at h
     have hne:¬ (j:Int)=(s.size:Int):=by omega
     go_wp2_with (first
      | (go_at_call 34;refine (isBlank_any _ _).mono ?_;rintro e w1 ⟨rfl,h1⟩;subst w1;rw [hbl])
      | (refine wpList_load_mid (by rfl) _ _ (by rfl) 0 0 (by rfl) cs _ (by rw [← hcs];exact (hS.below hb).1) Tryz.underlying82 rfl (by rw [info_signs,hcl]) ?_))
     obtain ⟨R,hR⟩:∃ R,signsB.find? (fun p=>prefixB p.data.toList (s.data.toList.drop j))=R:=⟨_,rfl⟩
     rw [hR] at h
     go_loop [3,4,31] (fun v t4 t=>v=u3∧t4 = .int .i64 j∧∃ i:Nat,i≤27∧t = .int .i64 i∧(signsB.drop i).find? (fun p=>prefixB p.data.toList (s.data.toList.drop j))=R) (fun _ _ t=>27 - (intOf t).toNat)
     case atStart=>exact ⟨rfl,rfl,0,by omega,rfl,hR⟩
     case round =>
      clear hR
      obtain ⟨rfl,rfl,i,hi27,rfl,hR⟩:=hrel
      by_cases hi:i < 27
      ·obtain ⟨p,hp⟩:∃ p,signsB[i]? = some p:=⟨_,List.getElem?_eq_getElem (by simpa [signsB] using hi)⟩
       have hidx:=index_sign i p hp
       rw [hcs] at hidx
       have hdr:signsB.drop i=p :: signsB.drop (i+1):=by
        rw [List.drop_eq_getElem_cons (by simpa [signsB] using hi)]
        rw [List.getElem?_eq_getElem (by simpa [signsB] using hi),Option.some.injEq] at hp
        rw [hp]
       have hps:p.size≤2:=by
        have hall:∀ q∈signsB,q.size≤2:=by decide
        exact hall p (List.mem_of_getElem? hp)
       have hex:(s.extract j s.size).data.toList=s.data.toList.drop j:=by rw [extract_list,List.take_of_length_le (by simp)]
       rw [hdr,List.find?_cons] at hR
       have hes:=extract_size s j s.size (by omega)
       have hi':(i:Int) < 27:=by omega
       have HX:Hid _:=hex
       have HP:Hid _:=hp
       clear hex hp hdr
       by_cases hpre:prefixB p.data.toList (s.data.toList.drop j)=true
       ·rw [hpre] at hR
        subst hR
        simp only at h
        obtain ⟨rest',hrest⟩:∃ q,lexT RS s k (j+p.size)=q:=⟨_,rfl⟩
        rw [hrest] at h
        subst h
        have hpp:0 < p.size:=by
         have hall:∀ q∈signsB,0 < q.size:=by decide
         exact hall p (List.mem_of_getElem? HP.out)
        go_wp2_with (first
         | (go_at_call 35;refine (hasPrefix_any _ _ _ hes (by omega)).mono ?_;rintro e w1 ⟨rfl,h1⟩;subst w1;rw [HX.out,hpre])
         | (refine wpList_append_lies _ (by rfl) _ _ _ (by rfl) w.heap.size 62 i0 _ 3 32 Tryz.underlying55 hi0 hz0 hz1 hz2 rfl (by omega) u3 acc.length (tcells acc) (by rfl) (hown.alloc _) ⟨wr.heap.size,0,none⟩ 1 1 [.int .u8 7,.string p,.int .i64 j] (by rfl) (by rfl) (World.news_of_block (cs:=#[.int .u8 7,.string p,.int .i64 j]) (t:=62) (fr:=(0,0)) (heap_alloc_new wr _)) (by simp [Value.oneCell']) (by omega) (by unfold maxLen;omega) (by omega) (by have:=hb.size;simp;omega) (wr.heap.size+1) (by simp) ?_;intro g cap w6 hown6 hgrow hat hlt6))
        go_roundg k
        case measure=>omega
        case rel =>
         have hpl:p.size≤s.size - j:=by
          have h1:=(List.isPrefixOf_iff_prefix.1 (show p.data.toList.isPrefixOf (s.data.toList.drop j)=true from hpre)).length_le
          simpa [size_list] using h1
         refine ⟨acc ++ [⟨7,p,j⟩],j+p.size,rest',by omega,by go_num,?_,?_,by simp;omega,by omega,hrest,by rw [← ht];simp⟩
         ·exact (hb.alloc hb.size _).grown hgrow (by have:=hb.size;simp;omega) (fun q hq=>(hown.lt q hq).1)
         ·rw [tcells_snoc,List.length_append,List.length_singleton];exact hown6
       ·have hpre:prefixB p.data.toList (s.data.toList.drop j)=false:=by simpa using hpre
        rw [hpre] at hR
        simp only at hR
        go_wp2_with (go_at_call 35;refine (hasPrefix_any _ _ _ hes (by omega)).mono ?_;rintro e w1 ⟨rfl,h1⟩;subst w1;rw [HX.out,hpre])
        go_round
        case rel=>exact ⟨rfl,rfl,i+1,by omega,by go_num,hR⟩
        case measure=>simp [intOf];omega
      ·have hi2:i=27:=by omega
       subst hi2
       have hd0:signsB.drop 27=[]:=by decide
       rw [hd0] at hR
       simp only [List.find?_nil] at hR
       subst hR
       simp only at h
       have hfit:=longT_fit (s:=s) (a:=j) hF
       have hlong:=readLong_any hRS s j
       obtain ⟨t,tb,hT⟩:∃ t tb,longT RS s j=(t,tb):=⟨_,_,rfl⟩
       rw [hT] at h hfit hlong
       simp only at h hfit hlong
       have HL:Aside (∀ (w:World),s.size≤100000→j < s.size→Calls Tryz.prog 36 #[.string s,.int .i64 j] w fun e w'=>e = .returned (.tuple #[.agg #[.int .u8 t.kind,.string t.text,.int .i64 t.pos],.int .i64 tb])∧Below w.heap.size w w'):=hlong
       clear hlong hT
       by_cases hk1:t.kind=1
       ·rw [if_pos hk1] at h
        subst h
        have HK:Hid _:=hk1
        clear hfit
        have hkk:(t.kind == 1)=true:=by simpa using hk1
        clear hk1
        go_wp2_with (first
         | (go_at_call 36;refine (HL.out _ (by omega) hlt).mono ?_;rintro e w2 ⟨rfl,h2⟩)
         | (refine wpList_append_lies _ (by rfl) _ _ _ (by rfl) w.heap.size 62 i0 _ 3 32 Tryz.underlying55 hi0 hz0 hz1 hz2 rfl (by omega) u3 acc.length (tcells acc) (by rfl) ((owns_sameT hown (fun q hq=>h2.block q (hown.lt q hq).2)).alloc _ |>.alloc _) ⟨w2.heap.size+1,0,none⟩ 1 1 [.int .u8 t.kind,.string t.text,.int .i64 t.pos] (by rfl) (by rfl) (World.news_of_block (cs:=#[.int .u8 t.kind,.string t.text,.int .i64 t.pos]) (t:=62) (fr:=(0,0)) (heap_new2 w2 _ _)) (by simp [Value.oneCell']) (by omega) (by unfold maxLen;omega) (by omega) (by have:=hb.size;have:=h2.size;simp;omega) (w2.heap.size+2) (by simp) ?_;intro g cap w6 hown6 hgrow hat hlt6;have d0:w6.cell? ⟨w2.heap.size,0,none⟩=some (.int .u8 t.kind):=hgrow.cell (by simp) (fun e=>by have:=(hown.lt _ e.symm).2;have:=h2.size;simp only at *;omega)))
        simp only [Exit.noGoto]
        go_ret
        have hl1:(acc ++ [t]).length=acc.length+1:=by simp
        obtain ⟨_,hh | ⟨g',c',cur,hv,hg,hbk,hn2,hcap,hsz,htk⟩⟩:=hown6
        ·cases hh.1
        ·cases hv
         have hb2:Below w.heap.size w w2:=hb.trans (h2.mono hb.size)
         have hB:Below w.heap.size w w6:=((hb2.alloc hb2.size _).alloc (by have:=hb2.size;simp;omega) _).grown hgrow (by have:=hb2.size;simp;omega) (fun q hq=>(hown.lt q hq).1)
         refine ⟨g,cap,by rw [← ht,hl1];rfl,hg,hlt6,?_,by rw [← ht,hl1];exact hn2,hcap,hB,fun o=>by simp [World.frozen?,hbk]⟩
         rw [← ht]
         refine toks_of_cells _ 0 fun i v hiv=>?_
         rw [tcells_snoc] at hiv
         rw [Nat.zero_add]
         have hi3:i < (acc.length+1) * 3:=by
          have:=(List.getElem?_eq_some_iff.1 hiv).1
          simp [tcells_length] at this;omega
         rw [← htk,List.getElem?_take_of_lt hi3] at hiv
         simpa [World.cell?,hbk] using hiv
       ·rw [if_neg hk1] at h
        obtain ⟨b,hb1,hb2',hb3⟩:=hfit hk1
        subst hb1
        rw [Int.toNat_natCast] at h
        obtain ⟨rest',hrest⟩:∃ q,lexT RS s k b=q:=⟨_,rfl⟩
        rw [hrest] at h
        subst h
        go_wp2_with (first
         | (go_at_call 36;refine (HL.out _ (by omega) hlt).mono ?_;rintro e w2 ⟨rfl,h2⟩)
         | (refine wpList_append_lies _ (by rfl) _ _ _ (by rfl) w.heap.size 62 i0 _ 3 32 Tryz.underlying55 hi0 hz0 hz1 hz2 rfl (by omega) u3 acc.length (tcells acc) (by rfl) ((owns_sameT hown (fun q hq=>h2.block q (hown.lt q hq).2)).alloc _ |>.alloc _) ⟨w2.heap.size+1,0,none⟩ 1 1 [.int .u8 t.kind,.string t.text,.int .i64 t.pos] (by rfl) (by rfl) (World.news_of_block (cs:=#[.int .u8 t.kind,.string t.text,.int .i64 t.pos]) (t:=62) (fr:=(0,0)) (heap_new2 w2 _ _)) (by simp [Value.oneCell']) (by omega) (by unfold maxLen;omega) (by omega) (by have:=hb.size;have:=h2.size;simp;omega) (w2.heap.size+2) (by simp) ?_;intro g cap w6 hown6 hgrow hat hlt6;have d0:w6.cell? ⟨w2.heap.size,0,none⟩=some (.int .u8 t.kind):=hgrow.cell (by simp) (fun e=>by have:=(hown.lt _ e.symm).2;have:=h2.size;simp only at *;omega)))
        go_roundg k
        case measure=>omega
        case rel =>
         have hbs:b≤s.size:=hb3
         refine ⟨acc ++ [t],b,rest',hbs,rfl,?_,?_,by simp;omega,by omega,hrest,by rw [← ht];simp⟩
         ·have hb2:Below w.heap.size w w2:=hb.trans (h2.mono hb.size)
          exact ((hb2.alloc hb2.size _).alloc (by have:=hb2.size;simp;omega) _).grown hgrow (by have:=hb2.size;simp;omega) (fun q hq=>(hown.lt q hq).1)
         ·rw [tcells_snoc,List.length_append,List.length_singleton];exact hown6
   ·have hjA:j=A:=by
     have hdrop:s.data.toList.drop j=[]:=List.drop_eq_nil_of_le (by simp;omega)
     rw [hdrop] at hj
     simp only [blanks] at hj;omega
    clear hj
    subst hjA
    have hjs:j=s.size:=by omega
    rw [if_pos (by omega)] at h
    subst h
    have hge:(j:Int)=(s.size:Int):=by omega
    clear hjs
    have HJ:Hid _:=hge
    clear hge
    have hnl:¬ (j:Int) < (s.size:Int):=by have:=HJ.out;omega
    have heq:(s.size:Int)=(j:Int):=HJ.out.symm
    go_wp2_with (refine wpList_append_lies _ (by rfl) _ _ _ (by rfl) w.heap.size 62 i0 _ 3 32 Tryz.underlying55 hi0 hz0 hz1 hz2 rfl (by omega) u3 acc.length (tcells acc) (by rfl) (hown.alloc _) ⟨wr.heap.size,0,none⟩ 1 1 [.int .u8 0,.string ⟨#[]⟩,.int .i64 j] (by rfl) (by rfl) (World.news_of_block (cs:=#[.int .u8 0,.string ⟨#[]⟩,.int .i64 j]) (t:=62) (fr:=(0,0)) (heap_alloc_new wr _)) (by simp [Value.oneCell']) (by omega) (by unfold maxLen;omega) (by omega) (by have:=hb.size;simp;omega) (wr.heap.size+1) (by simp) ?_;intro g cap w6 hown6 hgrow hat hlt6)
    go_ret
    have hl1:(acc ++ [(⟨0,⟨#[]⟩,(j:Nat)⟩:Tok)]).length=acc.length+1:=by simp
    obtain ⟨_,hh | ⟨g',c',cur,hv,hg,hbk,hn2,hcap,hsz,htk⟩⟩:=hown6
    ·cases hh.1
    ·cases hv
     have hB:Below w.heap.size w w6:=(hb.alloc hb.size _).grown hgrow (by have:=hb.size;simp;omega) (fun q hq=>(hown.lt q hq).1)
     refine ⟨g,cap,by rw [← ht,hl1];rfl,hg,hlt6,?_,by rw [← ht,hl1];exact hn2,hcap,hB,fun o=>by simp [World.frozen?,hbk]⟩
     rw [← ht]
     refine toks_of_cells _ 0 fun i v hiv=>?_
     rw [tcells_snoc] at hiv
     rw [Nat.zero_add]
     have hi3:i < (acc.length+1) * 3:=by
      have:=(List.getElem?_eq_some_iff.1 hiv).1
      simp [tcells_length] at this;omega
     rw [← htk,List.getElem?_take_of_lt hi3] at hiv
     simpa [World.cell?,hbk] using hiv
end Go.Proofs.Tryz
namespace Go.Proofs.Tryz
set_option maxHeartbeats 16000000
open Go.RowKit
set_option maxRecDepth 10000
def wordsT:List (List UInt8):=[[100,101,102],[97,115],[105,102],[116,104,101,110],[101,108,115,101],[101,110,100],[116,114,121],[99,97,116,99,104],[114,101,100,117,99,101],[102,111,114,101,97,99,104],[108,97,98,101,108],[98,114,101,97,107],[97,110,100],[111,114],[110,117,108,108],[102,97,108,115,101],[116,114,117,101]]
def wordsS:ByteArray:=⟨(spaced wordsT).toArray⟩
theorem words_any (w:World):Calls Tryz.prog 51 #[] w fun e w'=>e = .returned (.string wordsS)∧w'=w:=by
 go_enter Tryz.func51,Tryz.ntmps51
 go_wp2_with fail
 go_ret
 exact ⟨rfl,rfl⟩
theorem isWord_contains (x:List UInt8):wordsT.contains x=isWordB x:=by
 rw [Bool.eq_iff_iff]
 simp [wordsT,isWordB,or_assoc]
theorem within_words (x:List UInt8) (hx:32 ∉ x) (h0:x≠[]):withinB wordsS.data.toList (32 :: (x ++ [32]))=isWordB x:=by
 rw [← isWord_contains]
 exact within_spaced x hx h0 wordsT (by decide)
def firsts:List UInt8:=[46,47,61,33,60,62,124,44,43,45,42,37,63,40,41,91,93,123,125,58,59]
theorem find_none {c:UInt8}{l:List UInt8} (h:c ∉ firsts):signsB.find? (fun p=>prefixB p.data.toList (c :: l))=none:=by
 rw [List.find?_eq_none]
 intro p hp hpre
 have hh:∀ p∈signsB,∃ d∈firsts,p.data.toList.head? = some d:=by decide
 obtain ⟨d,hd,he⟩:=hh p hp
 have hpre:=List.isPrefixOf_iff_prefix.1 (show p.data.toList.isPrefixOf (c :: l)=true from hpre)
 cases e:p.data.toList with
 | nil=>rw [e] at he;cases he
 | cons x m =>
  rw [e] at he hpre
  simp only [List.head?_cons,Option.some.injEq] at he
  have:=(List.cons_prefix_cons.1 hpre).1
  exact h (this ▸ he ▸ hd)
theorem firsts_not {f:UInt8→Bool} (hf:(firsts.all fun d=>!f d)=true) {c:UInt8} (h:f c=true):c ∉ firsts:=by
 intro hc
 have:=List.all_eq_true.1 hf c hc
 simp [h] at this
def twosS:List UInt8:=[32,46,46,32,47,47,32,61,61,32,33,61,32,60,61,32,62,61,32,124,61,32]
def onesS:List UInt8:=[46,124,44,60,62,61,43,45,42,47,37,63,40,41,91,93,123,125,58,59]
def twosL:List (UInt8×UInt8):=[(46,46),(47,47),(61,61),(33,61),(60,61),(62,61),(124,61)]
theorem within_twos (c d:UInt8) (hc:c≠32):withinB twosS [32,c,d,32]=twosL.contains (c,d):=by
 have hc':(c == 32)=false:=by simpa using hc
 rw [Bool.eq_iff_iff]
 simp [withinB,twosS,twosL,List.isPrefixOf,Bool.and_eq_true,hc]
theorem within_ones (c:UInt8):withinB onesS [c]=onesS.contains c:=by
 rw [Bool.eq_iff_iff]
 simp [withinB,onesS,List.isPrefixOf]
theorem find_two {c d:UInt8}{l:List UInt8} (h:twosL.contains (c,d)=true):signsB.find? (fun p=>prefixB p.data.toList (c :: d :: l))=some ⟨#[c,d]⟩:=by
 simp only [twosL,List.contains_cons,List.contains_nil,Bool.or_false,Bool.or_eq_true,beq_iff_eq,Prod.mk.injEq] at h
 rcases h with ⟨rfl,rfl⟩ | ⟨rfl,rfl⟩ | ⟨rfl,rfl⟩ | ⟨rfl,rfl⟩ | ⟨rfl,rfl⟩ | ⟨rfl,rfl⟩ | ⟨rfl,rfl⟩ <;> rfl
theorem signs_parts:signsB=twosL.map (fun q=>(⟨#[q.1,q.2]⟩:ByteArray)) ++ [46,124,44,60,62,61,43,45,42,47,37,63,40,41,91,93,123,125,58,59].map (fun q=>(⟨#[q]⟩:ByteArray)):=by decide
theorem find_ones {c:UInt8}{l:List UInt8}:∀ {m:List UInt8},m.contains c=true→(m.map (fun q=>(⟨#[q]⟩:ByteArray))).find? (fun p=>prefixB p.data.toList (c :: l))=some ⟨#[c]⟩
 | [],h=>by simp at h
 | q :: m,h=>by
  simp only [List.map_cons,List.find?_cons]
  by_cases e:q=c
  ·subst e
   simp [prefixB,List.isPrefixOf]
  ·have e':(q == c)=false:=by simpa using e
   have e2:¬ c=q:=fun h=>e h.symm
   simp only [prefixB,List.isPrefixOf,e',Bool.false_and]
   exact find_ones (by simpa [e2] using h)
theorem find_ones_none {c:UInt8}{l:List UInt8}:∀ {m:List UInt8},m.contains c=false→(m.map (fun q=>(⟨#[q]⟩:ByteArray))).find? (fun p=>prefixB p.data.toList (c :: l))=none
 | [],h=>rfl
 | q :: m,h=>by
  simp only [List.contains_cons,Bool.or_eq_false_iff,beq_eq_false_iff_ne,ne_eq] at h
  have e':(q == c)=false:=by simpa using fun e:q=c=>h.1 e.symm
  simp only [List.map_cons,List.find?_cons,prefixB,List.isPrefixOf,e',Bool.false_and]
  exact find_ones_none h.2
theorem find_twos_none {c:UInt8}{l:List UInt8}:∀ {m:List (UInt8×UInt8)},(∀ d r,l=d :: r→m.contains (c,d)=false)→(m.map (fun q=>(⟨#[q.1,q.2]⟩:ByteArray))).find? (fun p=>prefixB p.data.toList (c :: l))=none
 | [],h=>rfl
 | q :: m,h=>by
  have e':prefixB [q.1,q.2] (c :: l)=false:=by
   cases l with
   | nil=>simp [prefixB,List.isPrefixOf]
   | cons d r =>
    have:=h d r rfl
    simp only [List.contains_cons,Bool.or_eq_false_iff,beq_eq_false_iff_ne,ne_eq] at this
    have h1:=this.1
    rw [Bool.eq_false_iff]
    intro e
    simp only [prefixB,List.isPrefixOf,Bool.and_eq_true,beq_iff_eq] at e
    exact h1 (by rw [← e.1,← e.2.1])
  simp only [List.map_cons,List.find?_cons,e']
  exact find_twos_none fun d r e=>by
   have:=h d r e
   simp only [List.contains_cons,Bool.or_eq_false_iff] at this
   exact this.2
theorem find_one {c:UInt8}{l:List UInt8} (h2:∀ d r,l=d :: r→twosL.contains (c,d)=false) (h:onesS.contains c=true):signsB.find? (fun p=>prefixB p.data.toList (c :: l))=some ⟨#[c]⟩:=by
 rw [signs_parts,List.find?_append,find_twos_none h2]
 exact find_ones h
theorem find_neither {c:UInt8}{l:List UInt8} (h2:∀ d r,l=d :: r→twosL.contains (c,d)=false) (h:onesS.contains c=false):signsB.find? (fun p=>prefixB p.data.toList (c :: l))=none:=by
 rw [signs_parts,List.find?_append,find_twos_none h2]
 exact find_ones_none h
def tokAt (RS:ByteArray→Nat→ByteArray×Int×Bool) (s:ByteArray) (a:Nat):Tok×Nat:=match signsB.find? (fun p=>prefixB p.data.toList (s.data.toList.drop a)) with
 | some p=>(⟨7,p,a⟩,a+p.size)
 | none=>((longT RS s a).1,(longT RS s a).2.toNat)
theorem lexT_at (RS:ByteArray→Nat→ByteArray×Int×Bool) (s:ByteArray) (n a:Nat):lexT RS s (n+1) a=if s.size≤a+blanks (s.data.toList.drop a) then [⟨0,⟨#[]⟩,(a+blanks (s.data.toList.drop a):Nat)⟩]
  else if (tokAt RS s (a+blanks (s.data.toList.drop a))).1.kind=1 then [(tokAt RS s (a+blanks (s.data.toList.drop a))).1] else (tokAt RS s (a+blanks (s.data.toList.drop a))).1 :: lexT RS s n (tokAt RS s (a+blanks (s.data.toList.drop a))).2:=by
 unfold tokAt
 simp only [lexT]
 split
 ·rfl
 ·cases signsB.find? (fun p=>prefixB p.data.toList (s.data.toList.drop (a+blanks (s.data.toList.drop a)))) with
  | some p=>simp
  | none=>rfl
def kbyte (k:Int):Int:=if k=0 then 101 else if k=1 then 98 else if k=2 then 110 else if k=3 then 119 else if k=4 then 118 else if k=5 then 100 else if k=6 then 115 else 112
structure RTk (t:Tok) (k:Int) (x:ByteArray) (n p:Int):Prop where
 kind:k=kbyte t.kind
 pos:p=t.pos
 text:t.kind≠0→t.kind≠1→t.kind≠5→x=t.text
 num:t.kind=5→n=digN t.text
end Go.Proofs.Tryz
namespace Go.Proofs.Tryz
set_option maxHeartbeats 16000000
open Go.RowKit
set_option maxRecDepth 10000
def RefStr (RS:ByteArray→Nat→ByteArray×Int×Bool):Prop:=∀ (s:ByteArray) (a:Nat) (w:World),a < s.size→s.size≤100000→
 Calls Tryz.prog 53 #[.string s,.int .i64 a] w fun e w'=>∃ x p,e = .returned (.tuple #[.string x,.int .i64 p,.bool (RS s a).2.2])∧((RS s a).2.2=true→x=(RS s a).1∧p=(RS s a).2.1)∧Below w.heap.size w w'
theorem append_list (x y:ByteArray):(x ++ y).data.toList=x.data.toList ++ y.data.toList:=by
 rw [ByteArray.data_append,Array.toList_append]
theorem within_at (l y:ByteArray) (z:List UInt8) (w:World) (hl:l.size≤50000) (hy:y.data.toList=z) (hz:0 < z.length) (hz2:z.length≤50000) :
  Calls Tryz.prog 50 #[.string l,.string y] w fun e w'=>e = .returned (.bool (withinB l.data.toList z))∧w'=w:=by
 subst hy
 rw [size_list] at hz hz2
 exact within_any l y w (by omega) (by omega) hz
theorem blank_list (x:ByteArray):(⟨#[32]⟩ ++ x ++ ⟨#[32]⟩:ByteArray).data.toList=32 :: (x.data.toList ++ [32]):=by
 rw [append_list,append_list]
 rfl
theorem within_blank (l x:ByteArray) (w:World) (hl:l.size≤50000) (hx:x.size≤40000) :
  Calls Tryz.prog 50 #[.string l,.string (⟨#[32]⟩ ++ x ++ ⟨#[32]⟩)] w fun e w'=>e = .returned (.bool (withinB l.data.toList (32 :: (x.data.toList ++ [32]))))∧w'=w :=
 within_at l _ _ w hl (blank_list x) (by simp) (by simp [size_list];omega)
theorem Below.dN {B:Nat}{a w:World} (h:Below B a w) (n:Nat):Below B a (w.drewN n):=⟨h.os,h.tape,h.output,h.size,h.block⟩
theorem nameLenR_word {c:UInt8}:∀ {l:List UInt8},c∈l.take (nameLenR l)→(isLetterB c || isDigitB c)=true
 | [],h=>by simp at h
 | d :: l,h=>by
  simp only [nameLenR] at h
  split at h
  ·simp only [List.take_succ_cons,List.mem_cons] at h
   rcases h with rfl | h
   ·assumption
   ·exact nameLenR_word h
  ·simp at h
theorem name_noblank {x:List UInt8} (h:∀ c∈x,(isLetterB c || isDigitB c)=true):32 ∉ x:=fun hx=>by
 have:=h 32 hx
 revert this
 decide
theorem word_short {x:List UInt8} (h:isWordB x=true):x.length≤20:=by
 rw [← isWord_contains] at h
 have hh:∀ y∈wordsT,y.length≤20:=by decide
 exact hh x (by simpa using h)
theorem small_36 (w:World):Calls Tryz.prog 48 #[.int .u8 36] w fun e w'=>e = .returned (.bool false)∧w'=w:=small_any 36 w
theorem small_34 (w:World):Calls Tryz.prog 48 #[.int .u8 34] w fun e w'=>e = .returned (.bool false)∧w'=w:=small_any 34 w
theorem figure_34 (w:World):Calls Tryz.prog 52 #[.int .u8 34] w fun e w'=>e = .returned (.bool false)∧w'=w:=figure_any 34 w
theorem figure_36 (w:World):Calls Tryz.prog 52 #[.int .u8 36] w fun e w'=>e = .returned (.bool false)∧w'=w:=figure_any 36 w
theorem two_cells {w w1:World}{o1 o2:Obj} (h:Below ((w.alloc o1).alloc o2).heap.size ((w.alloc o1).alloc o2) w1):w1.heap[w.heap.size]? = some o1∧w1.heap[w.heap.size+1]? = some o2∧w.heap.size+1 < w1.heap.size:=by
 have hs:=h.size
 simp only [World.size_alloc] at hs
 refine ⟨(h.block _ (by simp only [World.size_alloc];omega)).trans ?_,(h.block _ (by simp only [World.size_alloc];omega)).trans (heap_new2 w o1 o2),by omega⟩
 exact ((below_alloc (w.alloc o1) o2).block w.heap.size (by simp)).trans (heap_new w o1)
theorem cl_heap {w:World}{N T:Nat}{cs:List Value} (h:w.heap[N]? = some (.cells cs.toArray T)):Cl w N cs :=
 ⟨fun i=>by unfold World.cell?;simp only [h];simp,fun i=>by unfold World.frozen?;simp only [h];simp⟩
end Go.Proofs.Tryz
