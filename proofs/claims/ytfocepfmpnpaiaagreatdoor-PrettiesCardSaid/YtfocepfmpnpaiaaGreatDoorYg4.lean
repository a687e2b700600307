import Derived.Test.YtfocepfmpnpaiaaGreatDoorYf3
set_option linter.all false
namespace Go.Proofs.Tryz
set_option maxHeartbeats 16000000
open Go.RowKit
set_option maxRecDepth 10000
theorem token_two {RS:ByteArray→Nat→ByteArray×Int×Bool} (s:ByteArray) (a:Nat) (w:World) (hs:s.size≤2000) (ha:a < s.size) (hl:isLetterB s[a]=false) (hdg:isDigitB s[a]=false) (hq:¬ (s[a].toNat:Int)=34) (h36:¬ (s[a].toNat:Int)=36) (ha2:a+1 < s.size) (HT:Aside (∀ w:World,Calls Tryz.prog 50 #[.string ⟨#[32,46,46,32,47,47,32,61,61,32,33,61,32,60,61,32,62,61,32,124,61,32]⟩,.string (⟨#[32]⟩ ++ s.extract a (a+2) ++ ⟨#[32]⟩)] w fun e w'=>e = .returned (.bool true)∧w'=w)) (hk:tokAt RS s a=(⟨7,s.extract a (a+2),a⟩,a+2)) :
  Calls Tryz.prog 25 #[.string s,.int .i64 a] w fun e w'=>∃ k x n p b,e = .returned (.tuple #[.agg #[.int .u8 k,.string x,.int .i64 n,.int .i64 p],.int .i64 b])∧RTk (tokAt RS s a).1 k x n p∧((tokAt RS s a).1.kind≠1→b=((tokAt RS s a).2:Nat))∧Below w.heap.size w w':=by
 have ha':(a:Int) < (s.size:Int):=by omega
 have ha2':(a:Int)+1 < (s.size:Int):=by omega
 rw [hk]
 clear hk
 simp only
 go_enter Tryz.func25,Tryz.ntmps25
 go_wp2_with fail
 refine Calls.mono (small_any s[a] _) ?_
 rintro e w1 ⟨rfl,h1⟩
 subst w1
 rw [hl]
 go_wp2_with fail
 refine Calls.mono (figure_any s[a] _) ?_
 rintro e w1 ⟨rfl,h1⟩
 subst w1
 rw [hdg]
 go_wp2_with fail
 refine Calls.mono (HT.out _) ?_
 rintro e w1 ⟨rfl,h1⟩
 subst w1
 go_wp2_with fail
 refine bodyPost_ret (v:=.tuple #[.agg #[.int .u8 112,.string (s.extract a (a+2)),.int .i64 0,.int .i64 a],.int .i64 ((a+2:Nat):Int)]) (by simp [results,Tryz.results25,go_sem]) rfl ?_
 exact ⟨_,_,_,_,_,rfl,⟨rfl,rfl,fun _ _ _=>rfl,fun h=>absurd (show (7:Int)=5 from h) (by decide)⟩,fun _=>rfl,(by repeat' (first | exact Below.refl _ _ | refine Below.setCell ?_ (by simp) _ | refine Below.dN ?_ _ | refine Below.alloc ?_ (by simp) _))⟩
end Go.Proofs.Tryz
namespace Go.Proofs.Tryz
set_option maxHeartbeats 16000000
open Go.RowKit
set_option maxRecDepth 10000
theorem token_dol2 {RS:ByteArray→Nat→ByteArray×Int×Bool} (s:ByteArray) (a:Nat) (w:World) (hs:s.size≤2000) (ha:a < s.size) (hc1:(s[a].toNat:Int)=36) (ha2:a+1 < s.size) (hl:isLetterB s[a+1]=false) (HT:Aside (∀ w:World,Calls Tryz.prog 50 #[.string ⟨#[32,46,46,32,47,47,32,61,61,32,33,61,32,60,61,32,62,61,32,124,61,32]⟩,.string (⟨#[32]⟩ ++ s.extract a (a+2) ++ ⟨#[32]⟩)] w fun e w'=>e = .returned (.bool false)∧w'=w)) (HO:Aside (∀ w:World,Calls Tryz.prog 50 #[.string ⟨#[46,124,44,60,62,61,43,45,42,47,37,63,40,41,91,93,123,125,58,59]⟩,.string (s.extract a (a+1))] w fun e w'=>e = .returned (.bool false)∧w'=w)) (hk:(tokAt RS s a).1=⟨1,⟨#[]⟩,a⟩) :
  Calls Tryz.prog 25 #[.string s,.int .i64 a] w fun e w'=>∃ k x n p b,e = .returned (.tuple #[.agg #[.int .u8 k,.string x,.int .i64 n,.int .i64 p],.int .i64 b])∧RTk (tokAt RS s a).1 k x n p∧((tokAt RS s a).1.kind≠1→b=((tokAt RS s a).2:Nat))∧Below w.heap.size w w':=by
 have ha':(a:Int) < (s.size:Int):=by omega
 have ha2':(a:Int)+1 < (s.size:Int):=by omega
 rw [hk]
 clear hk
 simp only
 go_enter Tryz.func25,Tryz.ntmps25
 go_wp2_with fail
 refine Calls.mono (small_36 _) ?_
 rintro e w1 ⟨rfl,h1⟩
 subst w1
 go_wp2_with fail
 refine Calls.mono (small_any s[a+1] _) ?_
 rintro e w1 ⟨rfl,h1⟩
 subst w1
 rw [hl]
 go_wp2_with fail
 refine Calls.mono (figure_36 _) ?_
 rintro e w1 ⟨rfl,h1⟩
 subst w1
 go_wp2_with fail
 refine Calls.mono (HT.out _) ?_
 rintro e w1 ⟨rfl,h1⟩
 subst w1
 go_wp2_with fail
 refine Calls.mono (HO.out _) ?_
 rintro e w1 ⟨rfl,h1⟩
 subst w1
 go_wp2_with fail
 refine bodyPost_ret (v:=.tuple #[.agg #[.int .u8 98,.string ⟨#[]⟩,.int .i64 0,.int .i64 a],.int .i64 ((a+1:Nat):Int)]) (by simp [results,Tryz.results25,go_sem]) rfl ?_
 exact ⟨_,_,_,_,_,rfl,⟨rfl,rfl,fun _ h=>absurd rfl h,fun h=>absurd (show (1:Int)=5 from h) (by decide)⟩,fun h=>absurd rfl h,(by repeat' (first | exact Below.refl _ _ | refine Below.setCell ?_ (by simp) _ | refine Below.dN ?_ _ | refine Below.alloc ?_ (by simp) _))⟩
theorem token_dol1 {RS:ByteArray→Nat→ByteArray×Int×Bool} (s:ByteArray) (a:Nat) (w:World) (hs:s.size≤2000) (ha:a < s.size) (hc1:(s[a].toNat:Int)=36) (ha2:¬ a+1 < s.size) (HO:Aside (∀ w:World,Calls Tryz.prog 50 #[.string ⟨#[46,124,44,60,62,61,43,45,42,47,37,63,40,41,91,93,123,125,58,59]⟩,.string (s.extract a (a+1))] w fun e w'=>e = .returned (.bool false)∧w'=w)) (hk:(tokAt RS s a).1=⟨1,⟨#[]⟩,a⟩) :
  Calls Tryz.prog 25 #[.string s,.int .i64 a] w fun e w'=>∃ k x n p b,e = .returned (.tuple #[.agg #[.int .u8 k,.string x,.int .i64 n,.int .i64 p],.int .i64 b])∧RTk (tokAt RS s a).1 k x n p∧((tokAt RS s a).1.kind≠1→b=((tokAt RS s a).2:Nat))∧Below w.heap.size w w':=by
 have ha':(a:Int) < (s.size:Int):=by omega
 have ha2':¬ (a:Int)+1 < (s.size:Int):=by omega
 rw [hk]
 clear hk
 simp only
 go_enter Tryz.func25,Tryz.ntmps25
 go_wp2_with fail
 refine Calls.mono (small_36 _) ?_
 rintro e w1 ⟨rfl,h1⟩
 subst w1
 go_wp2_with fail
 refine Calls.mono (figure_36 _) ?_
 rintro e w1 ⟨rfl,h1⟩
 subst w1
 go_wp2_with fail
 refine Calls.mono (HO.out _) ?_
 rintro e w1 ⟨rfl,h1⟩
 subst w1
 go_wp2_with fail
 refine bodyPost_ret (v:=.tuple #[.agg #[.int .u8 98,.string ⟨#[]⟩,.int .i64 0,.int .i64 a],.int .i64 ((a+1:Nat):Int)]) (by simp [results,Tryz.results25,go_sem]) rfl ?_
 exact ⟨_,_,_,_,_,rfl,⟨rfl,rfl,fun _ h=>absurd rfl h,fun h=>absurd (show (1:Int)=5 from h) (by decide)⟩,fun h=>absurd rfl h,(by repeat' (first | exact Below.refl _ _ | refine Below.setCell ?_ (by simp) _ | refine Below.dN ?_ _ | refine Below.alloc ?_ (by simp) _))⟩
end Go.Proofs.Tryz
namespace Go.Proofs.Tryz
set_option maxHeartbeats 16000000
open Go.RowKit
set_option maxRecDepth 10000
theorem token_letter {RS:ByteArray→Nat→ByteArray×Int×Bool} (s:ByteArray) (a:Nat) (w:World) (hs:s.size≤2000) (ha:a < s.size) (hl:isLetterB s[a]=true) :
  Calls Tryz.prog 25 #[.string s,.int .i64 a] w fun e w'=>∃ k x n p b,e = .returned (.tuple #[.agg #[.int .u8 k,.string x,.int .i64 n,.int .i64 p],.int .i64 b])∧RTk (tokAt RS s a).1 k x n p∧((tokAt RS s a).1.kind≠1→b=((tokAt RS s a).2:Nat))∧Below w.heap.size w w':=by
 have ha':(a:Int) < (s.size:Int):=by omega
 have hd:=drop_at s a ha
 have hR:nameLen (s[a] :: s.data.toList.drop (a+1))=nameLenR (s.data.toList.drop a):=by rw [hd];simp [nameLen,nameLenR,hl]
 have hT:tokAt RS s a=(namedT 2 (s.extract a (a+nameLenR (s.data.toList.drop a))) a,a+nameLenR (s.data.toList.drop a)):=by
  unfold tokAt
  rw [hd,find_none (firsts_not (f:=isLetterB) (by decide) hl)]
  unfold longT
  rw [hd]
  simp only [hl,if_true,hR,Int.toNat_natCast,hd]
 have hle:=nameLenR_le (s.data.toList.drop a)
 simp only [List.length_drop,size_list] at hle
 have h1:0 < nameLenR (s.data.toList.drop a):=by rw [← hR];simp [nameLen,hl]
 have hxl:(s.extract a (a+nameLenR (s.data.toList.drop a))).data.toList=(s.data.toList.drop a).take (nameLenR (s.data.toList.drop a)):=by rw [extract_list,Nat.add_sub_cancel_left]
 have hx0:∀ c∈(s.extract a (a+nameLenR (s.data.toList.drop a))).data.toList,(isLetterB c || isDigitB c)=true:=fun c hc=>nameLenR_word (by rw [← hxl];exact hc)
 have hxz:(s.extract a (a+nameLenR (s.data.toList.drop a))).size=nameLenR (s.data.toList.drop a):=by
  rw [← size_list,hxl,List.length_take,List.length_drop,size_list];omega
 have hE:=ends_any s a
 obtain ⟨N,hN⟩:∃ N,nameLenR (s.data.toList.drop a)=N:=⟨_,rfl⟩
 rw [hN] at hT hle h1 hx0 hxz hE
 clear hxl hR hN hd
 rw [hT]
 clear hT
 simp only
 have HE:Aside (∀ (w:World),s.size≤100000→a≤s.size→Calls Tryz.prog 49 #[.string s,.int .i64 a] w fun e w'=>e = .returned (.int .i64 ((a+N:Nat):Int))∧w'=w):=hE
 clear hE
 have hb32:=name_noblank hx0
 have hne:(s.extract a (a+N)).data.toList≠[]:=by
  intro e
  have:=size_list (s.extract a (a+N))
  rw [e] at this
  simp at this
  omega
 have hW:=within_words _ hb32 hne
 have hx20:(s.extract a (a+N)).size≤2000:=by omega
 have HZ:Hid _:=hxz
 have HN:Hid _:=hne
 clear hx0 hb32 hxz hne
 have HWc:Aside (∀ w:World,Calls Tryz.prog 50 #[.string wordsS,.string (⟨#[32]⟩ ++ s.extract a (a+N) ++ ⟨#[32]⟩)] w fun e w'=>e = .returned (.bool (isWordB (s.extract a (a+N)).data.toList))∧w'=w):=fun w=>by
  have:=within_blank wordsS (s.extract a (a+N)) w (by decide) (by omega)
  rw [hW] at this
  exact this
 clear hW
 by_cases hw:isWordB (s.extract a (a+N)).data.toList=true
 ·have hk:namedT 2 (s.extract a (a+N)) a=⟨3,(s.extract a (a+N)),a⟩:=by
   have:=word_short hw
   rw [size_list] at this
   unfold namedT namedB
   rw [if_neg (by rintro (e | e);exact HN.out e;omega),if_pos ⟨rfl,hw⟩]
   rfl
  rw [hk]
  clear hk
  have HWc:Aside (∀ w:World,Calls Tryz.prog 50 #[.string wordsS,.string (⟨#[32]⟩ ++ s.extract a (a+N) ++ ⟨#[32]⟩)] w fun e w'=>e = .returned (.bool true)∧w'=w):=fun w=>by
   have:=HWc.out w
   rw [hw] at this
   exact this
  clear hw
  go_enter Tryz.func25,Tryz.ntmps25
  go_wp2_with (first
   | (go_at_call 48;refine (small_any _ _).mono ?_;rintro e w1 ⟨rfl,h1⟩;subst w1;rw [hl])
   | (go_at_call 49;refine (HE.out _ (by omega) (by omega)).mono ?_;rintro e w1 ⟨rfl,h1⟩;subst w1))
  go_quiet (first | (go_at_call 51;exact Calls.quiet_of_same (words_any _)) | (go_at_call 50;exact Calls.quiet_of_same (HWc.out _)))
  go_wp2_with fail
  refine bodyPost_ret (v:=.tuple #[.agg #[.int .u8 119,.string (s.extract a (a+N)),.int .i64 0,.int .i64 a],.int .i64 ((a+N:Nat):Int)]) (by simp [results,Tryz.results25,go_sem]) rfl ?_
  exact ⟨_,_,_,_,_,rfl,⟨rfl,rfl,fun _ _ _=>rfl,fun h=>absurd (show (3:Int)=5 from h) (by decide)⟩,fun _=>rfl,(by repeat' (first | exact Below.refl _ _ | refine Below.setCell ?_ (by simp) _ | refine Below.dN ?_ _ | refine Below.alloc ?_ (by simp) _))⟩
 ·have hw:=Bool.eq_false_iff.2 hw
  have hmn:min (a+N) s.size - a=N:=by omega
  have hzz:=HZ.out
  by_cases h20:N≤20
  ·have hk:namedT 2 (s.extract a (a+N)) a=⟨2,(s.extract a (a+N)),a⟩:=by
    unfold namedT namedB
    rw [if_neg (by rintro (e | e);exact HN.out e;omega),if_neg (fun h=>by rw [hw] at h;cases h.2)]
    rfl
   rw [hk]
   clear hk
   have h20':(N:Int)≤20:=by omega
   clear hzz
   have HWc:Aside (∀ w:World,Calls Tryz.prog 50 #[.string wordsS,.string (⟨#[32]⟩ ++ s.extract a (a+N) ++ ⟨#[32]⟩)] w fun e w'=>e = .returned (.bool false)∧w'=w):=fun w=>by
    have:=HWc.out w
    rw [hw] at this
    exact this
   clear hw
   go_enter Tryz.func25,Tryz.ntmps25
   go_wp2_with (first
    | (go_at_call 48;refine (small_any _ _).mono ?_;rintro e w1 ⟨rfl,h1⟩;subst w1;rw [hl])
    | (go_at_call 49;refine (HE.out _ (by omega) (by omega)).mono ?_;rintro e w1 ⟨rfl,h1⟩;subst w1))
   go_quiet (first | (go_at_call 51;exact Calls.quiet_of_same (words_any _)) | (go_at_call 50;exact Calls.quiet_of_same (HWc.out _)))
   go_wp2_with fail
   refine bodyPost_ret (v:=.tuple #[.agg #[.int .u8 110,.string (s.extract a (a+N)),.int .i64 0,.int .i64 a],.int .i64 ((a+N:Nat):Int)]) (by simp [results,Tryz.results25,go_sem]) rfl ?_
   exact ⟨_,_,_,_,_,rfl,⟨rfl,rfl,fun _ _ _=>rfl,fun h=>absurd (show (2:Int)=5 from h) (by decide)⟩,fun _=>rfl,(by repeat' (first | exact Below.refl _ _ | refine Below.setCell ?_ (by simp) _ | refine Below.dN ?_ _ | refine Below.alloc ?_ (by simp) _))⟩
  ·have hk:namedT 2 (s.extract a (a+N)) a=⟨1,⟨#[]⟩,a⟩:=by
    unfold namedT namedB
    rw [if_pos (.inr (by omega))]
    rfl
   rw [hk]
   clear hk
   have h20':¬ (N:Int)≤20:=by omega
   clear hzz
   have HWc:Aside (∀ w:World,Calls Tryz.prog 50 #[.string wordsS,.string (⟨#[32]⟩ ++ s.extract a (a+N) ++ ⟨#[32]⟩)] w fun e w'=>e = .returned (.bool false)∧w'=w):=fun w=>by
    have:=HWc.out w
    rw [hw] at this
    exact this
   clear hw
   go_enter Tryz.func25,Tryz.ntmps25
   go_wp2_with (first
    | (go_at_call 48;refine (small_any _ _).mono ?_;rintro e w1 ⟨rfl,h1⟩;subst w1;rw [hl])
    | (go_at_call 49;refine (HE.out _ (by omega) (by omega)).mono ?_;rintro e w1 ⟨rfl,h1⟩;subst w1))
   go_quiet (first | (go_at_call 51;exact Calls.quiet_of_same (words_any _)) | (go_at_call 50;exact Calls.quiet_of_same (HWc.out _)))
   go_wp2_with fail
   refine bodyPost_ret (v:=.tuple #[.agg #[.int .u8 98,.string (s.extract a (a+N)),.int .i64 0,.int .i64 a],.int .i64 ((a+N:Nat):Int)]) (by simp [results,Tryz.results25,go_sem]) rfl ?_
   exact ⟨_,_,_,_,_,rfl,⟨rfl,rfl,fun _ h=>absurd rfl h,fun h=>absurd (show (1:Int)=5 from h) (by decide)⟩,fun h=>absurd rfl h,(by repeat' (first | exact Below.refl _ _ | refine Below.setCell ?_ (by simp) _ | refine Below.dN ?_ _ | refine Below.alloc ?_ (by simp) _))⟩
end Go.Proofs.Tryz
