import Derived.Test.YtfocepfmpnpaiaaGreatDoorYf3
import Derived.Test.YtfocepfmpnpaiaaGreatDoorFx6
import Derived.Lib.RuneBytes
set_option linter.all false
namespace Go.Proofs.Tryz
set_option maxHeartbeats 16000000
open Go.RowKit
set_option maxRecDepth 10000
theorem tail_place {s:ByteArray}:∀ (k a:Nat) (lo hi:Int),a≤s.size→a≤(tailL s k a lo hi).1∧(tailL s k a lo hi).1≤s.size
 | 0,a,_,_,h=>⟨Nat.le_refl _,h⟩
 | k+1,a,lo,hi,h=>by
  rw [tailL]
  split
  ·exact ⟨Nat.le_refl _,h⟩
  ·split
   ·exact ⟨Nat.le_refl _,h⟩
   ·split
    ·exact ⟨Nat.le_refl _,h⟩
    ·have:=tail_place (s:=s) k (a+1) 128 191 (by omega)
     omega
end Go.Proofs.Tryz
namespace Go.Proofs.Tryz
set_option maxHeartbeats 16000000
open Go.RowKit
set_option maxRecDepth 10000
theorem half_len {s:ByteArray}{start:Nat}{first:Int}:∀ (k i:Nat) (sec:Int),(halfL s start first k i sec).2.2=true→(halfL s start first k i sec).2.1=start+12
 | 0,_,_,_=>rfl
 | k+1,i,sec,h=>by
  rw [halfL] at h ⊢
  split at h
  ·cases h
  ·rename_i hz
   rw [if_neg hz]
   split at h
   ·rename_i h0
    rw [if_pos h0]
    split at h
    ·rename_i h1;rw [if_pos h1];exact half_len k _ _ h
    ·cases h
   ·rename_i h0
    rw [if_neg h0]
    split at h
    ·rename_i h1
     rw [if_pos h1]
     split at h
     ·rename_i h2;rw [if_pos h2];exact half_len k _ _ h
     ·cases h
    ·rename_i h1
     rw [if_neg h1]
     cases hd:hexV (byteAt s (start+6+i)) with
     | none=>rw [hd] at h;cases h
     | some d =>
      rw [hd] at h
      simp only at h ⊢
      split at h
      ·rename_i h2;rw [if_pos h2];exact half_len k _ _ h
      ·cases h
theorem uni_len {s:ByteArray}{start:Nat}:∀ (k i:Nat) (ch:Int),(uniL s start k i ch).2.2=true→(start:Int)+6≤(uniL s start k i ch).2.1
 | 0,_,ch,h=>by
  rw [uniL] at h ⊢
  split at h
  ·rename_i h0;rw [if_pos h0];exact Int.le_refl _
  ·rename_i h0
   rw [if_neg h0]
   split at h
   ·rename_i h1;rw [if_pos h1];exact Int.le_refl _
   ·rename_i h1
    rw [if_neg h1,half_len _ _ _ h]
    omega
 | k+1,i,ch,h=>by
  rw [uniL] at h ⊢
  split at h
  ·cases h
  ·rename_i hz
   rw [if_neg hz]
   cases hd:hexV (byteAt s (start+2+i)) with
   | none=>rw [hd] at h;cases h
   | some d =>
    rw [hd] at h
    simp only at h ⊢
    split at h
    ·rename_i h1
     rw [if_pos h1]
     split at h
     ·cases h
     ·rename_i h2;rw [if_neg h2];exact uni_len k _ _ h
    ·rename_i h1
     rw [if_neg h1]
     exact uni_len k _ _ h
theorem rune_short {r:Int} (h0:0≤r) (h1:r≤127):(Lib.encodeRune r).length=1:=by rw [Lib.encodeRune,Lib.encodeRuneZ_one h0 h1];rfl
theorem rune_four (r:Int):(Lib.encodeRune r).length≤4:=by
 unfold Lib.encodeRune Lib.encodeRuneZ
 rw [List.length_map]
 repeat' split
 all_goals simp
theorem escV_len {s:ByteArray}{a:Nat} (h:(escV s a).2.2=true):((Lib.encodeRune (escV s a).1).length:Int)+a≤(escV s a).2.1:=by
 unfold escV at h ⊢
 split at h
 ·cases h
 ·rename_i hz
  rw [if_neg hz]
  unfold escC at h ⊢
  have one:∀ r:Int,0≤r→r≤127→((Lib.encodeRune r).length:Int)+a≤a+2:=fun r h0 h1=>by rw [rune_short h0 h1];omega
  split at h
  ·rename_i e;rw [if_pos e];exact one _ (by simp) (by simp)
  ·rename_i e;rw [if_neg e]
   split at h
   ·rename_i e;rw [if_pos e];exact one _ (by simp) (by simp)
   ·rename_i e;rw [if_neg e]
    split at h
    ·rename_i e;rw [if_pos e];exact one _ (by simp) (by simp)
    ·rename_i e;rw [if_neg e]
     split at h
     ·rename_i e;rw [if_pos e];exact one _ (by simp) (by simp)
     ·rename_i e;rw [if_neg e]
      split at h
      ·rename_i e;rw [if_pos e];exact one _ (by simp) (by simp)
      ·rename_i e;rw [if_neg e]
       split at h
       ·rename_i e;rw [if_pos e];exact one _ (by simp) (by simp)
       ·rename_i e;rw [if_neg e]
        split at h
        ·rename_i e;rw [if_pos e];exact one _ (by simp) (by simp)
        ·rename_i e;rw [if_neg e]
         split at h
         ·rename_i e;rw [if_pos e];exact one _ (by simp) (by simp)
         ·rename_i e;rw [if_neg e]
          split at h
          ·rename_i e;rw [if_pos e]
           have:=uni_len _ _ _ h
           have:=rune_four (uniL s a 4 0 0).1
           omega
          ·cases h
theorem strL_len {s:ByteArray}:∀ (k a:Nat) (cs:List UInt8),a≤s.size→(strL s k a cs).2.2=true→((strL s k a cs).1.length:Int)+a+1≤cs.length+(strL s k a cs).2.1
 | 0,a,cs,_,h=>by simp [strL] at h
 | k+1,a,cs,hle,h=>by
  rw [strL] at h ⊢
  split at h
  ·cases h
  ·rename_i hz
   rw [if_neg hz]
   split at h
   ·rename_i h34
    rw [if_pos h34]
    simp only
    omega
   ·rename_i h34
    rw [if_neg h34]
    split at h
    ·cases h
    ·rename_i h32
     rw [if_neg h32]
     split at h
     ·rename_i h92
      rw [if_pos h92]
      split at h
      ·rename_i hok
       rw [if_pos hok]
       have hl:=escV_len hok
       obtain ⟨_,_,q,hq,hq1,hq2⟩:=esc_good (s:=s) (a:=a) (by omega) hok
       rw [hq] at hl
       rw [hq,Int.toNat_natCast] at h ⊢
       have:=strL_len k q _ hq2 h
       rw [List.length_append] at this
       omega
      ·cases h
     ·rename_i h92
      rw [if_neg h92]
      split at h
      ·cases h
      ·rename_i hf
       rw [if_neg hf]
       have ht:=tail_place (s:=s) (followV (byteAt s a)).2.2.toNat (a+1) (followV (byteAt s a)).1 (followV (byteAt s a)).2.1 (by omega)
       split at h
       ·rename_i hok
        rw [if_pos hok]
        have:=strL_len k _ _ ht.2 h
        rw [List.length_append,List.length_take,List.length_drop,size_list] at this
        omega
       ·cases h
end Go.Proofs.Tryz
namespace Go.Proofs.Tryz
set_option maxHeartbeats 16000000
open Go.RowKit
set_option maxRecDepth 10000
theorem token_no2 {RS:ByteArray→Nat→ByteArray×Int×Bool} (s:ByteArray) (a:Nat) (w:World) (hs:s.size≤2000) (ha:a < s.size) (hl:isLetterB s[a]=false) (hdg:isDigitB s[a]=false) (hq:¬ (s[a].toNat:Int)=34) (h36:¬ (s[a].toNat:Int)=36) (ha2:a+1 < s.size) (HT:Aside (∀ w:World,Calls Tryz.prog 50 #[.string ⟨#[32,46,46,32,47,47,32,61,61,32,33,61,32,60,61,32,62,61,32,124,61,32]⟩,.string (⟨#[32]⟩ ++ s.extract a (a+2) ++ ⟨#[32]⟩)] w fun e w'=>e = .returned (.bool false)∧w'=w)) (HO:Aside (∀ w:World,Calls Tryz.prog 50 #[.string ⟨#[46,124,44,60,62,61,43,45,42,47,37,63,40,41,91,93,123,125,58,59]⟩,.string (s.extract a (a+1))] w fun e w'=>e = .returned (.bool false)∧w'=w)) (hk:(tokAt RS s a).1=⟨1,⟨#[]⟩,a⟩) :
  Calls Tryz.prog 25 #[.string s,.int .i64 a] w fun e w'=>∃ k x n p b,e = .returned (.tuple #[.agg #[.int .u8 k,.string x,.int .i64 n,.int .i64 p],.int .i64 b])∧RTk (tokAt RS s a).1 k x n p∧((tokAt RS s a).1.kind≠1→b=((tokAt RS s a).2:Nat))∧Below w.heap.size w w':=by
 have ha':(a:Int) < (s.size:Int):=by omega
 have ha2':(a:Int)+1 < (s.size:Int):=by omega
 rw [hk]
 clear hk
 simp only
 go_enter Tryz.func25,Tryz.ntmps25
 go_wp2_with fail
 refine Calls.mono (small_any s[a] _) ?_
 rintro e w1 ⟨rfl,h1⟩
 subst w1
 rw [hl]
 go_wp2_with fail
 refine Calls.mono (figure_any s[a] _) ?_
 rintro e w1 ⟨rfl,h1⟩
 subst w1
 rw [hdg]
 go_wp2_with fail
 refine Calls.mono (HT.out _) ?_
 rintro e w1 ⟨rfl,h1⟩
 subst w1
 go_wp2_with fail
 refine Calls.mono (HO.out _) ?_
 rintro e w1 ⟨rfl,h1⟩
 subst w1
 go_wp2_with fail
 refine bodyPost_ret (v:=.tuple #[.agg #[.int .u8 98,.string ⟨#[]⟩,.int .i64 0,.int .i64 a],.int .i64 ((a+1:Nat):Int)]) (by simp [results,Tryz.results25,go_sem]) rfl ?_
 exact ⟨_,_,_,_,_,rfl,⟨rfl,rfl,fun _ h=>absurd rfl h,fun h=>absurd (show (1:Int)=5 from h) (by decide)⟩,fun h=>absurd rfl h,(by repeat' (first | exact Below.refl _ _ | refine Below.setCell ?_ (by simp) _ | refine Below.dN ?_ _ | refine Below.alloc ?_ (by simp) _))⟩
theorem token_no1 {RS:ByteArray→Nat→ByteArray×Int×Bool} (s:ByteArray) (a:Nat) (w:World) (hs:s.size≤2000) (ha:a < s.size) (hl:isLetterB s[a]=false) (hdg:isDigitB s[a]=false) (hq:¬ (s[a].toNat:Int)=34) (h36:¬ (s[a].toNat:Int)=36) (ha2:¬ a+1 < s.size) (HO:Aside (∀ w:World,Calls Tryz.prog 50 #[.string ⟨#[46,124,44,60,62,61,43,45,42,47,37,63,40,41,91,93,123,125,58,59]⟩,.string (s.extract a (a+1))] w fun e w'=>e = .returned (.bool false)∧w'=w)) (hk:(tokAt RS s a).1=⟨1,⟨#[]⟩,a⟩) :
  Calls Tryz.prog 25 #[.string s,.int .i64 a] w fun e w'=>∃ k x n p b,e = .returned (.tuple #[.agg #[.int .u8 k,.string x,.int .i64 n,.int .i64 p],.int .i64 b])∧RTk (tokAt RS s a).1 k x n p∧((tokAt RS s a).1.kind≠1→b=((tokAt RS s a).2:Nat))∧Below w.heap.size w w':=by
 have ha':(a:Int) < (s.size:Int):=by omega
 have ha2':¬ (a:Int)+1 < (s.size:Int):=by omega
 rw [hk]
 clear hk
 simp only
 go_enter Tryz.func25,Tryz.ntmps25
 go_wp2_with fail
 refine Calls.mono (small_any s[a] _) ?_
 rintro e w1 ⟨rfl,h1⟩
 subst w1
 rw [hl]
 go_wp2_with fail
 refine Calls.mono (figure_any s[a] _) ?_
 rintro e w1 ⟨rfl,h1⟩
 subst w1
 rw [hdg]
 go_wp2_with fail
 refine Calls.mono (HO.out _) ?_
 rintro e w1 ⟨rfl,h1⟩
 subst w1
 go_wp2_with fail
 refine bodyPost_ret (v:=.tuple #[.agg #[.int .u8 98,.string ⟨#[]⟩,.int .i64 0,.int .i64 a],.int .i64 ((a+1:Nat):Int)]) (by simp [results,Tryz.results25,go_sem]) rfl ?_
 exact ⟨_,_,_,_,_,rfl,⟨rfl,rfl,fun _ h=>absurd rfl h,fun h=>absurd (show (1:Int)=5 from h) (by decide)⟩,fun h=>absurd rfl h,(by repeat' (first | exact Below.refl _ _ | refine Below.setCell ?_ (by simp) _ | refine Below.dN ?_ _ | refine Below.alloc ?_ (by simp) _))⟩
end Go.Proofs.Tryz
namespace Go.Proofs.Tryz
set_option maxHeartbeats 16000000
open Go.RowKit
set_option maxRecDepth 10000
theorem token_one2 {RS:ByteArray→Nat→ByteArray×Int×Bool} (s:ByteArray) (a:Nat) (w:World) (hs:s.size≤2000) (ha:a < s.size) (hl:isLetterB s[a]=false) (hdg:isDigitB s[a]=false) (hq:¬ (s[a].toNat:Int)=34) (h36:¬ (s[a].toNat:Int)=36) (ha2:a+1 < s.size) (HT:Aside (∀ w:World,Calls Tryz.prog 50 #[.string ⟨#[32,46,46,32,47,47,32,61,61,32,33,61,32,60,61,32,62,61,32,124,61,32]⟩,.string (⟨#[32]⟩ ++ s.extract a (a+2) ++ ⟨#[32]⟩)] w fun e w'=>e = .returned (.bool false)∧w'=w)) (HO:Aside (∀ w:World,Calls Tryz.prog 50 #[.string ⟨#[46,124,44,60,62,61,43,45,42,47,37,63,40,41,91,93,123,125,58,59]⟩,.string (s.extract a (a+1))] w fun e w'=>e = .returned (.bool true)∧w'=w)) (hk:tokAt RS s a=(⟨7,s.extract a (a+1),a⟩,a+1)) :
  Calls Tryz.prog 25 #[.string s,.int .i64 a] w fun e w'=>∃ k x n p b,e = .returned (.tuple #[.agg #[.int .u8 k,.string x,.int .i64 n,.int .i64 p],.int .i64 b])∧RTk (tokAt RS s a).1 k x n p∧((tokAt RS s a).1.kind≠1→b=((tokAt RS s a).2:Nat))∧Below w.heap.size w w':=by
 have ha':(a:Int) < (s.size:Int):=by omega
 have ha2':(a:Int)+1 < (s.size:Int):=by omega
 rw [hk]
 clear hk
 simp only
 go_enter Tryz.func25,Tryz.ntmps25
 go_wp2_with fail
 refine Calls.mono (small_any s[a] _) ?_
 rintro e w1 ⟨rfl,h1⟩
 subst w1
 rw [hl]
 go_wp2_with fail
 refine Calls.mono (figure_any s[a] _) ?_
 rintro e w1 ⟨rfl,h1⟩
 subst w1
 rw [hdg]
 go_wp2_with fail
 refine Calls.mono (HT.out _) ?_
 rintro e w1 ⟨rfl,h1⟩
 subst w1
 go_wp2_with fail
 refine Calls.mono (HO.out _) ?_
 rintro e w1 ⟨rfl,h1⟩
 subst w1
 go_wp2_with fail
 refine bodyPost_ret (v:=.tuple #[.agg #[.int .u8 112,.string (s.extract a (a+1)),.int .i64 0,.int .i64 a],.int .i64 ((a+1:Nat):Int)]) (by simp [results,Tryz.results25,go_sem]) rfl ?_
 exact ⟨_,_,_,_,_,rfl,⟨rfl,rfl,fun _ _ _=>rfl,fun h=>absurd (show (7:Int)=5 from h) (by decide)⟩,fun _=>rfl,(by repeat' (first | exact Below.refl _ _ | refine Below.setCell ?_ (by simp) _ | refine Below.dN ?_ _ | refine Below.alloc ?_ (by simp) _))⟩
theorem token_one1 {RS:ByteArray→Nat→ByteArray×Int×Bool} (s:ByteArray) (a:Nat) (w:World) (hs:s.size≤2000) (ha:a < s.size) (hl:isLetterB s[a]=false) (hdg:isDigitB s[a]=false) (hq:¬ (s[a].toNat:Int)=34) (h36:¬ (s[a].toNat:Int)=36) (ha2:¬ a+1 < s.size) (HO:Aside (∀ w:World,Calls Tryz.prog 50 #[.string ⟨#[46,124,44,60,62,61,43,45,42,47,37,63,40,41,91,93,123,125,58,59]⟩,.string (s.extract a (a+1))] w fun e w'=>e = .returned (.bool true)∧w'=w)) (hk:tokAt RS s a=(⟨7,s.extract a (a+1),a⟩,a+1)) :
  Calls Tryz.prog 25 #[.string s,.int .i64 a] w fun e w'=>∃ k x n p b,e = .returned (.tuple #[.agg #[.int .u8 k,.string x,.int .i64 n,.int .i64 p],.int .i64 b])∧RTk (tokAt RS s a).1 k x n p∧((tokAt RS s a).1.kind≠1→b=((tokAt RS s a).2:Nat))∧Below w.heap.size w w':=by
 have ha':(a:Int) < (s.size:Int):=by omega
 have ha2':¬ (a:Int)+1 < (s.size:Int):=by omega
 rw [hk]
 clear hk
 simp only
 go_enter Tryz.func25,Tryz.ntmps25
 go_wp2_with fail
 refine Calls.mono (small_any s[a] _) ?_
 rintro e w1 ⟨rfl,h1⟩
 subst w1
 rw [hl]
 go_wp2_with fail
 refine Calls.mono (figure_any s[a] _) ?_
 rintro e w1 ⟨rfl,h1⟩
 subst w1
 rw [hdg]
 go_wp2_with fail
 refine Calls.mono (HO.out _) ?_
 rintro e w1 ⟨rfl,h1⟩
 subst w1
 go_wp2_with fail
 refine bodyPost_ret (v:=.tuple #[.agg #[.int .u8 112,.string (s.extract a (a+1)),.int .i64 0,.int .i64 a],.int .i64 ((a+1:Nat):Int)]) (by simp [results,Tryz.results25,go_sem]) rfl ?_
 exact ⟨_,_,_,_,_,rfl,⟨rfl,rfl,fun _ _ _=>rfl,fun h=>absurd (show (7:Int)=5 from h) (by decide)⟩,fun _=>rfl,(by repeat' (first | exact Below.refl _ _ | refine Below.setCell ?_ (by simp) _ | refine Below.dN ?_ _ | refine Below.alloc ?_ (by simp) _))⟩
end Go.Proofs.Tryz
