import Derived.Test.YtfocepfmpnpaiaaGreatDoorYa4
import Derived.Deep.LoopGhost
import Derived.Handy
set_option linter.all false
namespace Go.Proofs.Tryz
set_option maxHeartbeats 16000000
open Go.RowKit
set_option maxRecDepth 10000
theorem ret_bool {a b:Bool} (h:a=b):Ending.returned (.bool a) = .returned (.bool b):=by rw [h]
theorem ret_int {k:IntKind}{a b:Int} (h:a=b):Ending.returned (.int k a) = .returned (.int k b):=by rw [h]
def isBlankB (c:UInt8):Bool:=c == 32 || c == 9 || c == 10 || c == 13
def isLetterB (c:UInt8):Bool:=(97≤c && c≤122) || c == 95
def isDigitB (c:UInt8):Bool:=48≤c && c≤57
theorem isBlank_any (c:UInt8) (w:World):Calls Tryz.prog 34 #[.int .u8 c.toNat] w fun e w'=>e = .returned (.bool (isBlankB c))∧w'=w:=by
 go_enter Tryz.func34,Tryz.ntmps34
 have e:isBlankB c=(decide ((c.toNat:Int)=32) || decide ((c.toNat:Int)=9) || decide ((c.toNat:Int)=10) || decide ((c.toNat:Int)=13)):=by
  rw [Bool.eq_iff_iff];simp [isBlankB,← UInt8.toNat_inj];omega
 rw [e]
 clear e
 go_wp2
 all_goals
  go_ret
  refine ⟨ret_bool ?_,rfl⟩
  rw [Bool.eq_iff_iff]
  first | done | (simp;done) | (simp;omega)
theorem isLetter_any (c:UInt8) (w:World):Calls Tryz.prog 61 #[.int .u8 c.toNat] w fun e w'=>e = .returned (.bool (isLetterB c))∧w'=w:=by
 go_enter Tryz.func61,Tryz.ntmps61
 have e:isLetterB c=((decide (97≤(c.toNat:Int)) && decide ((c.toNat:Int)≤122)) || decide ((c.toNat:Int)=95)):=by
  rw [Bool.eq_iff_iff];simp [isLetterB,← UInt8.toNat_inj,UInt8.le_iff_toNat_le];omega
 rw [e]
 clear e
 go_wp2
 all_goals
  go_ret
  refine ⟨ret_bool ?_,rfl⟩
  rw [Bool.eq_iff_iff]
  first | done | (simp;done) | (simp;omega)
theorem isDigit_any (c:UInt8) (w:World):Calls Tryz.prog 64 #[.int .u8 c.toNat] w fun e w'=>e = .returned (.bool (isDigitB c))∧w'=w:=by
 go_enter Tryz.func64,Tryz.ntmps64
 have e:isDigitB c=(decide (48≤(c.toNat:Int)) && decide ((c.toNat:Int)≤57)):=by
  rw [Bool.eq_iff_iff];simp [isDigitB,UInt8.le_iff_toNat_le];omega
 rw [e]
 clear e
 go_wp2
 all_goals
  go_ret
  refine ⟨ret_bool ?_,rfl⟩
  rw [Bool.eq_iff_iff]
  first | done | (simp;done) | (simp;omega)
theorem at_list (s:ByteArray) (k:Nat) (h:k < s.size):s.data.toList[k]? = some s[k]:=by
 simp [ByteArray.getElem_eq_getElem_data]
theorem drop_at (s:ByteArray) (k:Nat) (h:k < s.size):s.data.toList.drop k=s[k] :: s.data.toList.drop (k+1):=by
 rw [List.drop_eq_getElem_cons (by simpa using h)]
 rfl
def nameLenR:List UInt8→Nat
 | []=>0
 | c :: l=>if isLetterB c || isDigitB c then nameLenR l+1 else 0
def nameLen:List UInt8→Nat
 | []=>0
 | c :: l=>if isLetterB c then nameLenR l+1 else 0
theorem nameLenR_le:∀ l,nameLenR l≤l.length
 | []=>Nat.le_refl _
 | c :: l=>by have:=nameLenR_le l;simp only [nameLenR,List.length_cons];split <;> omega
theorem nameLen_le (l:List UInt8):nameLen l≤l.length:=by
 match l with
 | []=>exact Nat.le_refl _
 | c :: l=>have:=nameLenR_le l;simp only [nameLen,List.length_cons];split <;> omega
theorem nameEnd_any (s:ByteArray) (a:Nat) (w:World) (hs:s.size≤100000) (ha:a≤s.size) :
  Calls Tryz.prog 62 #[.string s,.int .i64 a] w fun e w'=>e = .returned (.int .i64 ((a+nameLen (s.data.toList.drop a):Nat):Int))∧w'=w:=by
 obtain ⟨N,hN⟩:∃ N,nameLen (s.data.toList.drop a)=N:=⟨_,rfl⟩
 rw [hN]
 have HN:Hid _:=hN
 clear hN
 go_enter Tryz.func62,Tryz.ntmps62
 go_wp2_with fail
 go_loop [5] (fun t=>∃ k:Nat,a≤k∧k≤s.size∧t = .int .i64 k∧(if k=a then nameLen (s.data.toList.drop k) else nameLenR (s.data.toList.drop k))+k=a+N) (fun t=>s.size - (intOf t).toNat)
 case atStart=>exact ⟨a,Nat.le_refl _,ha,rfl,by rw [if_pos rfl,HN.out];omega⟩
 case round =>
  obtain ⟨k,hk1,hk2,rfl,hk⟩:=hrel
  by_cases hlt:k < s.size
  ·rw [drop_at s k hlt] at hk
   have HK:Hid _:=hk
   clear hk
   by_cases hl:isLetterB s[k]=true
   ·go_wp2_with (first
     | (go_at_call 61;refine (isLetter_any _ _).mono ?_;rintro e w1 ⟨rfl,h1⟩;subst w1;rw [hl])
     | (go_at_call 64;refine (isDigit_any _ _).mono ?_;rintro e w1 ⟨rfl,h1⟩;subst w1))
    go_round
    case rel =>
     refine ⟨k+1,by omega,by omega,by go_num,?_⟩
     have h:=HK.out
     rw [if_neg (by omega)]
     split at h
     ·simp only [nameLen,hl,if_true] at h;omega
     ·simp only [nameLenR,hl,Bool.true_or,if_true] at h;omega
    case measure=>simp [intOf];omega
   ·have hl:isLetterB s[k]=false:=by simpa using hl
    by_cases hka:k=a
    ·subst hka
     go_wp2_with (first
      | (go_at_call 61;refine (isLetter_any _ _).mono ?_;rintro e w1 ⟨rfl,h1⟩;subst w1;rw [hl])
      | (go_at_call 64;refine (isDigit_any _ _).mono ?_;rintro e w1 ⟨rfl,h1⟩;subst w1))
     go_ret
     refine ⟨ret_int ?_,rfl⟩
     have h:=HK.out
     simp only [if_true,nameLen,hl,Bool.false_eq_true,if_false] at h
     omega
    ·have hgt:(a:Int) < (k:Int):=by omega
     by_cases hd:isDigitB s[k]=true
     ·go_wp2_with (first
       | (go_at_call 61;refine (isLetter_any _ _).mono ?_;rintro e w1 ⟨rfl,h1⟩;subst w1;rw [hl])
       | (go_at_call 64;refine (isDigit_any _ _).mono ?_;rintro e w1 ⟨rfl,h1⟩;subst w1;rw [hd]))
      go_round
      case rel =>
       refine ⟨k+1,by omega,by omega,by go_num,?_⟩
       have h:=HK.out
       rw [if_neg (by omega)]
       rw [if_neg hka] at h
       simp only [nameLenR,hd,Bool.or_true,if_true] at h;omega
      case measure=>simp [intOf];omega
     ·have hd:isDigitB s[k]=false:=by simpa using hd
      go_wp2_with (first
       | (go_at_call 61;refine (isLetter_any _ _).mono ?_;rintro e w1 ⟨rfl,h1⟩;subst w1;rw [hl])
       | (go_at_call 64;refine (isDigit_any _ _).mono ?_;rintro e w1 ⟨rfl,h1⟩;subst w1;rw [hd]))
      go_ret
      refine ⟨ret_int ?_,rfl⟩
      have h:=HK.out
      rw [if_neg hka] at h
      simp only [nameLenR,hl,hd,Bool.or_false,Bool.false_eq_true,if_false] at h
      omega
  ·have he:k=s.size:=by omega
   have hdrop:s.data.toList.drop k=[]:=List.drop_eq_nil_of_le (by simp;exact Nat.le_of_eq he.symm)
   rw [hdrop] at hk
   have HK:Hid _:=hk
   clear hk hdrop
   have hge:¬ (k:Int) < (s.size:Int):=by omega
   have HE:Hid (k=s.size):=he
   clear he
   go_wp2_with fail
   go_ret
   refine ⟨ret_int ?_,rfl⟩
   have h:=HK.out
   split at h <;> simp only [nameLen,nameLenR] at h <;> omega
end Go.Proofs.Tryz
