import Derived.Test.YtfocepfmpnpaiaaGreatDoorLexS
set_option linter.all false
namespace Go.Proofs.Tryz
set_option maxHeartbeats 16000000
open Go.RowKit
set_option maxRecDepth 10000
theorem small_any (c:UInt8) (w:World):Calls Tryz.prog 48 #[.int .u8 c.toNat] w fun e w'=>e = .returned (.bool (isLetterB c))∧w'=w:=by
 go_enter Tryz.func48,Tryz.ntmps48
 have e:isLetterB c=((decide (97≤(c.toNat:Int)) && decide ((c.toNat:Int)≤122)) || decide ((c.toNat:Int)=95)):=by
  rw [Bool.eq_iff_iff];simp [isLetterB,← UInt8.toNat_inj,UInt8.le_iff_toNat_le];omega
 rw [e]
 clear e
 go_wp2
 all_goals
  go_ret
  refine ⟨ret_bool ?_,rfl⟩
  rw [Bool.eq_iff_iff]
  first | done | (simp;done) | (simp;omega)
theorem figure_any (c:UInt8) (w:World):Calls Tryz.prog 52 #[.int .u8 c.toNat] w fun e w'=>e = .returned (.bool (isDigitB c))∧w'=w:=by
 go_enter Tryz.func52,Tryz.ntmps52
 have e:isDigitB c=(decide (48≤(c.toNat:Int)) && decide ((c.toNat:Int)≤57)):=by
  rw [Bool.eq_iff_iff];simp [isDigitB,UInt8.le_iff_toNat_le];omega
 rw [e]
 clear e
 go_wp2
 all_goals
  go_ret
  refine ⟨ret_bool ?_,rfl⟩
  rw [Bool.eq_iff_iff]
  first | done | (simp;done) | (simp;omega)
theorem ends_any (s:ByteArray) (a:Nat) (w:World) (hs:s.size≤100000) (ha:a≤s.size) :
  Calls Tryz.prog 49 #[.string s,.int .i64 a] w fun e w'=>e = .returned (.int .i64 ((a+nameLenR (s.data.toList.drop a):Nat):Int))∧w'=w:=by
 go_enter Tryz.func49,Tryz.ntmps49
 obtain ⟨A,hA⟩:∃ A,a+nameLenR (s.data.toList.drop a)=A:=⟨_,rfl⟩
 rw [hA]
 have HA:Hid _:=hA
 clear hA
 go_wp2_with fail
 go_loop [1] (fun t=>∃ j:Nat,a≤j∧j≤s.size∧t = .int .i64 j∧nameLenR (s.data.toList.drop j)+j=A) (fun t=>s.size - (intOf t).toNat)
 case atStart=>exact ⟨a,Nat.le_refl _,ha,rfl,by rw [← HA.out];omega⟩
 case round =>
  obtain ⟨j,hj1,hj2,rfl,hj⟩:=hrel
  by_cases hlt:j < s.size
  ·rw [drop_at s j hlt] at hj
   by_cases hl:isLetterB s[j]=true
   ·simp only [nameLenR,hl,Bool.true_or,if_true] at hj
    have HJ:Hid _:=hj
    clear hj
    go_wp2_with (go_at_call 48;refine (small_any _ _).mono ?_;rintro e w1 ⟨rfl,h1⟩;subst w1;rw [hl])
    go_round
    case rel=>exact ⟨j+1,by omega,by omega,by go_num,by have:=HJ.out;omega⟩
    case measure=>simp [intOf];omega
   ·have hl:isLetterB s[j]=false:=by simpa using hl
    by_cases hd:isDigitB s[j]=true
    ·simp only [nameLenR,hl,hd,Bool.false_or,if_true] at hj
     have HJ:Hid _:=hj
     clear hj
     go_wp2_with (first
      | (go_at_call 48;refine (small_any _ _).mono ?_;rintro e w1 ⟨rfl,h1⟩;subst w1;rw [hl])
      | (go_at_call 52;refine (figure_any _ _).mono ?_;rintro e w1 ⟨rfl,h1⟩;subst w1;rw [hd]))
     go_round
     case rel=>exact ⟨j+1,by omega,by omega,by go_num,by have:=HJ.out;omega⟩
     case measure=>simp [intOf];omega
    ·have hd:isDigitB s[j]=false:=by simpa using hd
     have hjA:j=A:=by simp only [nameLenR,hl,hd,Bool.false_or,Bool.false_eq_true,if_false] at hj;omega
     clear hj
     subst hjA
     go_wp2_with (first
      | (go_at_call 48;refine (small_any _ _).mono ?_;rintro e w1 ⟨rfl,h1⟩;subst w1;rw [hl])
      | (go_at_call 52;refine (figure_any _ _).mono ?_;rintro e w1 ⟨rfl,h1⟩;subst w1;rw [hd]))
     go_ret
     exact ⟨rfl,rfl⟩
  ·have hdrop:s.data.toList.drop j=[]:=List.drop_eq_nil_of_le (by simp;omega)
   rw [hdrop] at hj
   have hjA:j=A:=by simp only [nameLenR] at hj;omega
   clear hj
   subst hjA
   have hnl:¬ (j:Int) < (s.size:Int):=by omega
   go_wp2_with fail
   go_ret
   exact ⟨rfl,rfl⟩
theorem blanksR_any (s:ByteArray) (a:Nat) (w:World) (hs:s.size≤100000) (ha:a≤s.size) :
  Calls Tryz.prog 24 #[.string s,.int .i64 a] w fun e w'=>e = .returned (.int .i64 ((a+blanks (s.data.toList.drop a):Nat):Int))∧w'=w:=by
 go_enter Tryz.func24,Tryz.ntmps24
 obtain ⟨A,hA⟩:∃ A,a+blanks (s.data.toList.drop a)=A:=⟨_,rfl⟩
 rw [hA]
 have HA:Hid _:=hA
 clear hA
 go_wp2_with fail
 go_loop [1] (fun t=>∃ j:Nat,a≤j∧j≤s.size∧t = .int .i64 j∧blanks (s.data.toList.drop j)+j=A) (fun t=>s.size - (intOf t).toNat)
 case atStart=>exact ⟨a,Nat.le_refl _,ha,rfl,by rw [← HA.out];omega⟩
 case round =>
  obtain ⟨j,hj1,hj2,rfl,hj⟩:=hrel
  by_cases hlt:j < s.size
  ·rw [drop_at s j hlt] at hj
   have e:isBlankB s[j]=(decide ((s[j].toNat:Int)=32) || decide ((s[j].toNat:Int)=9) || decide ((s[j].toNat:Int)=10) || decide ((s[j].toNat:Int)=13)):=by
    rw [Bool.eq_iff_iff];simp [isBlankB,← UInt8.toNat_inj];omega
   by_cases hl:isBlankB s[j]=true
   ·simp only [blanks,hl,if_true] at hj
    rw [hl] at e
    have HJ:Hid _:=hj
    clear hj hl
    simp only [eq_comm (a:=true),Bool.or_eq_true,decide_eq_true_eq] at e
    rcases e with ((e | e) | e) | e
    all_goals
     have n1:=e
     go_wp2_with fail
     go_round
     case rel=>exact ⟨j+1,by omega,by omega,by go_num,by have:=HJ.out;omega⟩
     case measure=>simp [intOf];omega
   ·have hl:isBlankB s[j]=false:=by simpa using hl
    rw [hl] at e
    have hjA:j=A:=by simp only [blanks,hl,Bool.false_eq_true,if_false] at hj;omega
    clear hj hl
    subst hjA
    simp only [eq_comm (a:=false),Bool.or_eq_false_iff,decide_eq_false_iff_not] at e
    obtain ⟨⟨⟨e1,e2⟩,e3⟩,e4⟩:=e
    go_wp2_with fail
    all_goals first
     | (go_ret;exact ⟨rfl,rfl⟩)
     | (rename_i h;exfalso;simp only [beq_iff_eq] at h;omega)
  ·have hdrop:s.data.toList.drop j=[]:=List.drop_eq_nil_of_le (by simp;omega)
   rw [hdrop] at hj
   have hjA:j=A:=by simp only [blanks] at hj;omega
   clear hj
   subst hjA
   have hnl:¬ (j:Int) < (s.size:Int):=by omega
   go_wp2_with fail
   go_ret
   exact ⟨rfl,rfl⟩
def withinB:List UInt8→List UInt8→Bool
 | [],s=>s == []
 | c :: l,s=>s.isPrefixOf (c :: l) || withinB l s
theorem withinB_short {s:List UInt8}:∀ {l:List UInt8},l.length < s.length→withinB l s=false
 | [],h=>by cases s with
  | nil=>simp at h
  | cons c s=>rfl
 | c :: l,h=>by
  have h1:s.isPrefixOf (c :: l)=false:=by
   rw [Bool.eq_false_iff]
   intro e
   have:=(List.isPrefixOf_iff_prefix.1 e).length_le
   omega
  simp only [withinB,h1,Bool.false_or]
  exact withinB_short (by simp at h;omega)
theorem within_any (l s:ByteArray) (w:World) (hl:l.size≤100000) (hs:s.size≤100000) (h0:0 < s.size) :
  Calls Tryz.prog 50 #[.string l,.string s] w fun e w'=>e = .returned (.bool (withinB l.data.toList s.data.toList))∧w'=w:=by
 go_enter Tryz.func50,Tryz.ntmps50
 obtain ⟨A,hA⟩:∃ A,withinB l.data.toList s.data.toList=A:=⟨_,rfl⟩
 rw [hA]
 have HA:Hid _:=hA
 clear hA
 go_wp2_with fail
 go_loop [5] (fun t=>∃ j:Nat,j≤l.size∧t = .int .i64 j∧withinB (l.data.toList.drop j) s.data.toList=A) (fun t=>l.size - (intOf t).toNat)
 case atStart=>exact ⟨0,Nat.zero_le _,rfl,HA.out⟩
 case round =>
  obtain ⟨j,hj2,rfl,hj⟩:=hrel
  by_cases hlt:j+s.size≤l.size
  ·have hlt':(j:Int)+(s.size:Int)≤(l.size:Int):=by omega
   rw [drop_at l j (by omega)] at hj
   have he:((l.extract j (j+s.size)).toList == s.toList)=s.data.toList.isPrefixOf (l.data.toList.drop j):=by
    rw [Bool.eq_iff_iff,ByteArray.toList_eq,ByteArray.toList_eq,extract_list,beq_iff_eq,List.isPrefixOf_iff_prefix,List.prefix_iff_eq_take,size_list,Nat.add_sub_cancel_left]
    exact eq_comm
   simp only [withinB] at hj
   rw [← drop_at l j (by omega)] at hj
   rw [← he] at hj
   clear he
   cases hb:((l.extract j (j+s.size)).toList == s.toList) with
   | true =>
    rw [hb] at hj
    simp only [Bool.true_or] at hj
    subst hj
    have hb:=beq_iff_eq.1 hb
    go_wp2_with fail
    go_ret
    exact ⟨rfl,rfl⟩
   | false =>
    rw [hb] at hj
    simp only [Bool.false_or] at hj
    have hb:¬ (l.extract j (j+s.size)).toList=s.toList:=by simpa using hb
    go_wp2_with fail
    go_round
    case rel=>exact ⟨j+1,by omega,by go_num,hj⟩
    case measure=>simp [intOf];omega
  ·have hlt':¬ (j:Int)+(s.size:Int)≤(l.size:Int):=by omega
   rw [withinB_short (by rw [List.length_drop,size_list,size_list];omega)] at hj
   subst hj
   go_wp2_with fail
   go_ret
   exact ⟨rfl,rfl⟩
def spaced (ws:List (List UInt8)):List UInt8:=32 :: ws.flatMap (· ++ [32])
theorem prefix_blank:∀ (x w r:List UInt8),32 ∉ x→32 ∉ w→((x ++ [32]).isPrefixOf (w ++ [32] ++ r)=true↔x=w)
 | [],[],r,_,_=>by simp
 | [],c :: w,r,_,hw=>by
  simp only [List.mem_cons,not_or] at hw
  have:(32 == c)=false:=by simpa using hw.1
  simp [List.isPrefixOf,this]
 | c :: x,[],r,hx,_=>by
  simp only [List.mem_cons,not_or] at hx
  have:(c == 32)=false:=by simpa using fun e=>hx.1 e.symm
  simp [List.isPrefixOf,this]
 | c :: x,d :: w,r,hx,hw=>by
  simp only [List.mem_cons,not_or] at hx hw
  have ih:=prefix_blank x w r hx.2 hw.2
  show (c == d && (x ++ [32]).isPrefixOf (w ++ [32] ++ r))=true↔_
  rw [Bool.and_eq_true,ih,List.cons.injEq,beq_iff_eq]
theorem within_past (x r:List UInt8):∀ w:List UInt8,32 ∉ w→withinB (w ++ r) (32 :: x)=withinB r (32 :: x)
 | [],_=>rfl
 | c :: w,hw=>by
  simp only [List.mem_cons,not_or] at hw
  have:(32 == c)=false:=by simpa using hw.1
  show (List.isPrefixOf (32 :: x) (c :: (w ++ r)) || withinB (w ++ r) (32 :: x))=_
  simp only [List.isPrefixOf,this,Bool.false_and,Bool.false_or]
  exact within_past x r w hw.2
theorem within_spaced (x:List UInt8) (hx:32 ∉ x) (h0:x≠[]):∀ ws:List (List UInt8),(∀ w∈ws,32 ∉ w)→withinB (spaced ws) (32 :: (x ++ [32]))=ws.contains x
 | [],_=>by
  cases x with
  | nil=>exact absurd rfl h0
  | cons c x=>simp [spaced,withinB,List.isPrefixOf]
 | w :: ws,hw=>by
  have h1:withinB (spaced (w :: ws)) (32 :: (x ++ [32]))=((x ++ [32]).isPrefixOf (w ++ [32] ++ ws.flatMap (· ++ [32])) || withinB (w ++ spaced ws) (32 :: (x ++ [32]))):=by
   simp [spaced,withinB,List.isPrefixOf]
  rw [h1,within_past _ _ _ (hw w (.head _)),within_spaced x hx h0 ws (fun w h=>hw w (.tail _ h)),Bool.eq_iff_iff]
  rw [Bool.or_eq_true,prefix_blank _ _ _ hx (hw w (.head _))]
  simp
end Go.Proofs.Tryz
