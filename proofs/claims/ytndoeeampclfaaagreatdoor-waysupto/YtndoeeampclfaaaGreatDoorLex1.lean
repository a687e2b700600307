import Derived.Test.YtndoeeampclfaaaGreatDoorTree
import Derived.Deep.LoopGhost
import Derived.Deep.QuietTactic
import Derived.BigQuiet
import Derived.Handy
set_option linter.all false
namespace Go.Proofs.Tryz
set_option maxHeartbeats 16000000
open Go.RowKit
set_option maxRecDepth 10000
abbrev Env:=List (Int×ByteArray×Int)
def Scope (w:World):Value→Env→Prop
 | v,[]=>v = .pointer none
 | v,(u,n,k) :: env=>∃ b a,v = .pointer (some ⟨b,0,none⟩)∧w.cell? ⟨b,0,none⟩=some (.int .u8 u)∧w.cell? ⟨b,1,none⟩=some (.string n)∧w.cell? ⟨b,2,none⟩=some (.int .i64 k)∧w.cell? ⟨b,3,none⟩=some a∧Scope w a env
theorem Scope.below {w w':World}(k:Below w.heap.size w w'):∀ {v:Value}{env:Env},Scope w v env→Scope w' v env
 | _,[],h=>h
 | _,(_,_,_) :: _,⟨b,a,e,h0,h1,h2,h3,h4⟩=>⟨b,a,e,(k.cell (p:=⟨b,0,none⟩) (cell_lt h0)).trans h0,(k.cell (p:=⟨b,1,none⟩) (cell_lt h0)).trans h1,(k.cell (p:=⟨b,2,none⟩) (cell_lt h0)).trans h2,(k.cell (p:=⟨b,3,none⟩) (cell_lt h0)).trans h3,Scope.below k h4⟩
theorem Scope.ptr {w:World}{v:Value}{env:Env}(h:Scope w v env):∃ p,v = .pointer p:=by
 match env,h with
 | [],h=>exact ⟨none,h⟩
 | (_,_,_) :: _,⟨b,a,e,_⟩=>exact ⟨_,e⟩
def hasE (u:Int) (n:ByteArray) (k:Int) (e:Int×ByteArray×Int):Bool:=e.1 == u && (e.2.1.data.toList == n.data.toList && e.2.2 == k)
def hasB (env:Env) (u:Int) (n:ByteArray) (k:Int):Bool:=env.any (hasE u n k)
theorem has_any (v:Value) (env:Env) (u:Int) (n:ByteArray) (k:Int) (w:World) (h:Scope w v env) :
  Calls Tryz.prog 141 #[v,.int .u8 u,.string n,.int .i64 k] w fun e w'=>e = .returned (.bool (hasB env u n k))∧w'=w:=by
 obtain ⟨R,hR⟩:∃ R,hasB env u n k=R:=⟨_,rfl⟩
 rw [hR]
 go_enter Tryz.func141,Tryz.ntmps141
 go_wp2_with fail
 go_loopg [0] env.length (fun j t wr=>wr=w∧∃ env':Env,env'.length=j∧Scope w t env'∧hasB env' u n k=R)
 case atStart=>exact ⟨rfl,env,rfl,h,hR⟩
 case round =>
  clear hR
  obtain ⟨rfl,env',hl,hsc,hR⟩:=hrel
  match env',hl,hsc,hR with
  | [],hl,hsc,hR =>
   cases hsc
   simp [hasB] at hR
   subst hR
   go_wp2_with fail
   go_ret
   exact ⟨rfl,rfl⟩
  | (u',n',k') :: env',hl,⟨b,a,e,h0,h1,h2,h3,h4⟩,hR =>
   subst e
   simp only [hasB,List.any_cons] at hR
   obtain ⟨q,rfl⟩:=h4.ptr
   by_cases hu:u'=u
   ·subst hu
    by_cases hn:n'.toList=n.toList
    ·by_cases hk:k'=k
     ·subst hk
      have:R=true:=by rw [← hR];simp [hasE,← ByteArray.toList_eq,hn]
      subst this
      go_wp2_with fail
      go_ret
      exact ⟨rfl,rfl⟩
     ·have hk':(k' == k)=false:=by simpa using hk
      have hR':hasB env' u' n k=R:=by rw [← hR];simp [hasE,hk',hasB]
      go_wp2_with fail
      go_roundg env'.length
      case measure=>simp at hl;omega
      case rel=>exact ⟨rfl,env',rfl,h4,hR'⟩
    ·have hn':(n'.toList == n.toList)=false:=by simpa using hn
     have hR':hasB env' u' n k=R:=by rw [← hR];simp [hasE,← ByteArray.toList_eq,hn',hasB]
     go_wp2_with fail
     go_roundg env'.length
     case measure=>simp at hl;omega
     case rel=>exact ⟨rfl,env',rfl,h4,hR'⟩
   ·have hu':(u' == u)=false:=by simpa using hu
    have hR':hasB env' u n k=R:=by rw [← hR];simp [hasE,hu',hasB]
    go_wp2_with fail
    go_roundg env'.length
    case measure=>simp at hl;omega
    case rel=>exact ⟨rfl,env',rfl,h4,hR'⟩
theorem with_any (v:Value) (env:Env) (u:Int) (n:ByteArray) (k:Int) (w:World) (h:Scope w v env) :
  Calls Tryz.prog 199 #[v,.int .u8 u,.string n,.int .i64 k] w fun e w'=>∃ b,e = .returned (.pointer (some ⟨b,0,none⟩))∧Scope w' (.pointer (some ⟨b,0,none⟩)) ((u,n,k) :: env)∧Below w.heap.size w w':=by
 obtain ⟨q,rfl⟩:=h.ptr
 go_enter Tryz.func199,Tryz.ntmps199
 go_wp2_with fail
 go_ret
 exact ⟨_,rfl,⟨_,_,rfl,box_cell _ _ _ _,box_cell _ _ _ _,box_cell _ _ _ _,box_cell _ _ _ _,h.below (below_alloc _ _)⟩,below_alloc _ _⟩
end Go.Proofs.Tryz
namespace Go.Proofs.Tryz
set_option maxHeartbeats 16000000
open Go.RowKit
set_option maxRecDepth 10000
theorem ret_bool {a b:Bool}(h:a=b):Ending.returned (.bool a) = .returned (.bool b):=by rw [h]
theorem ret_int {k:IntKind}{a b:Int}(h:a=b):Ending.returned (.int k a) = .returned (.int k b):=by rw [h]
def isBlankB (c:UInt8):Bool:=c == 32 || c == 9 || c == 10 || c == 13
def isLetterB (c:UInt8):Bool:=(97≤c && c≤122) || c == 95
def isDigitB (c:UInt8):Bool:=48≤c && c≤57
theorem isBlank_any (c:UInt8) (w:World):Calls Tryz.prog 34 #[.int .u8 c.toNat] w fun e w'=>e = .returned (.bool (isBlankB c))∧w'=w:=by
 go_enter Tryz.func34,Tryz.ntmps34
 have e:isBlankB c=(decide ((c.toNat:Int)=32) || decide ((c.toNat:Int)=9) || decide ((c.toNat:Int)=10) || decide ((c.toNat:Int)=13)):=by
  rw [Bool.eq_iff_iff];simp [isBlankB,← UInt8.toNat_inj];omega
 rw [e]
 clear e
 go_wp2
 all_goals
  go_ret
  refine ⟨ret_bool ?_,rfl⟩
  rw [Bool.eq_iff_iff]
  first | done | (simp;done) | (simp;omega)
theorem isLetter_any (c:UInt8) (w:World):Calls Tryz.prog 77 #[.int .u8 c.toNat] w fun e w'=>e = .returned (.bool (isLetterB c))∧w'=w:=by
 go_enter Tryz.func77,Tryz.ntmps77
 have e:isLetterB c=((decide (97≤(c.toNat:Int)) && decide ((c.toNat:Int)≤122)) || decide ((c.toNat:Int)=95)):=by
  rw [Bool.eq_iff_iff];simp [isLetterB,← UInt8.toNat_inj,UInt8.le_iff_toNat_le];omega
 rw [e]
 clear e
 go_wp2
 all_goals
  go_ret
  refine ⟨ret_bool ?_,rfl⟩
  rw [Bool.eq_iff_iff]
  first | done | (simp;done) | (simp;omega)
theorem isDigit_any (c:UInt8) (w:World):Calls Tryz.prog 80 #[.int .u8 c.toNat] w fun e w'=>e = .returned (.bool (isDigitB c))∧w'=w:=by
 go_enter Tryz.func80,Tryz.ntmps80
 have e:isDigitB c=(decide (48≤(c.toNat:Int)) && decide ((c.toNat:Int)≤57)):=by
  rw [Bool.eq_iff_iff];simp [isDigitB,UInt8.le_iff_toNat_le];omega
 rw [e]
 clear e
 go_wp2
 all_goals
  go_ret
  refine ⟨ret_bool ?_,rfl⟩
  rw [Bool.eq_iff_iff]
  first | done | (simp;done) | (simp;omega)
theorem at_list (s:ByteArray) (k:Nat) (h:k < s.size):s.data.toList[k]? = some s[k]:=by
 simp [ByteArray.getElem_eq_getElem_data]
theorem drop_at (s:ByteArray) (k:Nat) (h:k < s.size):s.data.toList.drop k=s[k] :: s.data.toList.drop (k+1):=by
 rw [List.drop_eq_getElem_cons (by simpa using h)]
 rfl
def nameLenR:List UInt8→Nat
 | []=>0
 | c :: l=>if isLetterB c || isDigitB c then nameLenR l+1 else 0
def nameLen:List UInt8→Nat
 | []=>0
 | c :: l=>if isLetterB c then nameLenR l+1 else 0
theorem nameLenR_le:∀ l,nameLenR l≤l.length
 | []=>Nat.le_refl _
 | c :: l=>by have:=nameLenR_le l;simp only [nameLenR,List.length_cons];split <;> omega
theorem nameLen_le (l:List UInt8):nameLen l≤l.length:=by
 match l with
 | []=>exact Nat.le_refl _
 | c :: l=>have:=nameLenR_le l;simp only [nameLen,List.length_cons];split <;> omega
theorem nameEnd_any (s:ByteArray) (a:Nat) (w:World) (hs:s.size≤100000) (ha:a≤s.size) :
  Calls Tryz.prog 78 #[.string s,.int .i64 a] w fun e w'=>e = .returned (.int .i64 ((a+nameLen (s.data.toList.drop a):Nat):Int))∧w'=w:=by
 obtain ⟨N,hN⟩:∃ N,nameLen (s.data.toList.drop a)=N:=⟨_,rfl⟩
 rw [hN]
 have HN:Hid _:=hN
 clear hN
 go_enter Tryz.func78,Tryz.ntmps78
 go_wp2_with fail
 go_loop [5] (fun t=>∃ k:Nat,a≤k∧k≤s.size∧t = .int .i64 k∧(if k=a then nameLen (s.data.toList.drop k) else nameLenR (s.data.toList.drop k))+k=a+N) (fun t=>s.size - (intOf t).toNat)
 case atStart=>exact ⟨a,Nat.le_refl _,ha,rfl,by rw [if_pos rfl,HN.out];omega⟩
 case round =>
  obtain ⟨k,hk1,hk2,rfl,hk⟩:=hrel
  by_cases hlt:k < s.size
  ·rw [drop_at s k hlt] at hk
   have HK:Hid _:=hk
   clear hk
   by_cases hl:isLetterB s[k]=true
   ·go_wp2_with (first
     | (go_at_call 77;refine (isLetter_any _ _).mono ?_;rintro e w1 ⟨rfl,h1⟩;subst w1;rw [hl])
     | (go_at_call 80;refine (isDigit_any _ _).mono ?_;rintro e w1 ⟨rfl,h1⟩;subst w1))
    go_round
    case rel =>
     refine ⟨k+1,by omega,by omega,by go_num,?_⟩
     have h:=HK.out
     rw [if_neg (by omega)]
     split at h
     ·simp only [nameLen,hl,if_true] at h;omega
     ·simp only [nameLenR,hl,Bool.true_or,if_true] at h;omega
    case measure=>simp [intOf];omega
   ·have hl:isLetterB s[k]=false:=by simpa using hl
    by_cases hka:k=a
    ·subst hka
     go_wp2_with (first
      | (go_at_call 77;refine (isLetter_any _ _).mono ?_;rintro e w1 ⟨rfl,h1⟩;subst w1;rw [hl])
      | (go_at_call 80;refine (isDigit_any _ _).mono ?_;rintro e w1 ⟨rfl,h1⟩;subst w1))
     go_ret
     refine ⟨ret_int ?_,rfl⟩
     have h:=HK.out
     simp only [if_true,nameLen,hl,Bool.false_eq_true,if_false] at h
     omega
    ·have hgt:(a:Int) < (k:Int):=by omega
     by_cases hd:isDigitB s[k]=true
     ·go_wp2_with (first
       | (go_at_call 77;refine (isLetter_any _ _).mono ?_;rintro e w1 ⟨rfl,h1⟩;subst w1;rw [hl])
       | (go_at_call 80;refine (isDigit_any _ _).mono ?_;rintro e w1 ⟨rfl,h1⟩;subst w1;rw [hd]))
      go_round
      case rel =>
       refine ⟨k+1,by omega,by omega,by go_num,?_⟩
       have h:=HK.out
       rw [if_neg (by omega)]
       rw [if_neg hka] at h
       simp only [nameLenR,hd,Bool.or_true,if_true] at h;omega
      case measure=>simp [intOf];omega
     ·have hd:isDigitB s[k]=false:=by simpa using hd
      go_wp2_with (first
       | (go_at_call 77;refine (isLetter_any _ _).mono ?_;rintro e w1 ⟨rfl,h1⟩;subst w1;rw [hl])
       | (go_at_call 80;refine (isDigit_any _ _).mono ?_;rintro e w1 ⟨rfl,h1⟩;subst w1;rw [hd]))
      go_ret
      refine ⟨ret_int ?_,rfl⟩
      have h:=HK.out
      rw [if_neg hka] at h
      simp only [nameLenR,hl,hd,Bool.or_false,Bool.false_eq_true,if_false] at h
      omega
  ·have he:k=s.size:=by omega
   have hdrop:s.data.toList.drop k=[]:=List.drop_eq_nil_of_le (by simp;exact Nat.le_of_eq he.symm)
   rw [hdrop] at hk
   have HK:Hid _:=hk
   clear hk hdrop
   have hge:¬ (k:Int) < (s.size:Int):=by omega
   have HE:Hid (k=s.size):=he
   clear he
   go_wp2_with fail
   go_ret
   refine ⟨ret_int ?_,rfl⟩
   have h:=HK.out
   split at h <;> simp only [nameLen,nameLenR] at h <;> omega
end Go.Proofs.Tryz
namespace Go.Proofs.Tryz
set_option maxHeartbeats 16000000
open Go.RowKit
set_option maxRecDepth 10000
def prefixB (p s:List UInt8):Bool:=p.isPrefixOf s
theorem extract_list (s:ByteArray) (a b:Nat):(s.extract a b).data.toList=(s.data.toList.drop a).take (b - a):=by
 rw [ByteArray.data_extract,Array.toList_extract,List.extract_eq_take_drop]
theorem size_list (s:ByteArray):s.data.toList.length=s.size:=by simp
theorem liteHasPrefix_any (s p:ByteArray) (w:World) (hs:s.size≤100000) (hp:p.size≤100000) :
  Calls Tryz.prog 76 #[.string s,.string p] w fun e w'=>e = .returned (.bool (prefixB p.data.toList s.data.toList))∧w'=w:=by
 go_enter Tryz.func76,Tryz.ntmps76
 by_cases h:p.size≤s.size
 ·have h':(p.size:Int)≤(s.size:Int):=by omega
  go_wp2
  go_ret
  refine ⟨ret_bool ?_,rfl⟩
  unfold prefixB
  rw [Bool.eq_iff_iff,ByteArray.toList_eq,ByteArray.toList_eq,extract_list,beq_iff_eq,List.isPrefixOf_iff_prefix,List.prefix_iff_eq_take,size_list]
  simp only [List.drop_zero,Nat.sub_zero]
  exact eq_comm
 ·have h':(s.size:Int) < (p.size:Int):=by omega
  go_wp2
  go_ret
  refine ⟨ret_bool ?_,rfl⟩
  unfold prefixB
  rw [Bool.eq_iff_iff,List.isPrefixOf_iff_prefix]
  simp only [Bool.false_eq_true,false_iff]
  intro hh
  have:=hh.length_le
  rw [size_list,size_list] at this
  exact h this
theorem hasPrefix_any (s p:ByteArray) (w:World) (hs:s.size≤100000) (hp:p.size≤100000) :
  Calls Tryz.prog 35 #[.string s,.string p] w fun e w'=>e = .returned (.bool (prefixB p.data.toList s.data.toList))∧w'=w:=by
 go_enter Tryz.func35,Tryz.ntmps35
 go_wp2_with (go_at_call 76;refine (liteHasPrefix_any _ _ _ hs hp).mono ?_;rintro e w1 ⟨rfl,h1⟩;subst w1)
 go_ret
 exact ⟨rfl,rfl⟩
def isWordB (s:List UInt8):Bool :=
 s == [100,101,102] || s == [97,115] || s == [105,102] || s == [116,104,101,110] || s == [101,108,115,101] || s == [101,110,100] || s == [116,114,121] || s == [99,97,116,99,104] || s == [114,101,100,117,99,101] || s == [102,111,114,101,97,99,104]
 || s == [108,97,98,101,108] || s == [98,114,101,97,107] || s == [97,110,100] || s == [111,114] || s == [110,117,108,108] || s == [102,97,108,115,101] || s == [116,114,117,101]
theorem isWord_any (s:ByteArray) (w:World):Calls Tryz.prog 133 #[.string s] w fun e w'=>e = .returned (.bool (isWordB s.data.toList))∧w'=w:=by
 rw [← ByteArray.toList_eq]
 go_enter Tryz.func133,Tryz.ntmps133
 go_wp2
 all_goals
  go_ret
  refine ⟨ret_bool ?_,rfl⟩
  simp_all [isWordB]
def namedB (k:Int) (s:ByteArray) (pos:Int):Option Tok :=
 if s.data.toList=[]∨20 < s.size then none else if k=2∧isWordB s.data.toList=true then some ⟨3,s,pos⟩ else some ⟨k,s,pos⟩
theorem named_ok (k:Int) (s:ByteArray) (pos:Int) (t:Tok) (w:World) (hs:s.size≤100000) (h:namedB k s pos=some t) :
  Calls Tryz.prog 79 #[.int .u8 k,.string s,.int .i64 pos] w fun e w'=>e = .returned (.agg #[.int .u8 t.kind,.string t.text,.int .i64 t.pos])∧Below w.heap.size w w':=by
 unfold namedB at h
 split at h
 ·cases h
 ·rename_i hn
  have h0:s.toList.isEmpty=false:=by
   rw [ByteArray.toList_eq,List.isEmpty_eq_false_iff];exact fun e=>hn (.inl e)
  have h20:¬ (20:Int) < (s.size:Int):=fun e=>hn (.inr (by omega))
  clear hn
  by_cases hk:k=2
  ·subst hk
   by_cases hw:isWordB s.data.toList=true
   ·rw [if_pos ⟨rfl,hw⟩] at h
    cases h
    go_enter Tryz.func79,Tryz.ntmps79
    go_wp2_with (go_at_call 133;refine (isWord_any _ _).mono ?_;rintro e w1 ⟨rfl,h1⟩;subst w1;rw [hw])
    exact bodyPost_ret (v:=.agg #[.int .u8 3,.string s,.int .i64 pos]) (by simp [results,Tryz.results79,go_sem]) rfl ⟨rfl,(Below.refl _ _).alloc (Nat.le_refl _) _⟩
   ·rw [if_neg (fun e=>hw e.2)] at h
    cases h
    have hw:isWordB s.data.toList=false:=by simpa using hw
    go_enter Tryz.func79,Tryz.ntmps79
    go_wp2_with (go_at_call 133;refine (isWord_any _ _).mono ?_;rintro e w1 ⟨rfl,h1⟩;subst w1;rw [hw])
    exact bodyPost_ret (v:=.agg #[.int .u8 2,.string s,.int .i64 pos]) (by simp [results,Tryz.results79,go_sem]) rfl ⟨rfl,(Below.refl _ _).alloc (Nat.le_refl _) _⟩
  ·rw [if_neg (fun e=>hk e.1)] at h
   cases h
   go_enter Tryz.func79,Tryz.ntmps79
   go_wp2_with fail
   exact bodyPost_ret (v:=.agg #[.int .u8 k,.string s,.int .i64 pos]) (by simp [results,Tryz.results79,go_sem]) rfl ⟨rfl,(Below.refl _ _).alloc (Nat.le_refl _) _⟩
end Go.Proofs.Tryz
