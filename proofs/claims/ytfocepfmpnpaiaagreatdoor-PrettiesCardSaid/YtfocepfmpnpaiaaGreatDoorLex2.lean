import Derived.Test.YtfocepfmpnpaiaaGreatDoorLex1
import Derived.Deep.AppendLies
import Derived.Laws.IdiomStrings
import Derived.Lib.AppendIntMem
import Derived.OwnWalk
import Derived.WalkMore
set_option linter.all false
namespace Go.Proofs.Tryz
set_option maxHeartbeats 16000000
open Go.RowKit
set_option maxRecDepth 10000
def prefixB (p s:List UInt8):Bool:=p.isPrefixOf s
theorem extract_list (s:ByteArray) (a b:Nat):(s.extract a b).data.toList=(s.data.toList.drop a).take (b - a):=by
 rw [ByteArray.data_extract,Array.toList_extract,List.extract_eq_take_drop]
theorem size_list (s:ByteArray):s.data.toList.length=s.size:=by simp
theorem liteHasPrefix_any (s p:ByteArray) (w:World) (hs:s.size≤100000) (hp:p.size≤100000) :
  Calls Tryz.prog 60 #[.string s,.string p] w fun e w'=>e = .returned (.bool (prefixB p.data.toList s.data.toList))∧w'=w:=by
 go_enter Tryz.func60,Tryz.ntmps60
 by_cases h:p.size≤s.size
 ·have h':(p.size:Int)≤(s.size:Int):=by omega
  go_wp2
  go_ret
  refine ⟨ret_bool ?_,rfl⟩
  unfold prefixB
  rw [Bool.eq_iff_iff,ByteArray.toList_eq,ByteArray.toList_eq,extract_list,beq_iff_eq,List.isPrefixOf_iff_prefix,List.prefix_iff_eq_take,size_list]
  simp only [List.drop_zero,Nat.sub_zero]
  exact eq_comm
 ·have h':(s.size:Int) < (p.size:Int):=by omega
  go_wp2
  go_ret
  refine ⟨ret_bool ?_,rfl⟩
  unfold prefixB
  rw [Bool.eq_iff_iff,List.isPrefixOf_iff_prefix]
  simp only [Bool.false_eq_true,false_iff]
  intro hh
  have:=hh.length_le
  rw [size_list,size_list] at this
  exact h this
theorem hasPrefix_any (s p:ByteArray) (w:World) (hs:s.size≤100000) (hp:p.size≤100000) :
  Calls Tryz.prog 35 #[.string s,.string p] w fun e w'=>e = .returned (.bool (prefixB p.data.toList s.data.toList))∧w'=w:=by
 go_enter Tryz.func35,Tryz.ntmps35
 go_wp2_with (go_at_call 60;refine (liteHasPrefix_any _ _ _ hs hp).mono ?_;rintro e w1 ⟨rfl,h1⟩;subst w1)
 go_ret
 exact ⟨rfl,rfl⟩
def isWordB (s:List UInt8):Bool :=
 s == [100,101,102] || s == [97,115] || s == [105,102] || s == [116,104,101,110] || s == [101,108,115,101] || s == [101,110,100] || s == [116,114,121] || s == [99,97,116,99,104] || s == [114,101,100,117,99,101] || s == [102,111,114,101,97,99,104]
 || s == [108,97,98,101,108] || s == [98,114,101,97,107] || s == [97,110,100] || s == [111,114] || s == [110,117,108,108] || s == [102,97,108,115,101] || s == [116,114,117,101]
theorem isWord_any (s:ByteArray) (w:World):Calls Tryz.prog 83 #[.string s] w fun e w'=>e = .returned (.bool (isWordB s.data.toList))∧w'=w:=by
 rw [← ByteArray.toList_eq]
 go_enter Tryz.func83,Tryz.ntmps83
 go_wp2
 all_goals
  go_ret
  refine ⟨ret_bool ?_,rfl⟩
  simp_all [isWordB]
def namedB (k:Int) (s:ByteArray) (pos:Int):Option Tok :=
 if s.data.toList=[]∨20 < s.size then none else if k=2∧isWordB s.data.toList=true then some ⟨3,s,pos⟩ else some ⟨k,s,pos⟩
theorem named_ok (k:Int) (s:ByteArray) (pos:Int) (t:Tok) (w:World) (hs:s.size≤100000) (h:namedB k s pos=some t) :
  Calls Tryz.prog 63 #[.int .u8 k,.string s,.int .i64 pos] w fun e w'=>e = .returned (.agg #[.int .u8 t.kind,.string t.text,.int .i64 t.pos])∧Below w.heap.size w w':=by
 unfold namedB at h
 split at h
 ·cases h
 ·rename_i hn
  have h0:s.toList.isEmpty=false:=by
   rw [ByteArray.toList_eq,List.isEmpty_eq_false_iff];exact fun e=>hn (.inl e)
  have h20:¬ (20:Int) < (s.size:Int):=fun e=>hn (.inr (by omega))
  clear hn
  by_cases hk:k=2
  ·subst hk
   by_cases hw:isWordB s.data.toList=true
   ·rw [if_pos ⟨rfl,hw⟩] at h
    cases h
    go_enter Tryz.func63,Tryz.ntmps63
    go_wp2_with (go_at_call 83;refine (isWord_any _ _).mono ?_;rintro e w1 ⟨rfl,h1⟩;subst w1;rw [hw])
    exact bodyPost_ret (v:=.agg #[.int .u8 3,.string s,.int .i64 pos]) (by simp [results,Tryz.results63,go_sem]) rfl ⟨rfl,(Below.refl _ _).alloc (Nat.le_refl _) _⟩
   ·rw [if_neg (fun e=>hw e.2)] at h
    cases h
    have hw:isWordB s.data.toList=false:=by simpa using hw
    go_enter Tryz.func63,Tryz.ntmps63
    go_wp2_with (go_at_call 83;refine (isWord_any _ _).mono ?_;rintro e w1 ⟨rfl,h1⟩;subst w1;rw [hw])
    exact bodyPost_ret (v:=.agg #[.int .u8 2,.string s,.int .i64 pos]) (by simp [results,Tryz.results63,go_sem]) rfl ⟨rfl,(Below.refl _ _).alloc (Nat.le_refl _) _⟩
  ·rw [if_neg (fun e=>hk e.1)] at h
   cases h
   go_enter Tryz.func63,Tryz.ntmps63
   go_wp2_with fail
   exact bodyPost_ret (v:=.agg #[.int .u8 k,.string s,.int .i64 pos]) (by simp [results,Tryz.results63,go_sem]) rfl ⟨rfl,(Below.refl _ _).alloc (Nat.le_refl _) _⟩
end Go.Proofs.Tryz
namespace Go.Proofs.Tryz
set_option maxHeartbeats 16000000
open Go.RowKit
set_option maxRecDepth 10000
def digLen:List UInt8→Nat
 | []=>0
 | c :: l=>if isDigitB c then digLen l+1 else 0
theorem digLen_le:∀ l,digLen l≤l.length
 | []=>Nat.le_refl _
 | c :: l=>by have:=digLen_le l;simp only [digLen,List.length_cons];split <;> omega
theorem extract_size (s:ByteArray) (a b:Nat) (hs:s.size≤100000):(s.extract a b).size≤100000:=by
 simp [ByteArray.size_extract];omega
theorem bcell {B:Nat}{W w1:World} (hb:Below B W w1):(∀ b o,b < B→w1.cell? ⟨b,o,none⟩=W.cell? ⟨b,o,none⟩)∧(∀ b o,b < B→w1.frozen? ⟨b,o,none⟩=W.frozen? ⟨b,o,none⟩) :=
 ⟨fun b o h=>hb.cell (p:=⟨b,o,none⟩) h,fun b o h=>hb.frozen (p:=⟨b,o,none⟩) h⟩
theorem isLetter_34 (w:World):Calls Tryz.prog 61 #[.int .u8 34] w fun e w'=>e = .returned (.bool false)∧w'=w:=isLetter_any 34 w
theorem isDigit_34 (w:World):Calls Tryz.prog 64 #[.int .u8 34] w fun e w'=>e = .returned (.bool false)∧w'=w:=isDigit_any 34 w
theorem isLetter_36 (w:World):Calls Tryz.prog 61 #[.int .u8 36] w fun e w'=>e = .returned (.bool false)∧w'=w:=isLetter_any 36 w
theorem nameEnd_at (s:ByteArray) (a:Nat) (i:Int) (w:World) (hs:s.size≤100000) (ha:a≤s.size) (hi:i=a) :
  Calls Tryz.prog 62 #[.string s,.int .i64 i] w fun e w'=>e = .returned (.int .i64 ((a+nameLen (s.data.toList.drop a):Nat):Int))∧w'=w:=by
 subst hi;exact nameEnd_any s a w hs ha
end Go.Proofs.Tryz
