import Derived.Test.YtbhajhlhgbnhbaaGreatDoorTree
import Derived.Deep.LoopGhost
import Derived.Handy
import Derived.Deep.AppendLies
import Derived.Laws.IdiomStrings
import Derived.Lib.AppendIntMem
import Derived.OwnWalk
import Derived.WalkMore
import Derived.Lib.Bytealg
set_option linter.all false
namespace Go.Proofs.Tryz
set_option maxHeartbeats 16000000
open Go.RowKit
set_option maxRecDepth 10000
theorem ret_bool {a b:Bool} (h:a=b):Ending.returned (.bool a) = .returned (.bool b):=by rw [h]
theorem ret_int {k:IntKind}{a b:Int} (h:a=b):Ending.returned (.int k a) = .returned (.int k b):=by rw [h]
def isBlankB (c:UInt8):Bool:=c == 32 || c == 9 || c == 10 || c == 13
def isLetterB (c:UInt8):Bool:=(97≤c && c≤122) || c == 95
def isDigitB (c:UInt8):Bool:=48≤c && c≤57
theorem isBlank_any (c:UInt8) (w:World):Calls Tryz.prog 34 #[.int .u8 c.toNat] w fun e w'=>e = .returned (.bool (isBlankB c))∧w'=w:=by
 go_enter Tryz.func34,Tryz.ntmps34
 have e:isBlankB c=(decide ((c.toNat:Int)=32) || decide ((c.toNat:Int)=9) || decide ((c.toNat:Int)=10) || decide ((c.toNat:Int)=13)):=by
  rw [Bool.eq_iff_iff];simp [isBlankB,← UInt8.toNat_inj];omega
 rw [e]
 clear e
 go_wp2
 all_goals
  go_ret
  refine ⟨ret_bool ?_,rfl⟩
  rw [Bool.eq_iff_iff]
  first | done | (simp;done) | (simp;omega)
theorem isLetter_any (c:UInt8) (w:World):Calls Tryz.prog 77 #[.int .u8 c.toNat] w fun e w'=>e = .returned (.bool (isLetterB c))∧w'=w:=by
 go_enter Tryz.func77,Tryz.ntmps77
 have e:isLetterB c=((decide (97≤(c.toNat:Int)) && decide ((c.toNat:Int)≤122)) || decide ((c.toNat:Int)=95)):=by
  rw [Bool.eq_iff_iff];simp [isLetterB,← UInt8.toNat_inj,UInt8.le_iff_toNat_le];omega
 rw [e]
 clear e
 go_wp2
 all_goals
  go_ret
  refine ⟨ret_bool ?_,rfl⟩
  rw [Bool.eq_iff_iff]
  first | done | (simp;done) | (simp;omega)
theorem isDigit_any (c:UInt8) (w:World):Calls Tryz.prog 80 #[.int .u8 c.toNat] w fun e w'=>e = .returned (.bool (isDigitB c))∧w'=w:=by
 go_enter Tryz.func80,Tryz.ntmps80
 have e:isDigitB c=(decide (48≤(c.toNat:Int)) && decide ((c.toNat:Int)≤57)):=by
  rw [Bool.eq_iff_iff];simp [isDigitB,UInt8.le_iff_toNat_le];omega
 rw [e]
 clear e
 go_wp2
 all_goals
  go_ret
  refine ⟨ret_bool ?_,rfl⟩
  rw [Bool.eq_iff_iff]
  first | done | (simp;done) | (simp;omega)
theorem at_list (s:ByteArray) (k:Nat) (h:k < s.size):s.data.toList[k]? = some s[k]:=by
 simp [ByteArray.getElem_eq_getElem_data]
theorem drop_at (s:ByteArray) (k:Nat) (h:k < s.size):s.data.toList.drop k=s[k] :: s.data.toList.drop (k+1):=by
 rw [List.drop_eq_getElem_cons (by simpa using h)]
 rfl
def nameLenR:List UInt8→Nat
 | []=>0
 | c :: l=>if isLetterB c || isDigitB c then nameLenR l+1 else 0
def nameLen:List UInt8→Nat
 | []=>0
 | c :: l=>if isLetterB c then nameLenR l+1 else 0
theorem nameLenR_le:∀ l,nameLenR l≤l.length
 | []=>Nat.le_refl _
 | c :: l=>by have:=nameLenR_le l;simp only [nameLenR,List.length_cons];split <;> omega
theorem nameLen_le (l:List UInt8):nameLen l≤l.length:=by
 match l with
 | []=>exact Nat.le_refl _
 | c :: l=>have:=nameLenR_le l;simp only [nameLen,List.length_cons];split <;> omega
theorem nameEnd_any (s:ByteArray) (a:Nat) (w:World) (hs:s.size≤100000) (ha:a≤s.size) :
  Calls Tryz.prog 78 #[.string s,.int .i64 a] w fun e w'=>e = .returned (.int .i64 ((a+nameLen (s.data.toList.drop a):Nat):Int))∧w'=w:=by
 obtain ⟨N,hN⟩:∃ N,nameLen (s.data.toList.drop a)=N:=⟨_,rfl⟩
 rw [hN]
 have HN:Hid _:=hN
 clear hN
 go_enter Tryz.func78,Tryz.ntmps78
 go_wp2_with fail
 go_loop [5] (fun t=>∃ k:Nat,a≤k∧k≤s.size∧t = .int .i64 k∧(if k=a then nameLen (s.data.toList.drop k) else nameLenR (s.data.toList.drop k))+k=a+N) (fun t=>s.size - (intOf t).toNat)
 case atStart=>exact ⟨a,Nat.le_refl _,ha,rfl,by rw [if_pos rfl,HN.out];omega⟩
 case round =>
  obtain ⟨k,hk1,hk2,rfl,hk⟩:=hrel
  by_cases hlt:k < s.size
  ·rw [drop_at s k hlt] at hk
   have HK:Hid _:=hk
   clear hk
   by_cases hl:isLetterB s[k]=true
   ·go_wp2_with (first
     | (go_at_call 77;refine (isLetter_any _ _).mono ?_;rintro e w1 ⟨rfl,h1⟩;subst w1;rw [hl])
     | (go_at_call 80;refine (isDigit_any _ _).mono ?_;rintro e w1 ⟨rfl,h1⟩;subst w1))
    go_round
    case rel =>
     refine ⟨k+1,by omega,by omega,by go_num,?_⟩
     have h:=HK.out
     rw [if_neg (by omega)]
     split at h
     ·simp only [nameLen,hl,if_true] at h;omega
     ·simp only [nameLenR,hl,Bool.true_or,if_true] at h;omega
    case measure=>simp [intOf];omega
   ·have hl:isLetterB s[k]=false:=by simpa using hl
    by_cases hka:k=a
    ·subst hka
     go_wp2_with (first
      | (go_at_call 77;refine (isLetter_any _ _).mono ?_;rintro e w1 ⟨rfl,h1⟩;subst w1;rw [hl])
      | (go_at_call 80;refine (isDigit_any _ _).mono ?_;rintro e w1 ⟨rfl,h1⟩;subst w1))
     go_ret
     refine ⟨ret_int ?_,rfl⟩
     have h:=HK.out
     simp only [if_true,nameLen,hl,Bool.false_eq_true,if_false] at h
     omega
    ·have hgt:(a:Int) < (k:Int):=by omega
     by_cases hd:isDigitB s[k]=true
     ·go_wp2_with (first
       | (go_at_call 77;refine (isLetter_any _ _).mono ?_;rintro e w1 ⟨rfl,h1⟩;subst w1;rw [hl])
       | (go_at_call 80;refine (isDigit_any _ _).mono ?_;rintro e w1 ⟨rfl,h1⟩;subst w1;rw [hd]))
      go_round
      case rel =>
       refine ⟨k+1,by omega,by omega,by go_num,?_⟩
       have h:=HK.out
       rw [if_neg (by omega)]
       rw [if_neg hka] at h
       simp only [nameLenR,hd,Bool.or_true,if_true] at h;omega
      case measure=>simp [intOf];omega
     ·have hd:isDigitB s[k]=false:=by simpa using hd
      go_wp2_with (first
       | (go_at_call 77;refine (isLetter_any _ _).mono ?_;rintro e w1 ⟨rfl,h1⟩;subst w1;rw [hl])
       | (go_at_call 80;refine (isDigit_any _ _).mono ?_;rintro e w1 ⟨rfl,h1⟩;subst w1;rw [hd]))
      go_ret
      refine ⟨ret_int ?_,rfl⟩
      have h:=HK.out
      rw [if_neg hka] at h
      simp only [nameLenR,hl,hd,Bool.or_false,Bool.false_eq_true,if_false] at h
      omega
  ·have he:k=s.size:=by omega
   have hdrop:s.data.toList.drop k=[]:=List.drop_eq_nil_of_le (by simp;exact Nat.le_of_eq he.symm)
   rw [hdrop] at hk
   have HK:Hid _:=hk
   clear hk hdrop
   have hge:¬ (k:Int) < (s.size:Int):=by omega
   have HE:Hid (k=s.size):=he
   clear he
   go_wp2_with fail
   go_ret
   refine ⟨ret_int ?_,rfl⟩
   have h:=HK.out
   split at h <;> simp only [nameLen,nameLenR] at h <;> omega
def prefixB (p s:List UInt8):Bool:=p.isPrefixOf s
theorem extract_list (s:ByteArray) (a b:Nat):(s.extract a b).data.toList=(s.data.toList.drop a).take (b - a):=by
 rw [ByteArray.data_extract,Array.toList_extract,List.extract_eq_take_drop]
theorem size_list (s:ByteArray):s.data.toList.length=s.size:=by simp
theorem liteHasPrefix_any (s p:ByteArray) (w:World) (hs:s.size≤100000) (hp:p.size≤100000) :
  Calls Tryz.prog 76 #[.string s,.string p] w fun e w'=>e = .returned (.bool (prefixB p.data.toList s.data.toList))∧w'=w:=by
 go_enter Tryz.func76,Tryz.ntmps76
 by_cases h:p.size≤s.size
 ·have h':(p.size:Int)≤(s.size:Int):=by omega
  go_wp2
  go_ret
  refine ⟨ret_bool ?_,rfl⟩
  unfold prefixB
  rw [Bool.eq_iff_iff,ByteArray.toList_eq,ByteArray.toList_eq,extract_list,beq_iff_eq,List.isPrefixOf_iff_prefix,List.prefix_iff_eq_take,size_list]
  simp only [List.drop_zero,Nat.sub_zero]
  exact eq_comm
 ·have h':(s.size:Int) < (p.size:Int):=by omega
  go_wp2
  go_ret
  refine ⟨ret_bool ?_,rfl⟩
  unfold prefixB
  rw [Bool.eq_iff_iff,List.isPrefixOf_iff_prefix]
  simp only [Bool.false_eq_true,false_iff]
  intro hh
  have:=hh.length_le
  rw [size_list,size_list] at this
  exact h this
theorem hasPrefix_any (s p:ByteArray) (w:World) (hs:s.size≤100000) (hp:p.size≤100000) :
  Calls Tryz.prog 35 #[.string s,.string p] w fun e w'=>e = .returned (.bool (prefixB p.data.toList s.data.toList))∧w'=w:=by
 go_enter Tryz.func35,Tryz.ntmps35
 go_wp2_with (go_at_call 76;refine (liteHasPrefix_any _ _ _ hs hp).mono ?_;rintro e w1 ⟨rfl,h1⟩;subst w1)
 go_ret
 exact ⟨rfl,rfl⟩
def isWordB (s:List UInt8):Bool :=
 s == [100,101,102] || s == [97,115] || s == [105,102] || s == [116,104,101,110] || s == [101,108,115,101] || s == [101,110,100] || s == [116,114,121] || s == [99,97,116,99,104] || s == [114,101,100,117,99,101] || s == [102,111,114,101,97,99,104]
 || s == [108,97,98,101,108] || s == [98,114,101,97,107] || s == [97,110,100] || s == [111,114] || s == [110,117,108,108] || s == [102,97,108,115,101] || s == [116,114,117,101]
theorem isWord_any (s:ByteArray) (w:World):Calls Tryz.prog 133 #[.string s] w fun e w'=>e = .returned (.bool (isWordB s.data.toList))∧w'=w:=by
 rw [← ByteArray.toList_eq]
 go_enter Tryz.func133,Tryz.ntmps133
 go_wp2
 all_goals
  go_ret
  refine ⟨ret_bool ?_,rfl⟩
  simp_all [isWordB]
def namedB (k:Int) (s:ByteArray) (pos:Int):Option Tok :=
 if s.data.toList=[]∨20 < s.size then none else if k=2∧isWordB s.data.toList=true then some ⟨3,s,pos⟩ else some ⟨k,s,pos⟩
theorem named_ok (k:Int) (s:ByteArray) (pos:Int) (t:Tok) (w:World) (hs:s.size≤100000) (h:namedB k s pos=some t) :
  Calls Tryz.prog 79 #[.int .u8 k,.string s,.int .i64 pos] w fun e w'=>e = .returned (.agg #[.int .u8 t.kind,.string t.text,.int .i64 t.pos])∧Below w.heap.size w w':=by
 unfold namedB at h
 split at h
 ·cases h
 ·rename_i hn
  have h0:s.toList.isEmpty=false:=by
   rw [ByteArray.toList_eq,List.isEmpty_eq_false_iff];exact fun e=>hn (.inl e)
  have h20:¬ (20:Int) < (s.size:Int):=fun e=>hn (.inr (by omega))
  clear hn
  by_cases hk:k=2
  ·subst hk
   by_cases hw:isWordB s.data.toList=true
   ·rw [if_pos ⟨rfl,hw⟩] at h
    cases h
    go_enter Tryz.func79,Tryz.ntmps79
    go_wp2_with (go_at_call 133;refine (isWord_any _ _).mono ?_;rintro e w1 ⟨rfl,h1⟩;subst w1;rw [hw])
    exact bodyPost_ret (v:=.agg #[.int .u8 3,.string s,.int .i64 pos]) (by simp [results,Tryz.results79,go_sem]) rfl ⟨rfl,(Below.refl _ _).alloc (Nat.le_refl _) _⟩
   ·rw [if_neg (fun e=>hw e.2)] at h
    cases h
    have hw:isWordB s.data.toList=false:=by simpa using hw
    go_enter Tryz.func79,Tryz.ntmps79
    go_wp2_with (go_at_call 133;refine (isWord_any _ _).mono ?_;rintro e w1 ⟨rfl,h1⟩;subst w1;rw [hw])
    exact bodyPost_ret (v:=.agg #[.int .u8 2,.string s,.int .i64 pos]) (by simp [results,Tryz.results79,go_sem]) rfl ⟨rfl,(Below.refl _ _).alloc (Nat.le_refl _) _⟩
  ·rw [if_neg (fun e=>hk e.1)] at h
   cases h
   go_enter Tryz.func79,Tryz.ntmps79
   go_wp2_with fail
   exact bodyPost_ret (v:=.agg #[.int .u8 k,.string s,.int .i64 pos]) (by simp [results,Tryz.results79,go_sem]) rfl ⟨rfl,(Below.refl _ _).alloc (Nat.le_refl _) _⟩
def plainS (c:UInt8):Bool:=decide (32≤c.toNat∧c.toNat < 128∧c.toNat≠34∧c.toNat≠92)
def plainLen:List UInt8→Nat
 | []=>0
 | c :: l=>if plainS c then plainLen l+1 else 0
theorem plain_at:∀ {l:List UInt8}{i:Nat}{c:UInt8},i < plainLen l→l[i]? = some c→plainS c=true
 | [],_,_,h,_=>by simp [plainLen] at h
 | b :: l,i,c,h,hc=>by
  rw [plainLen] at h
  split at h
  ·rename_i hb
   match i,hc with
   | 0,hc=>cases hc;exact hb
   | i+1,hc=>exact plain_at (l:=l) (i:=i) (by omega) (by simpa using hc)
  ·omega
theorem following_plain (c:Int) (h0:0≤c) (h1:c < 128) (w:World):Calls Tryz.prog 136 #[.int .u8 c] w fun e w'=>e = .returned (.tuple #[.int .u8 0,.int .u8 0,.int .i64 0])∧w'=w:=by
 go_enter Tryz.func136,Tryz.ntmps136
 go_wp2
 go_ret3
 exact ⟨rfl,rfl⟩
theorem sconv_nil (w:World):Sem.run Tryz.prog (Go.convert 50 9 (.slice none 0 0)) w = .ok (.string ⟨#[]⟩) w:=by kernel_rfl
theorem sowns_bytes {w:World}{B:Nat}{v:Value}{l:List UInt8} (h:w.ownsRow B 5 1 v l.length (Lib.byteCells l)) (hl:l≠[]):∃ g c,v = .slice (some ⟨g,0,none⟩) l.length c∧∀ j (hj:j < l.length),w.cell? ((⟨g,0,none⟩:Addr).add j)=some (.int .u8 (l[j].toNat:Int)):=by
 rcases h.2 with ⟨rfl,h0⟩ | ⟨g,cap,cur,rfl,hg,hb,hn,hm,hs,ht⟩
 ·exact absurd (List.length_eq_zero_iff.1 h0) hl
 ·refine ⟨g,cap,rfl,?_⟩
  intro j hj
  have e:cur[j]? = some (.int .u8 (l[j].toNat:Int)):=by
   have:(cur.toList.take (l.length * 1))[j]? = (Lib.byteCells l)[j]?:=by rw [ht]
   rw [List.getElem?_take_of_lt (by omega)] at this
   simp [Lib.byteCells,hj] at this
   rw [this]
  by_cases hj0:j=0
  ·subst hj0
   simp [World.cell?,Addr.add,hb,e]
  ·simp [World.cell?,Addr.add,hj0,hb,e]
theorem sextract (s:ByteArray) (a n:Nat):(⟨((s.data.toList.drop a).take n).toArray⟩:ByteArray)=s.extract a (a+n):=by
 apply ByteArray.ext
 rw [ByteArray.data_extract]
 apply Array.ext'
 rw [Array.toList_extract]
 simp [List.extract]
theorem stake_one (s:ByteArray) (a j:Nat) (h:a+j < s.size):(s.data.toList.drop a).take (j+1)=(s.data.toList.drop a).take j ++ [s[a+j]]:=by
 rw [List.take_succ,List.getElem?_drop]
 have:s.data.toList[a+j]? = some s[a+j]:=by rw [List.getElem?_eq_getElem (by simpa using h)];rfl
 rw [this]
 rfl
theorem plainStr_ok (s:ByteArray) (a n:Nat) (hs:s.size≤100000) (hn:n=plainLen (s.data.toList.drop (a+1))) (hq:a+1+n < s.size) (hqq:s[a+1+n]=34) (w:World) :
  Calls Tryz.prog 81 #[.string s,.int .i64 a] w fun e w'=>e = .returned (.tuple #[.string (s.extract (a+1) (a+1+n)),.int .i64 ((a+1+n+1:Nat):Int),.bool true])∧Below w.heap.size w w':=by
 obtain ⟨i0,hi0,hz0,hz1,hz2⟩:=info_parts (show (Tryz.prog.info? 5).map (fun i=>(i.zero,i.size,i.bytes))=some (some (.int .u8 0),1,1) by kernel_rfl)
 have HPL:Hid (∀ i,i < n→∀ h:a+1+i < s.size,32≤s[a+1+i].toNat∧s[a+1+i].toNat < 128∧s[a+1+i].toNat≠34∧s[a+1+i].toNat≠92):=fun i hi h=>by
  have h1:=plain_at (l:=s.data.toList.drop (a+1)) (i:=i) (c:=s[a+1+i]) (by rw [← hn];exact hi) (by
   rw [List.getElem?_drop,List.getElem?_eq_getElem (by simpa using h)];rfl)
  exact of_decide_eq_true h1
 have HN:Hid _:=hn
 clear hn
 have hqn:((s[a+1+n].toNat:Nat):Int)=34:=by rw [hqq];rfl
 clear hqq
 rw [← sextract]
 go_enter Tryz.func81,Tryz.ntmps81
 go_wp2_with fail
 go_step3
 go_wp2_with fail
 go_step3
 go_wp2_with fail
 go_loopg [1,7] (n+1) (fun k v t wr=>∃ (i p:Nat),i+k=n+1∧i≤n∧p=a+1+i∧v = .int .i64 p∧Below w.heap.size w wr∧wr.ownsRow w.heap.size 5 1 t i (Lib.byteCells ((s.data.toList.drop (a+1)).take i)))
 case atStart=>exact ⟨0,a+1,by omega,by omega,rfl,by go_num,Below.refl _ _,World.ownsRow_nil _ _ _ _⟩
 case round =>
  obtain ⟨i,p,hik,hin,hp,rfl,hb,hown⟩:=hrel
  have hlen:((s.data.toList.drop (a+1)).take i).length=i:=by
   have e:s.data.toList.length=s.size:=rfl
   rw [List.length_take,List.length_drop,e]
   omega
  have hl':(p:Int) < (s.size:Int):=by omega
  have p0:(0:Int)≤(p:Int):=by omega
  have hlt:p < s.size:=by omega
  by_cases hi:i < n
  ·obtain ⟨b0,b1,b2,b3⟩:=HPL.out i hi (by omega)
   have ep:s[a+1+i]'(by omega)=s[p]:=by congr 1;omega
   rw [ep] at b0 b1 b2 b3
   have n0:((s[p].toNat:Int) == 34)=false:=by simp;omega
   have n1:¬ (s[p].toNat:Int) < 32:=by omega
   have n2:((s[p].toNat:Int) == 92)=false:=by simp;omega
   have hF:=following_plain (s[p].toNat:Int) (by omega) (by omega)
   have HP:Hid _:=hp
   have HE:Hid ((s.data.toList.drop (a+1)).take (i+1)=(s.data.toList.drop (a+1)).take i ++ [s[p]]):=by
    have h9:=stake_one s (a+1) i (by omega)
    rw [ep] at h9
    exact h9
   obtain ⟨ra,rl,rc,rfl⟩:∃ ra rl rc,u7=Value.slice ra rl rc:=by
    rcases hown.2 with ⟨rfl,_⟩ | ⟨_,_,_,rfl,_⟩
    ·exact ⟨_,_,_,rfl⟩
    ·exact ⟨_,_,_,rfl⟩
   have hz3:i+1≤100000:=by omega
   have HK:Hid _:=hik
   clear hp hik b0 b1 b2 b3 ep
   go_wp2_with (first
    | (go_at_call 136;refine (hF _).mono ?_;rintro e w1 ⟨rfl,hw⟩;subst w1)
    | (refine wpList_append_lies _ (by rfl) _ _ _ (by rfl) w.heap.size 5 i0 _ 1 1 Tryz.underlying50 hi0 hz0 hz1 hz2 rfl (by omega) _ i (Lib.byteCells ((s.data.toList.drop (a+1)).take i)) (by rfl) (hown.alloc _) ⟨wr.heap.size,0,none⟩ 1 1 [.int .u8 (s[p].toNat:Int)] (by rfl) (by rfl) (World.news_of_block (cs:=#[.int .u8 (s[p].toNat:Int)]) (t:=5) (fr:=(0,0)) (heap_alloc_new wr _)) (by simp [Value.oneCell']) (by omega) (by unfold maxLen;omega) (by omega) (by have:=hb.size;simp;omega) (wr.heap.size+1) (by simp) ?_;intro g4 cap4 w4 hown4 hgrow4 hat4 hlt4))
   have hb4:Below w.heap.size w w4:=(hb.alloc (by have:=hb.size;omega) _).grown hgrow4 (by have:=hb.size;simp;omega) (fun q hq=>(hown.lt q hq).1)
   refine wp_loop_rounds 1 ?_
   rw [rounds_succ]
   go_wp2_with fail
   go_roundg (n - i)
   case measure=>have:=HK.out;omega
   case rel =>
    refine ⟨i+1,p+1,by omega,by omega,by have:=HP.out;omega,by go_num,hb4,?_⟩
    rw [HE.out]
    simpa [Lib.byteCells] using hown4
  ·obtain rfl:i=n:=by omega
   have ep:s[a+1+i]'(by omega)=s[p]:=by congr 1;omega
   rw [ep] at hqn
   have t0:((s[p].toNat:Int) == 34)=true:=by simpa using hqn
   have HP:Hid _:=hp
   clear hqn hp ep
   obtain ⟨cs,hcs⟩:∃ cs,cs=(s.data.toList.drop (a+1)).take i:=⟨_,rfl⟩
   rw [← hcs] at hown hlen
   have HCS:Hid _:=hcs
   clear hcs
   have hpp:((a+1+i+1:Nat):Int)=(p:Int)+1:=by have:=HP.out;omega
   by_cases hne:cs=[]
   ·subst hne
    have hi0':i=0:=by simpa using hlen.symm
    subst hi0'
    rcases hown.2 with ⟨rfl,_⟩ | ⟨g,cap,cur,rfl,hg,hbb,hn,hmm,hss,htt⟩
    ·have hcv:=sconv_nil wr
     go_wp2_with fail
     try simp only [Exit.noGoto]
     go_ret3
     exact ⟨by rw [← HCS.out,hpp];rfl,hb⟩
    ·have hcv:=run_convert_bytes_back (P:=Tryz.prog) wr 50 9 5 ⟨g,0,none⟩ cap [] Tryz.underlying50 Tryz.underlying5 Tryz.underlying9 (fun j hj=>absurd hj (by simp))
     simp only [List.length_nil] at hcv ⊢
     go_wp2_with fail
     try simp only [Exit.noGoto]
     go_ret3
     exact ⟨by rw [← HCS.out,hpp];rfl,hb⟩
   ·rw [← hlen] at hown
    clear hlen
    obtain ⟨g,c,rfl,hc⟩:=sowns_bytes hown hne
    have hcv:=run_convert_bytes_back (P:=Tryz.prog) wr 50 9 5 ⟨g,0,none⟩ c cs Tryz.underlying50 Tryz.underlying5 Tryz.underlying9 hc
    go_wp2_with fail
    try simp only [Exit.noGoto]
    go_ret3
    exact ⟨by rw [← HCS.out,hpp];rfl,hb⟩
def digLen:List UInt8→Nat
 | []=>0
 | c :: l=>if isDigitB c then digLen l+1 else 0
theorem digLen_le:∀ l,digLen l≤l.length
 | []=>Nat.le_refl _
 | c :: l=>by have:=digLen_le l;simp only [digLen,List.length_cons];split <;> omega
def longB (s:ByteArray) (a:Nat):Option (Tok×Nat) :=
 match s.data.toList.drop a with
 | []=>none
 | c :: l =>
  if isLetterB c then (namedB 2 (s.extract a (a+nameLen (c :: l))) a).map fun t=>(t,a+nameLen (c :: l))
  else if c == 36 then (namedB 4 (s.extract (a+1) (a+1+nameLen l)) a).map fun t=>(t,a+1+nameLen l)
  else if isDigitB c then (if digLen (c :: l)≤18 then some (⟨5,s.extract a (a+digLen (c :: l)),a⟩,a+digLen (c :: l)) else none)
  else if c == 34 then (if l[plainLen l]? = some 34 then some (⟨6,s.extract (a+1) (a+1+plainLen l),a⟩,a+1+plainLen l+1) else none)
  else none
theorem extract_size (s:ByteArray) (a b:Nat) (hs:s.size≤100000):(s.extract a b).size≤100000:=by
 simp [ByteArray.size_extract];omega
theorem bcell {B:Nat}{W w1:World} (hb:Below B W w1):(∀ b o,b < B→w1.cell? ⟨b,o,none⟩=W.cell? ⟨b,o,none⟩)∧(∀ b o,b < B→w1.frozen? ⟨b,o,none⟩=W.frozen? ⟨b,o,none⟩) :=
 ⟨fun b o h=>hb.cell (p:=⟨b,o,none⟩) h,fun b o h=>hb.frozen (p:=⟨b,o,none⟩) h⟩
theorem isLetter_34 (w:World):Calls Tryz.prog 77 #[.int .u8 34] w fun e w'=>e = .returned (.bool false)∧w'=w:=isLetter_any 34 w
theorem isDigit_34 (w:World):Calls Tryz.prog 80 #[.int .u8 34] w fun e w'=>e = .returned (.bool false)∧w'=w:=isDigit_any 34 w
theorem isLetter_36 (w:World):Calls Tryz.prog 77 #[.int .u8 36] w fun e w'=>e = .returned (.bool false)∧w'=w:=isLetter_any 36 w
theorem nameEnd_at (s:ByteArray) (a:Nat) (i:Int) (w:World) (hs:s.size≤100000) (ha:a≤s.size) (hi:i=a) :
  Calls Tryz.prog 78 #[.string s,.int .i64 i] w fun e w'=>e = .returned (.int .i64 ((a+nameLen (s.data.toList.drop a):Nat):Int))∧w'=w:=by
 subst hi;exact nameEnd_any s a w hs ha
theorem readLong_ok (s:ByteArray) (a b:Nat) (t:Tok) (w:World) (hs:s.size≤100000) (ha:a < s.size) (h:longB s a=some (t,b)) :
  Calls Tryz.prog 36 #[.string s,.int .i64 a] w fun e w'=>e = .returned (.tuple #[.agg #[.int .u8 t.kind,.string t.text,.int .i64 t.pos],.int .i64 b])∧Below w.heap.size w w':=by
 have ha':(a:Int) < (s.size:Int):=by omega
 have hd:=drop_at s a ha
 simp only [longB,hd] at h
 have HD:Hid _:=hd
 clear hd
 split at h
 ·rename_i hl
  simp only [Option.map_eq_some_iff,Prod.mk.injEq] at h
  obtain ⟨t',ht,rfl,rfl⟩:=h
  have hle:=nameLen_le (s[a] :: s.data.toList.drop (a+1))
  rw [← HD.out] at hle ht ⊢
  simp only [List.length_drop,size_list] at hle
  obtain ⟨N,hN⟩:∃ N,nameLen (s.data.toList.drop a)=N:=⟨_,rfl⟩
  rw [hN] at hle ht ⊢
  have HN:Hid _:=hN
  clear hN
  go_enter Tryz.func36,Tryz.ntmps36
  go_wp2_with (first
   | (go_at_call 77;refine (isLetter_any _ _).mono ?_;rintro e w1 ⟨rfl,h1⟩;subst w1;rw [hl])
   | (go_at_call 78;refine (nameEnd_any s a _ hs (by omega)).mono ?_;rintro e w1 ⟨rfl,h1⟩;subst w1;rw [HN.out])
   | (go_at_call 79;refine (named_ok 2 _ _ t' _ (extract_size s _ _ hs) ht).mono ?_;rintro e w1 ⟨rfl,h1⟩;obtain ⟨q1,q2⟩:=bcell h1;have q3:=h1.size;simp at q1 q2 q3))
  exact bodyPost_ret (v:=.tuple #[.agg #[.int .u8 t'.kind,.string t'.text,.int .i64 t'.pos],.int .i64 ((a+N:Nat):Int)]) (by simp [results,Tryz.results36,go_sem,q1]) rfl
   ⟨rfl,(((((Below.refl _ _).alloc (Nat.le_refl _) _).trans (h1.mono (by simp))).setCell (Nat.le_refl _) _).setCell (Nat.le_refl _) _).setCell (Nat.le_refl _) _⟩
 ·rename_i hl
  have hl:isLetterB s[a]=false:=by simpa using hl
  split at h
  ·rename_i hdol
   have hdol:((s[a].toNat:Nat):Int)=36:=by
    have:s[a]=36:=by simpa using hdol
    rw [this];rfl
   simp only [Option.map_eq_some_iff,Prod.mk.injEq] at h
   obtain ⟨t',ht,rfl,rfl⟩:=h
   have hle:=nameLen_le (s.data.toList.drop (a+1))
   simp only [List.length_drop,size_list] at hle
   obtain ⟨N,hN⟩:∃ N,nameLen (s.data.toList.drop (a+1))=N:=⟨_,rfl⟩
   rw [hN] at hle ht ⊢
   have HN:Hid _:=hN
   clear hN
   go_enter Tryz.func36,Tryz.ntmps36
   go_wp2_with (first
    | (go_at_call 77;refine (isLetter_36 _).mono ?_;rintro e w1 ⟨rfl,h1⟩;subst w1)
    | (go_at_call 78;refine (nameEnd_at s (a+1) _ _ hs (by omega) (by omega)).mono ?_;rintro e w1 ⟨rfl,h1⟩;subst w1;rw [HN.out])
    | (go_at_call 79;refine (named_ok 4 _ _ t' _ (extract_size s _ _ hs) ht).mono ?_;rintro e w1 ⟨rfl,h1⟩;obtain ⟨q1,q2⟩:=bcell h1;have q3:=h1.size;simp at q1 q2 q3))
   exact bodyPost_ret (v:=.tuple #[.agg #[.int .u8 t'.kind,.string t'.text,.int .i64 t'.pos],.int .i64 ((a+1+N:Nat):Int)]) (by simp [results,Tryz.results36,go_sem,q1]) rfl
    ⟨rfl,(((((Below.refl _ _).alloc (Nat.le_refl _) _).trans (h1.mono (by simp))).setCell (Nat.le_refl _) _).setCell (Nat.le_refl _) _).setCell (Nat.le_refl _) _⟩
  ·rename_i hdol
   have hdol:¬ ((s[a].toNat:Nat):Int)=36:=by
    intro e
    have:s[a]=36:=by rw [← UInt8.toNat_inj];show s[a].toNat=36;omega
    exact hdol (by simp [this])
   split at h
   ·rename_i hdg
    split at h
    ·rename_i h18
     simp only [Option.some.injEq,Prod.mk.injEq] at h
     obtain ⟨rfl,rfl⟩:=h
     have hle:=digLen_le (s[a] :: s.data.toList.drop (a+1))
     rw [← HD.out] at hle h18 ⊢
     simp only [List.length_drop,size_list] at hle
     obtain ⟨N,hN⟩:∃ N,digLen (s.data.toList.drop a)=N:=⟨_,rfl⟩
     rw [hN] at hle h18 ⊢
     have HN:Hid _:=hN
     clear hN
     go_enter Tryz.func36,Tryz.ntmps36
     go_wp2_with (first
      | (go_at_call 77;refine (isLetter_any _ _).mono ?_;rintro e w1 ⟨rfl,h1⟩;subst w1;rw [hl])
      | (go_at_call 80;refine (isDigit_any _ _).mono ?_;rintro e w1 ⟨rfl,h1⟩;subst w1;rw [hdg]))
     go_loop [9] (fun t=>∃ k:Nat,a≤k∧k≤s.size∧t = .int .i64 k∧digLen (s.data.toList.drop k)+k=a+N) (fun t=>s.size - (intOf t).toNat)
     case atStart=>exact ⟨a,Nat.le_refl _,by omega,rfl,by rw [HN.out];omega⟩
     case round =>
      obtain ⟨k,hk1,hk2,rfl,hk⟩:=hrel
      by_cases hlt:k < s.size
      ·rw [drop_at s k hlt] at hk
       have HK:Hid _:=hk
       clear hk
       by_cases hd2:isDigitB s[k]=true
       ·go_wp2_with (go_at_call 80;refine (isDigit_any _ _).mono ?_;rintro e w1 ⟨rfl,h1⟩;subst w1;rw [hd2])
        go_round
        case rel =>
         refine ⟨k+1,by omega,by omega,by go_num,?_⟩
         have h:=HK.out
         simp only [digLen,hd2,if_true] at h;omega
        case measure=>simp [intOf];omega
       ·have hd2:isDigitB s[k]=false:=by simpa using hd2
        have hkN:k=a+N:=by have h:=HK.out;simp only [digLen,hd2,Bool.false_eq_true,if_false] at h;omega
        clear HK
        subst hkN
        go_wp2_with (go_at_call 80;refine (isDigit_any _ _).mono ?_;rintro e w1 ⟨rfl,h1⟩;subst w1;rw [hd2])
        exact bodyPost_ret (v:=.tuple #[.agg #[.int .u8 5,.string (s.extract a (a+N)),.int .i64 a],.int .i64 ((a+N:Nat):Int)]) (by simp [results,Tryz.results36,go_sem]) rfl ⟨rfl,(Below.refl _ _).alloc (Nat.le_refl _) _⟩
      ·have he:k=s.size:=by omega
       have hdrop:s.data.toList.drop k=[]:=List.drop_eq_nil_of_le (by simp;exact Nat.le_of_eq he.symm)
       rw [hdrop] at hk
       have hkN:k=a+N:=by simp only [digLen] at hk;omega
       clear hk hdrop he
       subst hkN
       have hge:¬ ((a:Int)+(N:Int)) < (s.size:Int):=by omega
       go_wp2_with fail
       exact bodyPost_ret (v:=.tuple #[.agg #[.int .u8 5,.string (s.extract a (a+N)),.int .i64 a],.int .i64 ((a+N:Nat):Int)]) (by simp [results,Tryz.results36,go_sem]) rfl ⟨rfl,(Below.refl _ _).alloc (Nat.le_refl _) _⟩
    ·cases h
   ·rename_i hdg
    have hdg:isDigitB s[a]=false:=by simpa using hdg
    split at h
    ·rename_i hqt
     have hqt:((s[a].toNat:Nat):Int)=34:=by
      have:s[a]=34:=by simpa using hqt
      rw [this];rfl
     split at h
     ·rename_i hq
      simp only [Option.some.injEq,Prod.mk.injEq] at h
      obtain ⟨rfl,rfl⟩:=h
      obtain ⟨N,hN⟩:∃ N,N=plainLen (s.data.toList.drop (a+1)):=⟨_,rfl⟩
      rw [← hN] at hq ⊢
      have hlt:a+1+N < s.size:=by
       rw [List.getElem?_drop] at hq
       have:=(List.getElem?_eq_some_iff.1 hq).1
       simpa using this
      have hqq:s[a+1+N]=34:=by
       rw [List.getElem?_drop,List.getElem?_eq_getElem (by simpa using hlt)] at hq
       exact Option.some.inj hq
      have HS:Aside (∀ w,Calls Tryz.prog 81 #[.string s,.int .i64 a] w fun e w'=>e = .returned (.tuple #[.string (s.extract (a+1) (a+1+N)),.int .i64 ((a+1+N+1:Nat):Int),.bool true])∧Below w.heap.size w w'):=fun w=>plainStr_ok s a N hs hN hlt hqq w
      clear hqq hq hN HD
      go_enter Tryz.func36,Tryz.ntmps36
      go_wp2_with (first
       | (go_at_call 77;refine (isLetter_34 _).mono ?_;rintro e w1 ⟨rfl,h1⟩;subst w1)
       | (go_at_call 80;refine (isDigit_34 _).mono ?_;rintro e w1 ⟨rfl,h1⟩;subst w1)
       | (go_at_call 81;refine Calls.mono (HS.out _) ?_;rintro e w1 ⟨rfl,h1⟩;obtain ⟨q1,q2⟩:=bcell h1;have q3:=h1.size;simp at q1 q2 q3))
      exact bodyPost_ret (v:=.tuple #[.agg #[.int .u8 6,.string (s.extract (a+1) (a+1+N)),.int .i64 a],.int .i64 ((a+1+N+1:Nat):Int)]) (by simp [results,Tryz.results36,go_sem,q1]) rfl
       ⟨rfl,(((((Below.refl _ _).alloc (Nat.le_refl _) _).trans (h1.mono (by simp))).setCell (Nat.le_refl _) _).setCell (Nat.le_refl _) _).setCell (Nat.le_refl _) _⟩
     ·cases h
    ·cases h
end Go.Proofs.Tryz
namespace Go.Proofs.Tryz
set_option maxHeartbeats 16000000
set_option maxRecDepth 10000
abbrev Bys:=List UInt8
def klt (a b:Bys):Prop:=Lib.compareBytes a b < 0
def kle (a b:Bys):Prop:=¬ Lib.compareBytes b a < 0
theorem cmp_neg:∀ a b:Bys,Lib.compareBytes b a = - Lib.compareBytes a b
 | [],[]=>by simp [Lib.compareBytes]
 | [],_ :: _=>by simp [Lib.compareBytes]
 | _ :: _,[]=>by simp [Lib.compareBytes]
 | a :: al,b :: bs=>by
  have ih:=cmp_neg al bs
  simp only [Lib.compareBytes]
  by_cases h1:a < b
  ·have h2:¬ b < a:=by simp only [UInt8.lt_iff_toNat_lt] at *;omega
   simp [h1,h2]
  ·by_cases h2:b < a
   ·simp [h1,h2]
   ·simp [h1,h2,ih]
theorem cmp_zero:∀ a b:Bys,Lib.compareBytes a b=0→a=b
 | [],[],_=>rfl
 | [],_ :: _,h=>by simp [Lib.compareBytes] at h
 | _ :: _,[],h=>by simp [Lib.compareBytes] at h
 | a :: al,b :: bs,h=>by
  simp only [Lib.compareBytes] at h
  by_cases h1:a < b
  ·simp [h1] at h
  ·by_cases h2:b < a
   ·simp [h1,h2] at h
   ·simp only [h1,h2,if_false] at h
    have e:a=b:=by
     apply UInt8.toNat_inj.1
     simp only [UInt8.lt_iff_toNat_lt] at *
     omega
    rw [e,cmp_zero al bs h]
theorem cmp_self:∀ a:Bys,Lib.compareBytes a a=0
 | []=>by simp [Lib.compareBytes]
 | a :: al=>by
  have h1:¬ a < a:=by simp only [UInt8.lt_iff_toNat_lt];omega
  simp [Lib.compareBytes,h1,cmp_self al]
theorem klt_trans:∀ {a b c:Bys},klt a b→klt b c→klt a c
 | _,[],[],_,h=>by simp [klt,Lib.compareBytes] at h
 | [],[],_ :: _,h,_=>by simp [klt,Lib.compareBytes] at h
 | _ :: _,[],_ :: _,h,_=>by simp [klt,Lib.compareBytes] at h
 | [],_ :: _,[],_,h=>by simp [klt,Lib.compareBytes] at h
 | _ :: _,_ :: _,[],_,h=>by simp [klt,Lib.compareBytes] at h
 | [],_ :: _,_ :: _,_,_=>by simp [klt,Lib.compareBytes]
 | a :: al,b :: bs,c :: cs,h,k=>by
  have ih:=@klt_trans al bs cs
  simp only [klt,Lib.compareBytes] at h k ih ⊢
  simp only [UInt8.lt_iff_toNat_lt] at h k ⊢
  by_cases h1:a.toNat < b.toNat
  ·by_cases h2:b.toNat < c.toNat
   ·rw [if_pos (by omega)];omega
   ·by_cases h3:c.toNat < b.toNat
    ·rw [if_neg h2,if_pos h3] at k;omega
    ·rw [if_pos (by omega)];omega
  ·by_cases h2:b.toNat < a.toNat
   ·rw [if_neg h1,if_pos h2] at h;omega
   ·rw [if_neg h1,if_neg h2] at h
    by_cases h3:b.toNat < c.toNat
    ·rw [if_pos (by omega)];omega
    ·by_cases h4:c.toNat < b.toNat
     ·rw [if_neg h3,if_pos h4] at k;omega
     ·rw [if_neg h3,if_neg h4] at k
      rw [if_neg (by omega),if_neg (by omega)]
      exact ih h k
theorem kle_refl (a:Bys):kle a a:=by rw [kle,cmp_self];omega
theorem klt_kle {a b:Bys} (h:klt a b):kle a b:=by rw [kle,cmp_neg a b];rw [klt] at h;omega
theorem kle_cases {a b:Bys} (h:kle a b):klt a b∨a=b:=by
 by_cases h1:Lib.compareBytes a b=0
 ·exact .inr (cmp_zero _ _ h1)
 ·left
  rw [kle,cmp_neg a b] at h
  rw [klt];omega
theorem klt_ne {a b:Bys} (h:klt a b):a≠b:=fun e=>by rw [e,klt,cmp_self] at h;omega
theorem kle_trans {a b c:Bys} (h:kle a b) (k:kle b c):kle a c:=by
 rcases kle_cases h with h | rfl
 ·rcases kle_cases k with k | rfl
  ·exact klt_kle (klt_trans h k)
  ·exact klt_kle h
 ·exact k
theorem klt_kle_trans {a b c:Bys} (h:klt a b) (k:kle b c):klt a c:=by
 rcases kle_cases k with k | rfl
 ·exact klt_trans h k
 ·exact h
theorem kle_klt_trans {a b c:Bys} (h:kle a b) (k:klt b c):klt a c:=by
 rcases kle_cases h with h | rfl
 ·exact klt_trans h k
 ·exact k
theorem kle_antisymm {a b:Bys} (h:kle a b) (k:kle b a):a=b:=by
 rcases kle_cases h with h | h
 ·exact absurd h k
 ·exact h
section
variable {α : Type} (key : α → Bys)
def Srt (l:List α):Prop:=l.Pairwise (fun x y=>kle (key x) (key y))
def flt (k:Bys) (l:List α):List α:=l.filter (fun x=>key x == k)
structure StS (l r:List α):Prop where
 srt:Srt key r
 len:r.length=l.length
 flts:∀ k,flt key k r=flt key k l
variable {key}
theorem flt_app (k:Bys) (l m:List α):flt key k (l ++ m)=flt key k l ++ flt key k m:=by simp [flt]
theorem flt_self {x:α} (l:List α):x∈flt key (key x) l↔x∈l:=by simp [flt]
theorem StS.mem {l r:List α} (h:StS key l r) (x:α):x∈r↔x∈l:=by
 rw [← flt_self (key:=key) r,h.flts,flt_self]
theorem StS.of_srt {l:List α} (h:Srt key l):StS key l l:=⟨h,rfl,fun _=>rfl⟩
theorem flt_cons (k:Bys) (x:α) (l:List α):flt key k (x :: l)=if key x=k then x :: flt key k l else flt key k l:=by
 by_cases h:key x=k <;> simp [flt,h]
theorem srt_unique:∀ {r r':List α},Srt key r→Srt key r'→(∀ k,flt key k r=flt key k r')→r=r'
 | [],[],_,_,_=>rfl
 | [],y :: t,_,_,h=>by
  have:=h (key y)
  rw [flt_cons,if_pos rfl] at this
  simp [flt] at this
 | x :: t,[],_,_,h=>by
  have:=h (key x)
  rw [flt_cons,if_pos rfl] at this
  simp [flt] at this
 | x :: t,y :: t',hr,hr',h=>by
  have hx:x∈y :: t':=by rw [← flt_self (key:=key),← h,flt_self];simp
  have hy:y∈x :: t:=by rw [← flt_self (key:=key),h,flt_self];simp
  have kxy:key x=key y:=by
   refine kle_antisymm ?_ ?_
   ·rcases List.mem_cons.1 hy with e | e
    ·rw [e];exact kle_refl _
    ·exact (List.pairwise_cons.1 hr).1 _ e
   ·rcases List.mem_cons.1 hx with e | e
    ·rw [e];exact kle_refl _
    ·exact (List.pairwise_cons.1 hr').1 _ e
  have h1:=h (key x)
  rw [flt_cons,if_pos rfl,flt_cons,if_pos kxy.symm] at h1
  have exy:x=y:=(List.cons.inj h1).1
  subst exy
  rw [srt_unique (List.pairwise_cons.1 hr).2 (List.pairwise_cons.1 hr').2 (fun k=>by
   have:=h k
   rw [flt_cons,flt_cons] at this
   by_cases e:key x=k
   ·rw [if_pos e,if_pos e] at this;exact (List.cons.inj this).2
   ·rw [if_neg e,if_neg e] at this;exact this)]
theorem StS.unique {l r r':List α} (h:StS key l r) (h':StS key l r'):r=r':=srt_unique h.srt h'.srt (fun k=>(h.flts k).trans (h'.flts k).symm)
theorem StS.two {A A' B B' C:List α} (h:StS key A A') (k:StS key B B') (m:StS key (A' ++ B') C):StS key (A ++ B) C :=
 ⟨m.srt,by rw [m.len,List.length_append,List.length_append,h.len,k.len],fun q=>by rw [m.flts,flt_app,flt_app,h.flts,k.flts]⟩
theorem srt_app {A B:List α}:Srt key (A ++ B)↔Srt key A∧Srt key B∧∀ x∈A,∀ y∈B,kle (key x) (key y):=List.pairwise_append
theorem flt_swap {A B:List α} (h:∀ y∈B,∀ x∈A,klt (key y) (key x)) (k:Bys):flt key k B ++ flt key k A=flt key k A ++ flt key k B:=by
 cases hA:flt key k A with
 | nil=>simp
 | cons x t =>
  cases hB:flt key k B with
  | nil=>simp
  | cons y u =>
   exfalso
   have hx:x∈flt key k A:=by rw [hA];simp
   have hy:y∈flt key k B:=by rw [hB];simp
   simp [flt] at hx hy
   exact klt_ne (h y hy.1 x hx.1) (hy.2.trans hx.2.symm)
theorem StS.cat {A1 A2 B1 B2 C1 C2:List α} (hA:Srt key (A1 ++ A2)) (hB:Srt key (B1 ++ B2)) (h1:∀ x∈A1,∀ y∈B2,kle (key x) (key y)) (h2:∀ y∈B1,∀ x∈A2,klt (key y) (key x)) (s1:StS key (A1 ++ B1) C1) (s2:StS key (A2 ++ B2) C2):StS key ((A1 ++ A2) ++ (B1 ++ B2)) (C1 ++ C2):=by
 obtain ⟨a1,a2,a3⟩:=srt_app.1 hA
 obtain ⟨b1,b2,b3⟩:=srt_app.1 hB
 refine ⟨srt_app.2 ⟨s1.srt,s2.srt,fun x hx y hy=>?_⟩,?_,fun k=>?_⟩
 ·rw [s1.mem,List.mem_append] at hx
  rw [s2.mem,List.mem_append] at hy
  rcases hx with hx | hx <;> rcases hy with hy | hy
  ·exact a3 x hx y hy
  ·exact h1 x hx y hy
  ·exact klt_kle (h2 x hx y hy)
  ·exact b3 x hx y hy
 ·have:=s1.len
  have:=s2.len
  simp only [List.length_append] at *
  omega
 ·rw [flt_app,s1.flts,s2.flts,flt_app,flt_app,flt_app,flt_app,flt_app,List.append_assoc,List.append_assoc,← List.append_assoc (flt key k B1),flt_swap h2 k,List.append_assoc]
def kat (key:α→Bys) (l:List α) (i:Nat):Bys:=(l[i]?.map key).getD []
theorem kat_eq {l:List α}{i:Nat} (h:i < l.length):kat key l i=key l[i]:=by simp [kat,h]
theorem Srt.at {l:List α} (h:Srt key l) {i j:Nat} (hij:i≤j) (hj:j < l.length):kle (kat key l i) (kat key l j):=by
 rw [kat_eq (by omega),kat_eq hj]
 rcases Nat.lt_or_eq_of_le hij with h' | rfl
 ·exact List.pairwise_iff_getElem.1 h i j (by omega) hj h'
 ·exact kle_refl _
theorem mem_take_at {l:List α}{u:Nat}{x:α} (h:x∈l.take u):∃ i,i < u∧i < l.length∧kat key l i=key x:=by
 obtain ⟨i,hi,e⟩:=List.mem_iff_getElem.1 h
 simp only [List.length_take] at hi
 refine ⟨i,by omega,by omega,?_⟩
 rw [kat_eq (by omega),← e,List.getElem_take]
theorem mem_drop_at {l:List α}{u:Nat}{x:α} (h:x∈l.drop u):∃ i,u≤i∧i < l.length∧kat key l i=key x:=by
 obtain ⟨i,hi,e⟩:=List.mem_iff_getElem.1 h
 simp only [List.length_drop] at hi
 refine ⟨u+i,by omega,by omega,?_⟩
 rw [kat_eq (by omega),← e,List.getElem_drop]
theorem StS.sym {A B C1 C2:List α}{u v:Nat} (hA:Srt key A) (hB:Srt key B) (hu:u≤A.length) (hv:v≤B.length) (h1:u=0∨v=B.length∨kle (kat key A (u - 1)) (kat key B v)) (h2:u=A.length∨v=0∨klt (kat key B (v - 1)) (kat key A u)) (s1:StS key (A.take u ++ B.take v) C1) (s2:StS key (A.drop u ++ B.drop v) C2):StS key (A ++ B) (C1 ++ C2):=by
 have:=StS.cat (A1:=A.take u) (A2:=A.drop u) (B1:=B.take v) (B2:=B.drop v) (by rwa [List.take_append_drop]) (by rwa [List.take_append_drop]) (fun x hx y hy=>?_) (fun y hy x hx=>?_) s1 s2
 ·rwa [List.take_append_drop,List.take_append_drop] at this
 ·obtain ⟨i,i1,i2,e⟩:=mem_take_at (key:=key) hx
  obtain ⟨j,j1,j2,f⟩:=mem_drop_at (key:=key) hy
  rw [← e,← f]
  rcases h1 with h | h | h
  ·omega
  ·omega
  ·exact kle_trans (hA.at (by omega) (by omega)) (kle_trans h (hB.at j1 j2))
 ·obtain ⟨j,j1,j2,f⟩:=mem_take_at (key:=key) hy
  obtain ⟨i,i1,i2,e⟩:=mem_drop_at (key:=key) hx
  rw [← e,← f]
  rcases h2 with h | h | h
  ·omega
  ·omega
  ·exact kle_klt_trans (hB.at (by omega) (by omega)) (klt_kle_trans h (hA.at i1 i2))
def insB (key:α→Bys) (x:α):List α→List α
 | []=>[x]
 | y :: l=>if Lib.compareBytes (key y) (key x) < 0 then y :: insB key x l else x :: y :: l
def sortB (key:α→Bys):List α→List α
 | []=>[]
 | x :: l=>insB key x (sortB key l)
theorem insB_mem (x:α):∀ (l:List α) (z:α),z∈insB key x l↔z=x∨z∈l
 | [],z=>by simp [insB]
 | y :: l,z=>by
  unfold insB
  split
  ·rw [List.mem_cons,insB_mem x l z,List.mem_cons]
   constructor
   ·rintro (h | h | h) <;> simp [h]
   ·rintro (h | h | h) <;> simp [h]
  ·rw [List.mem_cons]
theorem insB_sts (x:α):∀ (l:List α),Srt key l→StS key (x :: l) (insB key x l)
 | [],_=>StS.of_srt (by simp [Srt])
 | y :: l,h=>by
  obtain ⟨h1,h2⟩:=List.pairwise_cons.1 h
  unfold insB
  split
  ·rename_i hc
   have ih:=insB_sts x l h2
   refine ⟨List.pairwise_cons.2 ⟨fun z hz=>?_,ih.srt⟩,by simp [ih.len],fun k=>?_⟩
   ·rcases (insB_mem x l z).1 hz with rfl | hz
    ·exact klt_kle hc
    ·exact h1 z hz
   ·rw [flt_cons,ih.flts,flt_cons,flt_cons,flt_cons]
    by_cases e1:key y=k
    ·by_cases e2:key x=k
     ·exact absurd (e1.trans e2.symm) (klt_ne hc)
     ·rw [if_pos e1,if_neg e2,if_neg e2,if_pos e1]
    ·by_cases e2:key x=k
     ·rw [if_neg e1,if_pos e2,if_pos e2,if_neg e1]
     ·rw [if_neg e1,if_neg e2,if_neg e2,if_neg e1]
  ·rename_i hc
   refine StS.of_srt (List.pairwise_cons.2 ⟨fun z hz=>?_,h⟩)
   rcases List.mem_cons.1 hz with rfl | hz
   ·exact hc
   ·exact kle_trans hc (h1 z hz)
theorem sortB_sts:∀ (l:List α),StS key l (sortB key l)
 | []=>StS.of_srt (by simp [Srt])
 | x :: l=>by
  have ih:=sortB_sts l
  have h:=insB_sts x _ ih.srt
  refine ⟨h.srt,by show (insB key x (sortB key l)).length=_;rw [h.len];simp [ih.len],fun k=>?_⟩
  show flt key k (insB key x (sortB key l))=_
  rw [h.flts,flt_cons,flt_cons,ih.flts]
theorem sortB_of_sts {l r:List α} (h:StS key l r):r=sortB key l:=h.unique (sortB_sts l)
theorem sortB_of_srt {l:List α} (h:Srt key l):sortB key l=l:=(sortB_of_sts (StS.of_srt h)).symm
end
section
variable {α : Type}
def swp (L:List α) (i j:Nat):List α:=match L[i]?,L[j]? with
 | some x,some y=>(L.set i y).set j x
 | _,_=>L
def swpR (L:List α) (a b:Nat):Nat→List α
 | 0=>L
 | n+1=>swp (swpR L a b n) (a+n) (b+n)
theorem swp_len (L:List α) (i j:Nat):(swp L i j).length=L.length:=by
 unfold swp
 split
 ·simp
 ·rfl
theorem swpR_len (L:List α) (a b:Nat):∀ n,(swpR L a b n).length=L.length
 | 0=>rfl
 | n+1=>by rw [swpR,swp_len,swpR_len L a b n]
theorem swp_eq {L:List α}{i j:Nat}{x y:α} (hi:L[i]? = some x) (hj:L[j]? = some y):swp L i j=(L.set i y).set j x:=by
 unfold swp;rw [hi,hj]
theorem swp_at {L:List α}{i j:Nat} (hi:i < L.length) (hj:j < L.length) (k:Nat):(swp L i j)[k]? = if k=j then L[i]? else if k=i then L[j]? else L[k]?:=by
 rw [swp_eq (List.getElem?_eq_getElem hi) (List.getElem?_eq_getElem hj)]
 simp only [List.getElem?_set,List.length_set]
 by_cases h1:k=j
 ·subst h1;simp [hj,hi]
 ·have h1':¬ j=k:=fun e=>h1 e.symm
  rw [if_neg h1',if_neg h1]
  by_cases h2:k=i
  ·subst h2;simp [hi,hj]
  ·have h2':¬ i=k:=fun e=>h2 e.symm
   rw [if_neg h2',if_neg h2]
theorem swpR_at {L:List α}{a b:Nat}:∀ {n:Nat},a+n≤b→b+n≤L.length→∀ k,(swpR L a b n)[k]? = if a≤k∧k < a+n then L[k - a+b]? else if b≤k∧k < b+n then L[k - b+a]? else L[k]?
 | 0,_,_,k=>by
  rw [if_neg (by omega),if_neg (by omega)];rfl
 | n+1,h1,h2,k=>by
  have ih:=@swpR_at L a b n (by omega) (by omega)
  rw [swpR,swp_at (by rw [swpR_len];omega) (by rw [swpR_len];omega)]
  by_cases k1:k=b+n
  ·subst k1
   rw [if_pos rfl,ih,if_neg (by omega),if_neg (by omega),if_neg (by omega),if_pos (by omega)]
   congr 1;omega
  ·rw [if_neg k1]
   by_cases k2:k=a+n
   ·subst k2
    rw [if_pos rfl,ih,if_neg (by omega),if_neg (by omega),if_pos (by omega)]
    congr 1;omega
   ·rw [if_neg k2,ih]
    by_cases k3:a≤k∧k < a+n
    ·rw [if_pos k3,if_pos (by omega)]
    ·rw [if_neg k3,if_neg (by omega:¬ (a≤k∧k < a+(n+1)))]
     by_cases k4:b≤k∧k < b+n
     ·rw [if_pos k4,if_pos (by omega)]
     ·rw [if_neg k4,if_neg (by omega)]
theorem app_at (A B:List α) (k:Nat):(A ++ B)[k]? = if k < A.length then A[k]? else B[k - A.length]?:=List.getElem?_append
theorem swpR_app (X A M B Y:List α) (h:A.length=B.length):swpR (X ++ (A ++ (M ++ (B ++ Y)))) X.length (X.length+(A.length+M.length)) A.length=X ++ (B ++ (M ++ (A ++ Y))):=by
 apply List.ext_getElem?
 intro k
 rw [swpR_at (by omega) (by simp only [List.length_append];omega)]
 by_cases k1:k < X.length
 ·rw [if_neg (by omega),if_neg (by omega),app_at,if_pos k1,app_at,if_pos k1]
 ·by_cases k2:k < X.length+A.length
  ·rw [if_pos (by omega),app_at,if_neg (by omega),app_at,if_neg (by omega),app_at,if_neg (by omega),app_at,if_pos (by omega),app_at,if_neg (by omega),app_at,if_pos (by omega)]
   congr 1;omega
  ·rw [if_neg (by omega)]
   by_cases k3:k < X.length+(A.length+M.length)
   ·rw [if_neg (by omega),app_at,if_neg (by omega),app_at,if_neg (by omega),app_at,if_pos (by omega),app_at,if_neg (by omega),app_at,if_neg (by omega),app_at,if_pos (by omega)]
    congr 1;omega
   ·by_cases k4:k < X.length+(A.length+M.length)+A.length
    ·rw [if_pos (by omega),app_at,if_neg (by omega),app_at,if_pos (by omega),app_at,if_neg (by omega),app_at,if_neg (by omega),app_at,if_neg (by omega),app_at,if_pos (by omega)]
     congr 1;omega
    ·rw [if_neg (by omega),app_at,if_neg (by omega),app_at,if_neg (by omega),app_at,if_neg (by omega),app_at,if_neg (by omega),app_at,if_neg (by omega),app_at,if_neg (by omega),app_at,if_neg (by omega),app_at,if_neg (by omega)]
     congr 1;omega
end
section
variable {α : Type} {key : α → Bys}
theorem swp_adj (Z:List α) (x y:α) (R:List α):swp (Z ++ x :: y :: R) Z.length (Z.length+1)=Z ++ y :: x :: R:=by
 rw [swp_eq (x:=x) (y:=y) (by simp) (by simp)]
 simp
theorem swp_adj' (Z:List α) (x y:α) (R:List α):swp (Z ++ x :: y :: R) (Z.length+1) Z.length=Z ++ y :: x :: R:=by
 rw [swp_eq (x:=y) (y:=x) (by simp) (by simp)]
 simp
theorem srt_snoc {A:List α}{x:α} (hA:Srt key A) (h:A=[]∨kle (kat key A (A.length - 1)) (key x)):Srt key (A ++ [x]):=by
 refine srt_app.2 ⟨hA,by simp [Srt],fun z hz y hy=>?_⟩
 simp only [List.mem_singleton] at hy
 subst hy
 rcases h with rfl | h
 ·simp at hz
 ·obtain ⟨i,hi,e⟩:=List.mem_iff_getElem.1 hz
  have:kat key A i=key z:=by rw [kat_eq hi,e]
  rw [← this]
  exact kle_trans (hA.at (by omega) (by omega)) h
theorem srt_cons {A:List α}{x:α} (hA:Srt key A) (h:A=[]∨kle (key x) (kat key A 0)):Srt key (x :: A):=by
 refine List.pairwise_cons.2 ⟨fun z hz=>?_,hA⟩
 rcases h with rfl | h
 ·simp at hz
 ·obtain ⟨i,hi,e⟩:=List.mem_iff_getElem.1 hz
  have:kat key A i=key z:=by rw [kat_eq hi,e]
  rw [← this]
  exact kle_trans h (hA.at (by omega) hi)
theorem sts_ins {A0 S1 S2:List α}{x:α} (h:StS key A0 (S1 ++ S2)) (h2:∀ y∈S2,klt (key x) (key y)) (h1:S1=[]∨kle (kat key S1 (S1.length - 1)) (key x)):StS key (A0 ++ [x]) (S1 ++ (x :: S2)):=by
 obtain ⟨a1,a2,a3⟩:=srt_app.1 h.srt
 have s1:StS key (S1 ++ [x]) (S1 ++ [x]):=StS.of_srt (srt_snoc a1 h1)
 have s2:StS key (S2 ++ []) S2:=by rw [List.append_nil];exact StS.of_srt a2
 have c:=StS.cat (A1:=S1) (A2:=S2) (B1:=[x]) (B2:=[]) h.srt (by simp [Srt]) (by simp) (by simpa using h2) s1 s2
 have:=StS.two h (StS.of_srt (l:=[x]) (by simp [Srt])) (C:=S1 ++ (x :: S2)) (by simpa using c)
 exact this
theorem sts_left {B:List α}{x:α}{v:Nat} (hB:Srt key B) (hv:v≤B.length) (h1:v=0∨klt (kat key B (v - 1)) (key x)) (h2:v=B.length∨kle (key x) (kat key B v)):StS key ([x] ++ B) (B.take v ++ (x :: B.drop v)):=by
 have hs:Srt key (B.take v)∧Srt key (B.drop v):=by
  have:=srt_app.1 (show Srt key (B.take v ++ B.drop v) by rwa [List.take_append_drop])
  exact ⟨this.1,this.2.1⟩
 refine StS.sym (u:=0) (v:=v) (by simp [Srt]) hB (by simp) hv (.inl rfl) ?_ ?_ ?_
 ·rcases h1 with h | h
  ·exact .inr (.inl h)
  ·exact .inr (.inr (by simpa [kat] using h))
 ·simpa using StS.of_srt hs.1
 ·refine StS.of_srt (l:=x :: B.drop v) (srt_cons hs.2 ?_)
  rcases h2 with h | h
  ·exact .inl (by rw [h];simp)
  ·right
   simpa [kat,List.getElem?_drop] using h
theorem sts_right {A:List α}{y:α}{u:Nat} (hA:Srt key A) (hu:u≤A.length) (h1:u=0∨kle (kat key A (u - 1)) (key y)) (h2:u=A.length∨klt (key y) (kat key A u)):StS key (A ++ [y]) (A.take u ++ (y :: A.drop u)):=by
 have hs:Srt key (A.take u)∧Srt key (A.drop u):=by
  have:=srt_app.1 (show Srt key (A.take u ++ A.drop u) by rwa [List.take_append_drop])
  exact ⟨this.1,this.2.1⟩
 have c:=StS.sym (A:=A) (B:=[y]) (C1:=A.take u ++ [y]) (C2:=A.drop u) (u:=u) (v:=1) hA (by simp [Srt]) hu (by simp) (.inr (.inl rfl)) ?_ ?_ ?_
 ·simpa using c
 ·rcases h2 with h | h
  ·exact .inl h
  ·exact .inr (.inr (by simpa [kat] using h))
 ·refine StS.of_srt (l:=A.take u ++ [y]) (srt_snoc hs.1 ?_)
  rcases h1 with h | h
  ·exact .inl (by rw [h];simp)
  ·by_cases h0:u=0
   ·exact .inl (by rw [h0];simp)
   ·right
    have e:(A.take u).length - 1=u - 1:=by simp;omega
    rw [e]
    have:kat key (A.take u) (u - 1)=kat key A (u - 1):=by
     simp only [kat]
     rw [List.getElem?_take_of_lt (by omega)]
    rw [this];exact h
 ·simpa using StS.of_srt hs.2
def seg (L:List α) (i n:Nat):List α:=(L.drop i).take n
theorem seg_len (L:List α) (i n:Nat):(seg L i n).length=min n (L.length - i):=by simp [seg]
theorem seg_left {X Z:List α}{i n:Nat} (h:i+n≤X.length):seg (X ++ Z) i n=seg X i n:=by
 unfold seg
 rw [List.drop_append_of_le_length (by omega),List.take_append_of_le_length (by simp;omega)]
theorem seg_right {X A C Y:List α}{i n:Nat} (h:A.length=C.length) (hi:X.length+A.length≤i):seg (X ++ (A ++ Y)) i n=seg (X ++ (C ++ Y)) i n:=by
 unfold seg
 obtain ⟨k,rfl⟩:=Nat.exists_eq_add_of_le hi
 rw [← List.append_assoc,← List.append_assoc,show X.length+A.length=(X ++ A).length by simp,List.drop_length_add_append,show (X ++ A).length=(X ++ C).length by simp [h],List.drop_length_add_append]
theorem seg_mid {X A Y:List α}:seg (X ++ (A ++ Y)) X.length A.length=A:=by simp [seg]
theorem seg_add (L:List α) (i n m:Nat):seg L i (n+m)=seg L i n ++ seg L (i+n) m:=by
 unfold seg
 rw [List.take_add,List.drop_drop]
theorem seg_all {L:List α}{n:Nat} (h:L.length≤n):seg L 0 n=L:=by simp [seg,List.take_of_length_le h]
theorem seg_big {L:List α}{i n m:Nat} (hn:L.length≤i+n) (hm:L.length≤i+m):seg L i n=seg L i m:=by
 unfold seg
 rw [List.take_of_length_le (by simp;omega),List.take_of_length_le (by simp;omega)]
theorem split3 (L:List α) (i n:Nat):L=L.take i ++ (seg L i n ++ L.drop (i+n)):=by
 unfold seg
 rw [show L.drop (i+n)=(L.drop i).drop n by rw [List.drop_drop],List.take_append_drop,List.take_append_drop]
structure Blk (key:α→Bys) (L R:List α) (a s t:Nat):Prop where
 len:R.length=L.length
 done:∀ k,(k+1) * t≤a→StS key (seg L (k * t) t) (seg R (k * t) t)
 left:∀ i,a≤i→(∃ k,i=a+k * s)→StS key (seg L i s) (seg R i s)
theorem Blk.step {L R:List α}{a s:Nat} (h:Blk key L R a s (s+s)) (ha:∃ k,a=k * (s+s)) (hs:0 < s) {C:List α} (hC:StS key (seg R a s ++ seg R (a+s) s) C):Blk key L (R.take a ++ (C ++ R.drop (a+(s+s)))) (a+(s+s)) s (s+s):=by
 have hc:C.length=(seg R a (s+s)).length:=by rw [hC.len,seg_add]
 have hR:=split3 R a (s+s)
 have hlen:(R.take a ++ (C ++ R.drop (a+(s+s)))).length=R.length:=by
  conv=>rhs;rw [hR]
  simp only [List.length_append,hc]
 obtain ⟨k0,hk0⟩:=ha
 refine ⟨hlen.trans h.len,fun k hk=>?_,fun i hi hik=>?_⟩
 ·by_cases hlt:(k+1) * (s+s)≤a
  ·have e1:seg (R.take a ++ (C ++ R.drop (a+(s+s)))) (k * (s+s)) (s+s)=seg R (k * (s+s)) (s+s):=by
    by_cases hal:a≤R.length
    ·have:(R.take a).length=a:=by simp;omega
     rw [seg_left (by rw [this];rw [Nat.add_mul,Nat.one_mul] at hlt;exact hlt)]
     conv=>rhs;rw [hR]
     rw [seg_left (by rw [this];rw [Nat.add_mul,Nat.one_mul] at hlt;exact hlt)]
    ·have e2:seg R a (s+s)=[]:=by simp [seg];right;omega
     have e3:C=[]:=List.eq_nil_of_length_eq_zero (by rw [hc,e2];rfl)
     have e4:R.drop (a+(s+s))=[]:=by simp;omega
     rw [e3,e4,List.append_nil,List.append_nil,List.take_of_length_le (by omega)]
   rw [e1]
   exact h.done k hlt
  ·have ek:k * (s+s)=a:=by
    subst hk0
    have h1:k < k0+1:=by
     have:(k+1) * (s+s)≤(k0+1) * (s+s):=by rw [Nat.add_mul k0,Nat.one_mul];exact hk
     have:=Nat.le_of_mul_le_mul_right this (by omega)
     omega
    have h2:¬ k+1≤k0:=fun e=>hlt (Nat.mul_le_mul_right _ e)
    have:k=k0:=by omega
    rw [this]
   rw [ek]
   have l1:=h.left a (Nat.le_refl _) ⟨0,by omega⟩
   have l2:=h.left (a+s) (by omega) ⟨1,by omega⟩
   have e5:seg (R.take a ++ (C ++ R.drop (a+(s+s)))) a (s+s)=C:=by
    by_cases hal:a≤R.length
    ·have ht:(R.take a).length=a:=by simp;omega
     have hcl:C.length=min (s+s) (R.length - a):=by rw [hc,seg_len]
     by_cases hbig:a+(s+s)≤R.length
     ·have:C.length=s+s:=by omega
      conv=>lhs;rw [← ht,← this]
      rw [ht,this]
      have q:=seg_mid (X:=R.take a) (A:=C) (Y:=R.drop (a+(s+s)))
      rw [ht,this] at q
      exact q
     ·have:R.drop (a+(s+s))=[]:=by simp;omega
      rw [this,List.append_nil]
      have q:=List.drop_left (l₁:=R.take a) (l₂:=C)
      rw [ht] at q
      unfold seg
      rw [q]
      exact List.take_of_length_le (by omega)
    ·have e2:seg R a (s+s)=[]:=by simp [seg];right;omega
     have e3:C=[]:=List.eq_nil_of_length_eq_zero (by rw [hc,e2];rfl)
     have e4:R.drop (a+(s+s))=[]:=by simp;omega
     rw [e3,e4,List.append_nil,List.append_nil,List.take_of_length_le (by omega)]
     exact e2
   rw [e5,seg_add]
   exact StS.two l1 l2 hC
 ·obtain ⟨k,rfl⟩:=hik
  have e6:seg (R.take a ++ (C ++ R.drop (a+(s+s)))) (a+(s+s)+k * s) s=seg R (a+(s+s)+k * s) s:=by
   conv=>rhs;rw [hR]
   exact (seg_right hc.symm (by rw [seg_len];simp;omega)).symm
  rw [e6]
  exact h.left _ (by omega) ⟨k+2,by rw [Nat.add_mul];omega⟩
theorem Blk.last {L R:List α}{a s:Nat} (h:Blk key L R a s (s+s)) (ha:∃ k,a=k * (s+s)) (hs:0 < s) (hl:L.length≤a+s):Blk key L R (a+(s+s)) s (s+s):=by
 have e:seg R (a+s) s=[]:=by have:=h.len;simp [seg];right;omega
 have l1:=h.left a (Nat.le_refl _) ⟨0,by omega⟩
 have:=h.step ha hs (C:=seg R a s) (by rw [e,List.append_nil];exact StS.of_srt l1.srt)
 rw [seg_big (m:=s+s) (by have:=h.len;omega) (by have:=h.len;omega),← split3] at this
 exact this
theorem Blk.next {L R:List α}{a s t:Nat} (h:Blk key L R a s (s+s)) (ha:∃ k,a=k * (s+s)) (hl:L.length≤a):Blk key L R 0 (s+s) t:=by
 refine ⟨h.len,fun k hk=>?_,fun i _ hik=>?_⟩
 ·have:t=0:=by
   rw [Nat.add_mul] at hk;omega
  subst this
  have e1:seg L (k * 0) 0=[]:=by simp [seg]
  have e2:seg R (k * 0) 0=[]:=by simp [seg]
  rw [e1,e2]
  exact StS.of_srt (by simp [Srt])
 ·obtain ⟨k,rfl⟩:=hik
  rw [Nat.zero_add]
  by_cases hk:(k+1) * (s+s)≤a
  ·exact h.done k hk
  ·obtain ⟨k0,rfl⟩:=ha
   have:k0≤k:=by
    rcases Nat.lt_or_ge k k0 with h' | h'
    ·exact absurd (Nat.mul_le_mul_right (s+s) (show k+1≤k0 by omega)) hk
    ·exact h'
   have:=Nat.mul_le_mul_right (s+s) this
   have e1:seg L (k * (s+s)) (s+s)=[]:=by simp [seg];right;omega
   have e2:seg R (k * (s+s)) (s+s)=[]:=by have:=h.len;simp [seg];right;omega
   rw [e1,e2]
   exact StS.of_srt (by simp [Srt])
theorem Blk.whole {L R:List α}{s t:Nat} (h:Blk key L R 0 s t) (hl:L.length≤s):StS key L R:=by
 have:=h.left 0 (Nat.le_refl _) ⟨0,by omega⟩
 rwa [seg_all hl,seg_all (by rw [h.len];exact hl)] at this
structure Ini (key:α→Bys) (L R:List α) (a s:Nat):Prop where
 len:R.length=L.length
 done:∀ k,(k+1) * s≤a→StS key (seg L (k * s) s) (seg R (k * s) s)
 rest:R.drop a=L.drop a
theorem Ini.step {L R:List α}{a s:Nat} (h:Ini key L R a s) (ha:∃ k,a=k * s) (hs:0 < s) {C:List α} (hal:a≤L.length) (hC:StS key (seg R a s) C):Ini key L (R.take a ++ (C ++ R.drop (a+s))) (a+s) s:=by
 have hlen0:=h.len
 have hcl:C.length=min s (R.length - a):=by rw [hC.len,seg_len]
 have ht:(R.take a).length=a:=by simp;omega
 have hR:=split3 R a s
 have hlen:(R.take a ++ (C ++ R.drop (a+s))).length=R.length:=by
  conv=>rhs;rw [hR]
  simp only [List.length_append,hC.len]
 obtain ⟨k0,hk0⟩:=ha
 refine ⟨hlen.trans h.len,fun k hk=>?_,?_⟩
 ·by_cases hlt:(k+1) * s≤a
  ·have e1:seg (R.take a ++ (C ++ R.drop (a+s))) (k * s) s=seg R (k * s) s:=by
    rw [seg_left (by rw [ht];rw [Nat.add_mul,Nat.one_mul] at hlt;exact hlt)]
    conv=>rhs;rw [hR]
    rw [seg_left (by rw [ht];rw [Nat.add_mul,Nat.one_mul] at hlt;exact hlt)]
   rw [e1]
   exact h.done k hlt
  ·have ek:k * s=a:=by
    subst hk0
    have h1:k < k0+1:=by
     have:(k+1) * s≤(k0+1) * s:=by rw [Nat.add_mul k0,Nat.one_mul];exact hk
     have:=Nat.le_of_mul_le_mul_right this (by omega)
     omega
    have h2:¬ k+1≤k0:=fun e=>hlt (Nat.mul_le_mul_right _ e)
    have:k=k0:=by omega
    rw [this]
   rw [ek]
   have e5:seg (R.take a ++ (C ++ R.drop (a+s))) a s=C:=by
    by_cases hbig:a+s≤R.length
    ·have:C.length=s:=by omega
     have q:=seg_mid (X:=R.take a) (A:=C) (Y:=R.drop (a+s))
     rw [ht,this] at q
     exact q
    ·have:R.drop (a+s)=[]:=by simp;omega
     rw [this,List.append_nil]
     have q:=List.drop_left (l₁:=R.take a) (l₂:=C)
     rw [ht] at q
     unfold seg
     rw [q]
     exact List.take_of_length_le (by omega)
   have e6:seg R a s=seg L a s:=by unfold seg;rw [h.rest]
   rw [e5,← e6]
   exact hC
 ·rw [← List.append_assoc]
  by_cases hbig:a+s≤R.length
  ·have:(R.take a ++ C).length=a+s:=by simp only [List.length_append,ht];omega
   rw [← this,List.drop_left,this,show R.drop (a+s)=(R.drop a).drop s by rw [List.drop_drop],h.rest,List.drop_drop]
  ·rw [List.drop_eq_nil_of_le (by rw [List.append_assoc,hlen];omega),List.drop_eq_nil_of_le (by omega)]
theorem Ini.blk {L R:List α}{a s t:Nat} (h:Ini key L R a s) (ha:∃ k,a=k * s) (hl:L.length≤a):Blk key L R 0 s t:=by
 refine ⟨h.len,fun k hk=>?_,fun i _ hik=>?_⟩
 ·have:t=0:=by
   rw [Nat.add_mul] at hk;omega
  subst this
  have e1:seg L (k * 0) 0=[]:=by simp [seg]
  have e2:seg R (k * 0) 0=[]:=by simp [seg]
  rw [e1,e2]
  exact StS.of_srt (by simp [Srt])
 ·obtain ⟨k,rfl⟩:=hik
  rw [Nat.zero_add]
  by_cases hk:(k+1) * s≤a
  ·exact h.done k hk
  ·obtain ⟨k0,rfl⟩:=ha
   have:k0≤k:=by
    rcases Nat.lt_or_ge k k0 with h' | h'
    ·exact absurd (Nat.mul_le_mul_right s (show k+1≤k0 by omega)) hk
    ·exact h'
   have:=Nat.mul_le_mul_right s this
   have e1:seg L (k * s) s=[]:=by simp [seg];right;omega
   have e2:seg R (k * s) s=[]:=by have:=h.len;simp [seg];right;omega
   rw [e1,e2]
   exact StS.of_srt (by simp [Srt])
end
end Go.Proofs.Tryz
