import Derived.Test.YtndoeeampclfaaaGreatDoorCases
import Derived.Test.YtndoeeampclfaaaGreatDoorLex1
import Derived.Deep.RegionHeld3
set_option linter.all false
namespace Go.Proofs.Tryz
set_option maxHeartbeats 16000000
open Go.RowKit
set_option maxRecDepth 10000
def digLen:List UInt8→Nat
 | []=>0
 | c :: l=>if isDigitB c then digLen l+1 else 0
theorem digLen_le:∀ l,digLen l≤l.length
 | []=>Nat.le_refl _
 | c :: l=>by have:=digLen_le l;simp only [digLen,List.length_cons];split <;> omega
def longB (s:ByteArray) (a:Nat):Option (Tok×Nat) :=
 match s.data.toList.drop a with
 | []=>none
 | c :: l =>
  if isLetterB c then (namedB 2 (s.extract a (a+nameLen (c :: l))) a).map fun t=>(t,a+nameLen (c :: l))
  else if c == 36 then (namedB 4 (s.extract (a+1) (a+1+nameLen l)) a).map fun t=>(t,a+1+nameLen l)
  else if isDigitB c then (if digLen (c :: l)≤18 then some (⟨5,s.extract a (a+digLen (c :: l)),a⟩,a+digLen (c :: l)) else none)
  else none
theorem extract_size (s:ByteArray) (a b:Nat) (hs:s.size≤100000):(s.extract a b).size≤100000:=by
 simp [ByteArray.size_extract];omega
theorem bcell {B:Nat}{W w1:World}(hb:Below B W w1):(∀ b o,b < B→w1.cell? ⟨b,o,none⟩=W.cell? ⟨b,o,none⟩)∧(∀ b o,b < B→w1.frozen? ⟨b,o,none⟩=W.frozen? ⟨b,o,none⟩) :=
 ⟨fun b o h=>hb.cell (p:=⟨b,o,none⟩) h,fun b o h=>hb.frozen (p:=⟨b,o,none⟩) h⟩
theorem isLetter_36 (w:World):Calls Tryz.prog 77 #[.int .u8 36] w fun e w'=>e = .returned (.bool false)∧w'=w:=isLetter_any 36 w
theorem nameEnd_at (s:ByteArray) (a:Nat) (i:Int) (w:World) (hs:s.size≤100000) (ha:a≤s.size) (hi:i=a) :
  Calls Tryz.prog 78 #[.string s,.int .i64 i] w fun e w'=>e = .returned (.int .i64 ((a+nameLen (s.data.toList.drop a):Nat):Int))∧w'=w:=by
 subst hi;exact nameEnd_any s a w hs ha
theorem readLong_ok (s:ByteArray) (a b:Nat) (t:Tok) (w:World) (hs:s.size≤100000) (ha:a < s.size) (h:longB s a=some (t,b)) :
  Calls Tryz.prog 36 #[.string s,.int .i64 a] w fun e w'=>e = .returned (.tuple #[.agg #[.int .u8 t.kind,.string t.text,.int .i64 t.pos],.int .i64 b])∧Below w.heap.size w w':=by
 have ha':(a:Int) < (s.size:Int):=by omega
 have hd:=drop_at s a ha
 simp only [longB,hd] at h
 have HD:Hid _:=hd
 clear hd
 split at h
 ·rename_i hl
  simp only [Option.map_eq_some_iff,Prod.mk.injEq] at h
  obtain ⟨t',ht,rfl,rfl⟩:=h
  have hle:=nameLen_le (s[a] :: s.data.toList.drop (a+1))
  rw [← HD.out] at hle ht ⊢
  simp only [List.length_drop,size_list] at hle
  obtain ⟨N,hN⟩:∃ N,nameLen (s.data.toList.drop a)=N:=⟨_,rfl⟩
  rw [hN] at hle ht ⊢
  have HN:Hid _:=hN
  clear hN
  go_enter Tryz.func36,Tryz.ntmps36
  go_wp2_with (first
   | (go_at_call 77;refine (isLetter_any _ _).mono ?_;rintro e w1 ⟨rfl,h1⟩;subst w1;rw [hl])
   | (go_at_call 78;refine (nameEnd_any s a _ hs (by omega)).mono ?_;rintro e w1 ⟨rfl,h1⟩;subst w1;rw [HN.out])
   | (go_at_call 79;refine (named_ok 2 _ _ t' _ (extract_size s _ _ hs) ht).mono ?_;rintro e w1 ⟨rfl,h1⟩;obtain ⟨q1,q2⟩:=bcell h1;have q3:=h1.size;simp at q1 q2 q3))
  exact bodyPost_ret (v:=.tuple #[.agg #[.int .u8 t'.kind,.string t'.text,.int .i64 t'.pos],.int .i64 ((a+N:Nat):Int)]) (by simp [results,Tryz.results36,go_sem,q1]) rfl
   ⟨rfl,(((((Below.refl _ _).alloc (Nat.le_refl _) _).trans (h1.mono (by simp))).setCell (Nat.le_refl _) _).setCell (Nat.le_refl _) _).setCell (Nat.le_refl _) _⟩
 ·rename_i hl
  have hl:isLetterB s[a]=false:=by simpa using hl
  split at h
  ·rename_i hdol
   have hdol:((s[a].toNat:Nat):Int)=36:=by
    have:s[a]=36:=by simpa using hdol
    rw [this];rfl
   simp only [Option.map_eq_some_iff,Prod.mk.injEq] at h
   obtain ⟨t',ht,rfl,rfl⟩:=h
   have hle:=nameLen_le (s.data.toList.drop (a+1))
   simp only [List.length_drop,size_list] at hle
   obtain ⟨N,hN⟩:∃ N,nameLen (s.data.toList.drop (a+1))=N:=⟨_,rfl⟩
   rw [hN] at hle ht ⊢
   have HN:Hid _:=hN
   clear hN
   go_enter Tryz.func36,Tryz.ntmps36
   go_wp2_with (first
    | (go_at_call 77;refine (isLetter_36 _).mono ?_;rintro e w1 ⟨rfl,h1⟩;subst w1)
    | (go_at_call 78;refine (nameEnd_at s (a+1) _ _ hs (by omega) (by omega)).mono ?_;rintro e w1 ⟨rfl,h1⟩;subst w1;rw [HN.out])
    | (go_at_call 79;refine (named_ok 4 _ _ t' _ (extract_size s _ _ hs) ht).mono ?_;rintro e w1 ⟨rfl,h1⟩;obtain ⟨q1,q2⟩:=bcell h1;have q3:=h1.size;simp at q1 q2 q3))
   exact bodyPost_ret (v:=.tuple #[.agg #[.int .u8 t'.kind,.string t'.text,.int .i64 t'.pos],.int .i64 ((a+1+N:Nat):Int)]) (by simp [results,Tryz.results36,go_sem,q1]) rfl
    ⟨rfl,(((((Below.refl _ _).alloc (Nat.le_refl _) _).trans (h1.mono (by simp))).setCell (Nat.le_refl _) _).setCell (Nat.le_refl _) _).setCell (Nat.le_refl _) _⟩
  ·rename_i hdol
   have hdol:¬ ((s[a].toNat:Nat):Int)=36:=by
    intro e
    have:s[a]=36:=by rw [← UInt8.toNat_inj];show s[a].toNat=36;omega
    exact hdol (by simp [this])
   split at h
   ·rename_i hdg
    split at h
    ·rename_i h18
     simp only [Option.some.injEq,Prod.mk.injEq] at h
     obtain ⟨rfl,rfl⟩:=h
     have hle:=digLen_le (s[a] :: s.data.toList.drop (a+1))
     rw [← HD.out] at hle h18 ⊢
     simp only [List.length_drop,size_list] at hle
     obtain ⟨N,hN⟩:∃ N,digLen (s.data.toList.drop a)=N:=⟨_,rfl⟩
     rw [hN] at hle h18 ⊢
     have HN:Hid _:=hN
     clear hN
     go_enter Tryz.func36,Tryz.ntmps36
     go_wp2_with (first
      | (go_at_call 77;refine (isLetter_any _ _).mono ?_;rintro e w1 ⟨rfl,h1⟩;subst w1;rw [hl])
      | (go_at_call 80;refine (isDigit_any _ _).mono ?_;rintro e w1 ⟨rfl,h1⟩;subst w1;rw [hdg]))
     go_loop [9] (fun t=>∃ k:Nat,a≤k∧k≤s.size∧t = .int .i64 k∧digLen (s.data.toList.drop k)+k=a+N) (fun t=>s.size - (intOf t).toNat)
     case atStart=>exact ⟨a,Nat.le_refl _,by omega,rfl,by rw [HN.out];omega⟩
     case round =>
      obtain ⟨k,hk1,hk2,rfl,hk⟩:=hrel
      by_cases hlt:k < s.size
      ·rw [drop_at s k hlt] at hk
       have HK:Hid _:=hk
       clear hk
       by_cases hd2:isDigitB s[k]=true
       ·go_wp2_with (go_at_call 80;refine (isDigit_any _ _).mono ?_;rintro e w1 ⟨rfl,h1⟩;subst w1;rw [hd2])
        go_round
        case rel =>
         refine ⟨k+1,by omega,by omega,by go_num,?_⟩
         have h:=HK.out
         simp only [digLen,hd2,if_true] at h;omega
        case measure=>simp [intOf];omega
       ·have hd2:isDigitB s[k]=false:=by simpa using hd2
        have hkN:k=a+N:=by have h:=HK.out;simp only [digLen,hd2,Bool.false_eq_true,if_false] at h;omega
        clear HK
        subst hkN
        go_wp2_with (go_at_call 80;refine (isDigit_any _ _).mono ?_;rintro e w1 ⟨rfl,h1⟩;subst w1;rw [hd2])
        exact bodyPost_ret (v:=.tuple #[.agg #[.int .u8 5,.string (s.extract a (a+N)),.int .i64 a],.int .i64 ((a+N:Nat):Int)]) (by simp [results,Tryz.results36,go_sem]) rfl ⟨rfl,(Below.refl _ _).alloc (Nat.le_refl _) _⟩
      ·have he:k=s.size:=by omega
       have hdrop:s.data.toList.drop k=[]:=List.drop_eq_nil_of_le (by simp;exact Nat.le_of_eq he.symm)
       rw [hdrop] at hk
       have hkN:k=a+N:=by simp only [digLen] at hk;omega
       clear hk hdrop he
       subst hkN
       have hge:¬ ((a:Int)+(N:Int)) < (s.size:Int):=by omega
       go_wp2_with fail
       exact bodyPost_ret (v:=.tuple #[.agg #[.int .u8 5,.string (s.extract a (a+N)),.int .i64 a],.int .i64 ((a+N:Nat):Int)]) (by simp [results,Tryz.results36,go_sem]) rfl ⟨rfl,(Below.refl _ _).alloc (Nat.le_refl _) _⟩
    ·cases h
   ·cases h
end Go.Proofs.Tryz
namespace Go.Proofs.Tryz
set_option maxHeartbeats 16000000
open Go.RowKit
set_option maxRecDepth 10000
def Fine (cb:Nat) (s:Option Addr) (w:World) (v:Value):Prop:=∀ w',Below w.heap.size w w'→
 Calls Tryz.prog 89 #[.pointer (some ⟨cb,0,none⟩),.pointer s,v] w' fun e w''=>e = .returned (.tuple #[])∧Below w'.heap.size w' w''
theorem Fine.below {cb:Nat}{s:Option Addr}{w w1:World}{v:Value}(h:Fine cb s w v) (k:Below w.heap.size w w1):Fine cb s w1 v:=fun w' h'=>h w' (k.trans (h'.mono k.size))
theorem check_at (cb g o cap:Nat) (s:Option Addr) (vs:List Value) (w:World) (hn:vs.length≤100) (hg:vs≠[]→g < w.heap.size) (hc:∀ i v,vs[i]? = some v→w.cell? ⟨g,o+i,none⟩=some v) (hv:∀ v∈vs,∃ T b,v = .iface T (.pointer (some ⟨b,0,none⟩)))
  (h1:∀ v∈vs,Fine cb s w v) :
  Calls Tryz.prog 40 #[.pointer (some ⟨cb,0,none⟩),.pointer s,.slice (some ⟨g,o,none⟩) vs.length cap] w fun e w'=>e = .returned (.tuple #[])∧Below w.heap.size w w':=by
 obtain ⟨n,hnn⟩:∃ n,vs.length=n:=⟨_,rfl⟩
 rw [hnn] at hn ⊢
 have HN:Hid _:=hnn
 clear hnn
 go_enter Tryz.func40,Tryz.ntmps40
 go_wp2_with fail
 go_loopg [10] (n+1) (fun j t wr=>∃ i:Nat,i+j=n+1∧i≤n∧t = .int .i64 i∧Below w.heap.size w wr)
 case atStart=>exact ⟨0,by omega,by omega,rfl,Below.refl _ _⟩
 case round =>
  obtain ⟨i,hij,hin,rfl,hb⟩:=hrel
  by_cases hi:i < n
  ·have hil:i < vs.length:=by have:=HN.out;omega
   obtain ⟨v,hvi⟩:∃ v,vs[i]? = some v:=⟨_,List.getElem?_eq_getElem hil⟩
   have hmem:v∈vs:=List.mem_of_getElem? hvi
   obtain ⟨T,b,rfl⟩:=hv v hmem
   have hg':g < w.heap.size:=hg (fun e=>by rw [e] at hil;simp at hil)
   have c0:wr.cell? ⟨g,o+i,none⟩=some (.iface T (.pointer (some ⟨b,0,none⟩))):=(hb.cell (p:=⟨g,o+i,none⟩) hg').trans (hc i _ hvi)
   have hi':(i:Int) < (n:Int):=by omega
   have hi0:(0:Int)≤(i:Int):=by omega
   have hf:=h1 _ hmem wr hb
   clear hvi
   go_wp2_with (go_at_call 89;refine hf.mono ?_;rintro e w1 ⟨rfl,k1⟩)
   go_roundg (n+1 - (i+1))
   case measure=>omega
   case rel=>exact ⟨i+1,by omega,by omega,by go_num,hb.trans (k1.mono hb.size)⟩
  ·have hi':¬ (i:Int) < (n:Int):=by omega
   go_wp2_with fail
   go_end0
   exact ⟨rfl,hb⟩
theorem check_ok (cb g cap:Nat) (s:Option Addr) (vs:List Value) (w:World) (hn:vs.length≤100) (hg:vs≠[]→g < w.heap.size) (hc:∀ i v,vs[i]? = some v→w.cell? ⟨g,i,none⟩=some v) (hv:∀ v∈vs,∃ T b,v = .iface T (.pointer (some ⟨b,0,none⟩)))
  (h1:∀ v∈vs,Fine cb s w v) :
  Calls Tryz.prog 40 #[.pointer (some ⟨cb,0,none⟩),.pointer s,.slice (some ⟨g,0,none⟩) vs.length cap] w fun e w'=>e = .returned (.tuple #[])∧Below w.heap.size w w' :=
 check_at cb g 0 cap s vs w hn hg (fun i v h=>by rw [Nat.zero_add];exact hc i v h) hv h1
def givenB (n:ByteArray):Nat→Bool
 | 0=>n.data.toList == [101,109,112,116,121] || n.data.toList == [110,111,116] || n.data.toList == [108,101,110,103,116,104] || n.data.toList == [115,111,114,116]
 | 1=>n.data.toList == [112,97,116,104] || n.data.toList == [103,101,116,112,97,116,104] || n.data.toList == [109,97,112]
 | 2=>n.data.toList == [115,101,116,112,97,116,104]
 | _=>false
theorem isGiven_empty (n:ByteArray) (w:World) (hn:n.data.toList=[101,109,112,116,121]):Calls Tryz.prog 143 #[.string n,.int .i64 0] w fun e w'=>e = .returned (.bool true)∧w'=w:=by
 have hn':n.toList=[101,109,112,116,121]:=by rw [ByteArray.toList_eq];exact hn
 clear hn
 go_enter Tryz.func143,Tryz.ntmps143
 go_wp2
 go_ret
 exact ⟨rfl,rfl⟩
theorem isGiven_not (n:ByteArray) (w:World) (hn:n.data.toList=[110,111,116]):Calls Tryz.prog 143 #[.string n,.int .i64 0] w fun e w'=>e = .returned (.bool true)∧w'=w:=by
 have hn':n.toList=[110,111,116]:=by rw [ByteArray.toList_eq];exact hn
 clear hn
 go_enter Tryz.func143,Tryz.ntmps143
 go_wp2
 go_ret
 exact ⟨rfl,rfl⟩
theorem isGiven_length (n:ByteArray) (w:World) (hn:n.data.toList=[108,101,110,103,116,104]):Calls Tryz.prog 143 #[.string n,.int .i64 0] w fun e w'=>e = .returned (.bool true)∧w'=w:=by
 have hn':n.toList=[108,101,110,103,116,104]:=by rw [ByteArray.toList_eq];exact hn
 clear hn
 go_enter Tryz.func143,Tryz.ntmps143
 go_wp2
 go_ret
 exact ⟨rfl,rfl⟩
theorem isGiven_sort (n:ByteArray) (w:World) (hn:n.data.toList=[115,111,114,116]):Calls Tryz.prog 143 #[.string n,.int .i64 0] w fun e w'=>e = .returned (.bool true)∧w'=w:=by
 have hn':n.toList=[115,111,114,116]:=by rw [ByteArray.toList_eq];exact hn
 clear hn
 go_enter Tryz.func143,Tryz.ntmps143
 go_wp2
 go_ret
 exact ⟨rfl,rfl⟩
theorem isGiven_path (n:ByteArray) (w:World) (hn:n.data.toList=[112,97,116,104]):Calls Tryz.prog 143 #[.string n,.int .i64 1] w fun e w'=>e = .returned (.bool true)∧w'=w:=by
 have hn':n.toList=[112,97,116,104]:=by rw [ByteArray.toList_eq];exact hn
 clear hn
 go_enter Tryz.func143,Tryz.ntmps143
 go_wp2
 go_ret
 exact ⟨rfl,rfl⟩
theorem isGiven_getpath (n:ByteArray) (w:World) (hn:n.data.toList=[103,101,116,112,97,116,104]):Calls Tryz.prog 143 #[.string n,.int .i64 1] w fun e w'=>e = .returned (.bool true)∧w'=w:=by
 have hn':n.toList=[103,101,116,112,97,116,104]:=by rw [ByteArray.toList_eq];exact hn
 clear hn
 go_enter Tryz.func143,Tryz.ntmps143
 go_wp2
 go_ret
 exact ⟨rfl,rfl⟩
theorem isGiven_map (n:ByteArray) (w:World) (hn:n.data.toList=[109,97,112]):Calls Tryz.prog 143 #[.string n,.int .i64 1] w fun e w'=>e = .returned (.bool true)∧w'=w:=by
 have hn':n.toList=[109,97,112]:=by rw [ByteArray.toList_eq];exact hn
 clear hn
 go_enter Tryz.func143,Tryz.ntmps143
 go_wp2
 go_ret
 exact ⟨rfl,rfl⟩
theorem isGiven_setpath (n:ByteArray) (w:World) (hn:n.data.toList=[115,101,116,112,97,116,104]):Calls Tryz.prog 143 #[.string n,.int .i64 2] w fun e w'=>e = .returned (.bool true)∧w'=w:=by
 have hn':n.toList=[115,101,116,112,97,116,104]:=by rw [ByteArray.toList_eq];exact hn
 clear hn
 go_enter Tryz.func143,Tryz.ntmps143
 go_wp2
 go_ret
 exact ⟨rfl,rfl⟩
theorem isGiven_yes (n:ByteArray) (k:Nat) (w:World) (h:givenB n k=true):Calls Tryz.prog 143 #[.string n,.int .i64 (k:Nat)] w fun e w'=>e = .returned (.bool true)∧w'=w:=by
 match k,h with
 | 0,h =>
  simp only [givenB,Bool.or_eq_true,beq_iff_eq] at h
  rcases h with ((h | h) | h) | h
  ·exact isGiven_empty n w h
  ·exact isGiven_not n w h
  ·exact isGiven_length n w h
  ·exact isGiven_sort n w h
 | 1,h =>
  simp only [givenB,Bool.or_eq_true,beq_iff_eq] at h
  rcases h with (h | h) | h
  ·exact isGiven_path n w h
  ·exact isGiven_getpath n w h
  ·exact isGiven_map n w h
 | 2,h =>
  simp only [givenB,beq_iff_eq] at h
  exact isGiven_setpath n w h
 | _+3,h=>cases h
def okT:Env→Tr→Bool
 | _,.done _=>false
 | env,.ask _ kind k=>match kind with
  | 0=>true
  | 1=>true
  | 2=>true
  | 3=>true
  | 4=>hasB env 0 (payOf (k 0)).s 0
  | 5=>okT env (k 1) && okT env (k 2)
  | 6=>okT env (k 1)
  | 7=>okT env (k 1)
  | 8=>hasB env 2 (payOf (k 0)).s 0 || givenB (payOf (k 0)).s 0
  | 9=>(hasB env 2 (payOf (k 0)).s 1 || givenB (payOf (k 0)).s 1) && okT env (k 1)
  | 10=>(hasB env 2 (payOf (k 0)).s 2 || givenB (payOf (k 0)).s 2) && (okT env (k 1) && okT env (k 2))
  | 11=>okT env (k 1) && okT env (k 2)
  | 12=>okT env (k 1) && okT env (k 2)
  | 13=>okT env (k 1) && (okT env (k 2) && okT ((0,(payOf (k 0)).s,0) :: env) (k 3))
  | 14=>okT env (k 1) && (okT env (k 2) && okT env (k 3))
  | 15=>okT ((2,(payOf (k 0)).q,0) :: (2,(payOf (k 0)).s,1) :: env) (k 1) && okT ((2,(payOf (k 0)).s,1) :: env) (k 2)
  | 16=>okT ((2,(payOf (k 0)).r,0) :: (2,(payOf (k 0)).q,0) :: (2,(payOf (k 0)).s,2) :: env) (k 1) && okT ((2,(payOf (k 0)).s,2) :: env) (k 2)
  | 17=>true
  | 18=>okT env (k 1) && okT ((0,(payOf (k 0)).s,0) :: env) (k 2)
  | _=>false
end Go.Proofs.Tryz
namespace Go.Proofs.Tryz
set_option maxHeartbeats 16000000
open Go.RowKit
set_option maxRecDepth 10000
def FineAt (cb:Nat) (s:Option Addr) (w:World) (v:Value):Prop :=
 Calls Tryz.prog 89 #[.pointer (some ⟨cb,0,none⟩),.pointer s,v] w fun e w'=>e = .returned (.tuple #[])∧Below w.heap.size w w'
theorem heap_newd (a:World) (o:Obj):((a.alloc o).drew).heap[a.heap.size]? = some o:=heap_new a o
theorem check1 {cb g:Nat}{s:Option Addr}{x:Value}{w:World}(hg:w.heap[g]? = some (.cells #[x] 37)) (hx:∃ T b,x = .iface T (.pointer (some ⟨b,0,none⟩))) (h1:Fine cb s w x) :
  Calls Tryz.prog 40 #[.pointer (some ⟨cb,0,none⟩),.pointer s,.slice (some ⟨g,0,none⟩) 1 1] w fun e w'=>e = .returned (.tuple #[])∧Below w.heap.size w w':=by
 refine check_ok cb g 1 s [x] w (by simp) (fun _=>?_) (fun i v hv=>?_) (by simpa using hx) (by simpa using h1)
 ·exact (Array.getElem?_eq_some_iff.1 hg).1
 ·simp only [World.cell?,hg];simpa using hv
theorem check2 {cb g:Nat}{s:Option Addr}{x y:Value}{w:World}(hg:w.heap[g]? = some (.cells #[x,y] 37)) (hx:∃ T b,x = .iface T (.pointer (some ⟨b,0,none⟩))) (hy:∃ T b,y = .iface T (.pointer (some ⟨b,0,none⟩))) (h1:Fine cb s w x) (h2:Fine cb s w y) :
  Calls Tryz.prog 40 #[.pointer (some ⟨cb,0,none⟩),.pointer s,.slice (some ⟨g,0,none⟩) 2 2] w fun e w'=>e = .returned (.tuple #[])∧Below w.heap.size w w':=by
 refine check_ok cb g 2 s [x,y] w (by simp) (fun _=>?_) (fun i v hv=>?_) (by simpa using ⟨hx,hy⟩) (by simpa using ⟨h1,h2⟩)
 ·exact (Array.getElem?_eq_some_iff.1 hg).1
 ·simp only [World.cell?,hg];simpa using hv
theorem check3 {cb g:Nat}{s:Option Addr}{x y z:Value}{w:World}(hg:w.heap[g]? = some (.cells #[x,y,z] 37)) (hx:∃ T b,x = .iface T (.pointer (some ⟨b,0,none⟩))) (hy:∃ T b,y = .iface T (.pointer (some ⟨b,0,none⟩))) (hz:∃ T b,z = .iface T (.pointer (some ⟨b,0,none⟩))) (h1:Fine cb s w x) (h2:Fine cb s w y) (h3:Fine cb s w z) :
  Calls Tryz.prog 40 #[.pointer (some ⟨cb,0,none⟩),.pointer s,.slice (some ⟨g,0,none⟩) 3 3] w fun e w'=>e = .returned (.tuple #[])∧Below w.heap.size w w':=by
 refine check_ok cb g 3 s [x,y,z] w (by simp) (fun _=>?_) (fun i v hv=>?_) (by simpa using ⟨hx,hy,hz⟩) (by simpa using ⟨h1,h2,h3⟩)
 ·exact (Array.getElem?_eq_some_iff.1 hg).1
 ·simp only [World.cell?,hg];simpa using hv
theorem Rep.shape {p:Nat→Prop}{w:World}{v:Value}{t:Tr}(h:Rep p w v t):∃ T b,v = .iface T (.pointer (some ⟨b,0,none⟩)):=by
 match t,h with
 | .done _,h=>exact h.elim
 | .ask _ 0 k,h=>obtain ⟨b,e⟩:=h;exact ⟨_,b,e⟩
 | .ask _ 1 k,h=>obtain ⟨b,e,_⟩:=h;exact ⟨_,b,e⟩
 | .ask _ 2 k,h=>obtain ⟨b,e,_⟩:=h;exact ⟨_,b,e⟩
 | .ask _ 3 k,h=>obtain ⟨b,e,_⟩:=h;exact ⟨_,b,e⟩
 | .ask _ 4 k,h=>obtain ⟨b,e,_⟩:=h;exact ⟨_,b,e⟩
 | .ask _ 5 k,h=>obtain ⟨b,_,_,e,_⟩:=h;exact ⟨_,b,e⟩
 | .ask _ 6 k,h=>obtain ⟨b,_,e,_⟩:=h;exact ⟨_,b,e⟩
 | .ask _ 7 k,h=>obtain ⟨b,_,e,_⟩:=h;exact ⟨_,b,e⟩
 | .ask _ 8 k,h=>obtain ⟨b,e,_⟩:=h;exact ⟨_,b,e⟩
 | .ask _ 9 k,h=>obtain ⟨b,_,_,_,_,e,_⟩:=h;exact ⟨_,b,e⟩
 | .ask _ 10 k,h=>obtain ⟨b,_,_,_,_,_,e,_⟩:=h;exact ⟨_,b,e⟩
 | .ask _ 11 k,h=>obtain ⟨b,_,_,e,_⟩:=h;exact ⟨_,b,e⟩
 | .ask _ 12 k,h=>obtain ⟨b,_,_,e,_⟩:=h;exact ⟨_,b,e⟩
 | .ask _ 13 k,h=>obtain ⟨b,_,_,_,e,_⟩:=h;exact ⟨_,b,e⟩
 | .ask _ 14 k,h=>obtain ⟨b,_,_,_,e,_⟩:=h;exact ⟨_,b,e⟩
 | .ask _ 15 k,h=>obtain ⟨b,_,_,_,_,_,e,_⟩:=h;exact ⟨_,b,e⟩
 | .ask _ 16 k,h=>obtain ⟨b,_,_,_,_,_,e,_⟩:=h;exact ⟨_,b,e⟩
 | .ask _ 17 k,h=>obtain ⟨b,e⟩:=h;exact ⟨_,b,e⟩
 | .ask _ 18 k,h=>obtain ⟨b,_,_,e,_⟩:=h;exact ⟨_,b,e⟩
 | .ask _ (_+19) k,h=>exact h.elim
theorem one_leaf {cb:Nat}{s:Option Addr}{w:World}{v:Value}(key:(∃ b,v = .iface 224 (.pointer (some ⟨b,0,none⟩)))∨(∃ b,v = .iface 125 (.pointer (some ⟨b,0,none⟩)))∨∃ b,v = .iface 127 (.pointer (some ⟨b,0,none⟩))):FineAt cb s w v:=by
 unfold FineAt
 have a0:=missVariable;have a1:=missBreak;have a2:=missCall;have a3:=missField;have a4:=missIndex;have a5:=missEach;have a6:=missOptional;have a7:=missCollect;have a8:=missBuild;have a9:=missBinary;have a10:=missMinus;have a11:=missTry;have a12:=missIf;have a13:=missBind;have a14:=missLabel;have a15:=missReduce;have a16:=missForeach;have a17:=missDef
 rcases key with ⟨b,rfl⟩ | ⟨b,rfl⟩ | ⟨b,rfl⟩
 all_goals
  go_enter Tryz.func89,Tryz.ntmps89
  go_wp2
  go_end0
  exact ⟨rfl,Below.refl _ _⟩
theorem one_var {cb b:Nat}{s:Option Addr}{w:World}{n:ByteArray}{env:Env}(c0:w.cell? ⟨b,0,none⟩=some (.string n)) (hs:Scope w (.pointer s) env) (ho:hasB env 0 n 0=true):FineAt cb s w (.iface 227 (.pointer (some ⟨b,0,none⟩))):=by
 unfold FineAt
 have a0:=hitVariable
 go_enter Tryz.func89,Tryz.ntmps89
 go_wp2_with (go_at_call 141;refine (has_any _ env _ _ _ _ hs).mono ?_;rintro e w1 ⟨rfl,h1⟩;subst w1;rw [ho])
 go_end0
 exact ⟨rfl,Below.refl _ _⟩
theorem one_each {cb b T:Nat}{s:Option Addr}{w:World}{x:Value}(hT:T=139∨T=230) (c0:w.cell? ⟨b,0,none⟩=some x) (hx:∃ T b,x = .iface T (.pointer (some ⟨b,0,none⟩))) (h1:Fine cb s w x):FineAt cb s w (.iface T (.pointer (some ⟨b,0,none⟩))):=by
 unfold FineAt
 obtain ⟨T1,b1,rfl⟩:=hx
 have hb:=cell_lt c0
 have a0:=missVariable;have a1:=missBreak;have a2:=missCall;have a3:=missField;have a4:=missIndex;have a5:=missEach;have a6:=missOptional;have a7:=hitEach;have a8:=hitCollect
 rcases hT with rfl | rfl
 all_goals
  go_enter Tryz.func89,Tryz.ntmps89
  go_wp2_with (go_at_call 40;refine (check1 (heap_new _ _) ⟨_,_,rfl⟩ (h1.below (below_alloc _ _))).mono ?_;rintro e w1 ⟨rfl,k1⟩)
  go_end0
  exact ⟨rfl,(below_alloc _ _).trans (k1.mono (by simp))⟩
theorem one_two {cb b T o:Nat}{s:Option Addr}{w:World}{x y:Value}(hT:(T=134∧o=1)∨(T=171∧o=2)∨(T=145∧o=1)) (c0:w.cell? ⟨b,0,none⟩=some x) (c1:w.cell? ⟨b,o,none⟩=some y)
  (hx:∃ T b,x = .iface T (.pointer (some ⟨b,0,none⟩))) (hy:∃ T b,y = .iface T (.pointer (some ⟨b,0,none⟩))) (h1:Fine cb s w x) (h2:Fine cb s w y):FineAt cb s w (.iface T (.pointer (some ⟨b,0,none⟩))):=by
 unfold FineAt
 obtain ⟨T1,b1,rfl⟩:=hx
 obtain ⟨T2,b2,rfl⟩:=hy
 have hb:=cell_lt c0
 have a0:=missVariable;have a1:=missBreak;have a2:=missCall;have a3:=missField;have a4:=missIndex;have a5:=missEach;have a6:=missOptional;have a7:=missCollect;have a8:=missBuild;have a9:=missBinary;have a10:=missMinus;have a11:=hitIndex;have a12:=hitBinary;have a13:=hitTry
 rcases hT with ⟨rfl,rfl⟩ | ⟨rfl,rfl⟩ | ⟨rfl,rfl⟩
 ·go_enter Tryz.func89,Tryz.ntmps89
  go_wp2_with fail
  go_region_held3 (fun w'=>w'.cell? ⟨b,0,none⟩=some (.iface T1 (.pointer (some ⟨b1,0,none⟩)))∧w'.cell? ⟨b,1,none⟩=some (.iface T2 (.pointer (some ⟨b2,0,none⟩)))) (first | exact ⟨e0,e1⟩ | go_keep)
   (first | (go_at_call 40;refine (check2 (heap_newd w _) ⟨_,_,rfl⟩ ⟨_,_,rfl⟩ (h1.below (below_alloc _ _).drew) (h2.below (below_alloc _ _).drew)).mono ?_;rintro e w1 ⟨rfl,k1⟩;have e0:w1.cell? ⟨b,0,none⟩=some (.iface T1 (.pointer (some ⟨b1,0,none⟩))):=(k1.cell (p:=⟨b,0,none⟩) (by simp;omega)).trans (((below_alloc w _).drew.cell (p:=⟨b,0,none⟩) hb).trans c0);have e1:w1.cell? ⟨b,1,none⟩=some (.iface T2 (.pointer (some ⟨b2,0,none⟩))):=(k1.cell (p:=⟨b,1,none⟩) (by simp;omega)).trans (((below_alloc w _).drew.cell (p:=⟨b,1,none⟩) hb).trans c1)))
  go_wp2_with fail
  go_end0
  exact ⟨rfl,(below_alloc _ _).drew.trans (k1.mono (by simp))⟩
 ·go_enter Tryz.func89,Tryz.ntmps89
  go_wp2_with fail
  go_region_held3 (fun w'=>w'.cell? ⟨b,0,none⟩=some (.iface T1 (.pointer (some ⟨b1,0,none⟩)))∧w'.cell? ⟨b,2,none⟩=some (.iface T2 (.pointer (some ⟨b2,0,none⟩)))) (first | exact ⟨e0,e1⟩ | go_keep)
   (first | (go_at_call 40;refine (check2 (heap_newd w _) ⟨_,_,rfl⟩ ⟨_,_,rfl⟩ (h1.below (below_alloc _ _).drew) (h2.below (below_alloc _ _).drew)).mono ?_;rintro e w1 ⟨rfl,k1⟩;have e0:w1.cell? ⟨b,0,none⟩=some (.iface T1 (.pointer (some ⟨b1,0,none⟩))):=(k1.cell (p:=⟨b,0,none⟩) (by simp;omega)).trans (((below_alloc w _).drew.cell (p:=⟨b,0,none⟩) hb).trans c0);have e1:w1.cell? ⟨b,2,none⟩=some (.iface T2 (.pointer (some ⟨b2,0,none⟩))):=(k1.cell (p:=⟨b,2,none⟩) (by simp;omega)).trans (((below_alloc w _).drew.cell (p:=⟨b,2,none⟩) hb).trans c1)))
  go_wp2_with fail
  go_end0
  exact ⟨rfl,(below_alloc _ _).drew.trans (k1.mono (by simp))⟩
 ·go_enter Tryz.func89,Tryz.ntmps89
  go_wp2_with fail
  go_region_held3 (fun w'=>w'.cell? ⟨b,0,none⟩=some (.iface T1 (.pointer (some ⟨b1,0,none⟩)))∧w'.cell? ⟨b,1,none⟩=some (.iface T2 (.pointer (some ⟨b2,0,none⟩)))) (first | exact ⟨e0,e1⟩ | go_keep)
   (first | (go_at_call 40;refine (check2 (heap_newd w _) ⟨_,_,rfl⟩ ⟨_,_,rfl⟩ (h1.below (below_alloc _ _).drew) (h2.below (below_alloc _ _).drew)).mono ?_;rintro e w1 ⟨rfl,k1⟩;have e0:w1.cell? ⟨b,0,none⟩=some (.iface T1 (.pointer (some ⟨b1,0,none⟩))):=(k1.cell (p:=⟨b,0,none⟩) (by simp;omega)).trans (((below_alloc w _).drew.cell (p:=⟨b,0,none⟩) hb).trans c0);have e1:w1.cell? ⟨b,1,none⟩=some (.iface T2 (.pointer (some ⟨b2,0,none⟩))):=(k1.cell (p:=⟨b,1,none⟩) (by simp;omega)).trans (((below_alloc w _).drew.cell (p:=⟨b,1,none⟩) hb).trans c1)))
  go_wp2_with fail
  go_end0
  exact ⟨rfl,(below_alloc _ _).drew.trans (k1.mono (by simp))⟩
end Go.Proofs.Tryz
namespace Go.Proofs.Tryz
set_option maxHeartbeats 16000000
open Go.RowKit
set_option maxRecDepth 10000
theorem one_ite {cb b:Nat}{s:Option Addr}{w:World}{x y z:Value}(c0:w.cell? ⟨b,0,none⟩=some x) (c1:w.cell? ⟨b,1,none⟩=some y) (c2:w.cell? ⟨b,2,none⟩=some z)
  (hx:∃ T b,x = .iface T (.pointer (some ⟨b,0,none⟩))) (hy:∃ T b,y = .iface T (.pointer (some ⟨b,0,none⟩))) (hz:∃ T b,z = .iface T (.pointer (some ⟨b,0,none⟩))) (h1:Fine cb s w x) (h2:Fine cb s w y) (h3:Fine cb s w z):FineAt cb s w (.iface 158 (.pointer (some ⟨b,0,none⟩))):=by
 unfold FineAt
 obtain ⟨T1,b1,rfl⟩:=hx
 obtain ⟨T2,b2,rfl⟩:=hy
 obtain ⟨T3,b3,rfl⟩:=hz
 have hb:=cell_lt c0
 have a0:=missVariable;have a1:=missBreak;have a2:=missCall;have a3:=missField;have a4:=missIndex;have a5:=missEach;have a6:=missOptional;have a7:=missCollect;have a8:=missBuild;have a9:=missBinary;have a10:=missMinus;have a11:=missTry;have a12:=hitIf
 go_enter Tryz.func89,Tryz.ntmps89
 go_wp2_with fail
 go_region_held3 (fun w'=>w'.cell? ⟨b,0,none⟩=some (.iface T1 (.pointer (some ⟨b1,0,none⟩)))∧w'.cell? ⟨b,1,none⟩=some (.iface T2 (.pointer (some ⟨b2,0,none⟩)))∧w'.cell? ⟨b,2,none⟩=some (.iface T3 (.pointer (some ⟨b3,0,none⟩)))) (first | exact ⟨e0,e1,e2⟩ | go_keep)
  (first | (go_at_call 40;refine (check3 (heap_newd w _) ⟨_,_,rfl⟩ ⟨_,_,rfl⟩ ⟨_,_,rfl⟩ (h1.below (below_alloc _ _).drew) (h2.below (below_alloc _ _).drew) (h3.below (below_alloc _ _).drew)).mono ?_;rintro e w1 ⟨rfl,k1⟩;have e0:w1.cell? ⟨b,0,none⟩=some (.iface T1 (.pointer (some ⟨b1,0,none⟩))):=(k1.cell (p:=⟨b,0,none⟩) (by simp;omega)).trans (((below_alloc w _).drew.cell (p:=⟨b,0,none⟩) hb).trans c0);have e1:w1.cell? ⟨b,1,none⟩=some (.iface T2 (.pointer (some ⟨b2,0,none⟩))):=(k1.cell (p:=⟨b,1,none⟩) (by simp;omega)).trans (((below_alloc w _).drew.cell (p:=⟨b,1,none⟩) hb).trans c1);have e2:w1.cell? ⟨b,2,none⟩=some (.iface T3 (.pointer (some ⟨b3,0,none⟩))):=(k1.cell (p:=⟨b,2,none⟩) (by simp;omega)).trans (((below_alloc w _).drew.cell (p:=⟨b,2,none⟩) hb).trans c2)))
 go_wp2_with fail
 go_end0
 exact ⟨rfl,(below_alloc _ _).drew.trans (k1.mono (by simp))⟩
theorem below_drewN (w:World) (m:Nat):Below w.heap.size w (w.drewN m):=⟨rfl,rfl,rfl,Nat.le_refl _,fun _ _=>rfl⟩
theorem Scope.drewN {w:World}{v:Value}{env:Env}(h:Scope w v env) (m:Nat):Scope (w.drewN m) v env:=h.below (below_drewN w m)
theorem has_yes (v:Value) (env:Env) (u:Int) (n:ByteArray) (k:Int) (w:World) (h:Scope w v env) (ho:hasB env u n k=true) :
  Calls Tryz.prog 141 #[v,.int .u8 u,.string n,.int .i64 k] w fun e w'=>e = .returned (.bool true)∧w'=w:=by
 have h1:=has_any v env u n k w h
 rw [ho] at h1;exact h1
theorem one_callN {cb b:Nat}{s:Option Addr}{w:World}{n:ByteArray}{env:Env}{a:Option Addr}{k cap:Nat}(c0:w.cell? ⟨b,0,none⟩=some (.string n)) (c1:w.cell? ⟨b,1,none⟩=some (.slice a k cap)) (hk:k≤2) (hs:Scope w (.pointer s) env) (ho:hasB env 2 n k=true)
  (hc:∀ w',Below w.heap.size w w'→Calls Tryz.prog 40 #[.pointer (some ⟨cb,0,none⟩),.pointer s,.slice a k cap] w' fun e w''=>e = .returned (.tuple #[])∧Below w'.heap.size w' w'') :
  FineAt cb s w (.iface 169 (.pointer (some ⟨b,0,none⟩))):=by
 unfold FineAt
 have hb:=cell_lt c0
 have a0:=missVariable;have a1:=missBreak;have a2:=hitCall
 go_enter Tryz.func89,Tryz.ntmps89
 go_wp2_with fail
 go_quiet ((go_at_call 141;exact Calls.quiet_of_same (has_yes _ env _ _ _ _ (hs.drewN _) ho)))
 go_wp2_with (go_at_call 40;refine (hc _ (below_drewN _ _)).mono ?_;rintro e w1 ⟨rfl,k1⟩)
 go_end0
 exact ⟨rfl,(below_drewN _ _).trans k1⟩
end Go.Proofs.Tryz
