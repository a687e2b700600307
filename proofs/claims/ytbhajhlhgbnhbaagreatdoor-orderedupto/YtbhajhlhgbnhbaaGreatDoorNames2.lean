import Derived.Test.YtbhajhlhgbnhbaaGreatDoorFs3
import Derived.Test.YtbhajhlhgbnhbaaGreatDoorStr5
import Derived.Deep.LoopGhost
import Derived.Deep.QuietTactic
import Derived.BigQuiet
import Derived.Deep.RegionHeld3
set_option linter.all false
namespace Go.Proofs.Tryz
set_option maxHeartbeats 16000000
open Go.RowKit
set_option maxRecDepth 10000
abbrev Env:=List (Int×ByteArray×Int)
def Scope (w:World):Value→Env→Prop
 | v,[]=>v = .pointer none
 | v,(u,n,k) :: env=>∃ b a,v = .pointer (some ⟨b,0,none⟩)∧w.cell? ⟨b,0,none⟩=some (.int .u8 u)∧w.cell? ⟨b,1,none⟩=some (.string n)∧w.cell? ⟨b,2,none⟩=some (.int .i64 k)∧w.cell? ⟨b,3,none⟩=some a∧Scope w a env
theorem Scope.below {w w':World} (k:Below w.heap.size w w'):∀ {v:Value}{env:Env},Scope w v env→Scope w' v env
 | _,[],h=>h
 | _,(_,_,_) :: _,⟨b,a,e,h0,h1,h2,h3,h4⟩=>⟨b,a,e,(k.cell (p:=⟨b,0,none⟩) (cell_lt h0)).trans h0,(k.cell (p:=⟨b,1,none⟩) (cell_lt h0)).trans h1,(k.cell (p:=⟨b,2,none⟩) (cell_lt h0)).trans h2,(k.cell (p:=⟨b,3,none⟩) (cell_lt h0)).trans h3,Scope.below k h4⟩
theorem Scope.ptr {w:World}{v:Value}{env:Env} (h:Scope w v env):∃ p,v = .pointer p:=by
 match env,h with
 | [],h=>exact ⟨none,h⟩
 | (_,_,_) :: _,⟨b,a,e,_⟩=>exact ⟨_,e⟩
def hasE (u:Int) (n:ByteArray) (k:Int) (e:Int×ByteArray×Int):Bool:=e.1 == u && (e.2.1.data.toList == n.data.toList && e.2.2 == k)
def hasB (env:Env) (u:Int) (n:ByteArray) (k:Int):Bool:=env.any (hasE u n k)
theorem has_any (v:Value) (env:Env) (u:Int) (n:ByteArray) (k:Int) (w:World) (h:Scope w v env) :
  Calls Tryz.prog 141 #[v,.int .u8 u,.string n,.int .i64 k] w fun e w'=>e = .returned (.bool (hasB env u n k))∧w'=w:=by
 obtain ⟨R,hR⟩:∃ R,hasB env u n k=R:=⟨_,rfl⟩
 rw [hR]
 go_enter Tryz.func141,Tryz.ntmps141
 go_wp2_with fail
 go_loopg [0] env.length (fun j t wr=>wr=w∧∃ env':Env,env'.length=j∧Scope w t env'∧hasB env' u n k=R)
 case atStart=>exact ⟨rfl,env,rfl,h,hR⟩
 case round =>
  clear hR
  obtain ⟨rfl,env',hl,hsc,hR⟩:=hrel
  match env',hl,hsc,hR with
  | [],hl,hsc,hR =>
   cases hsc
   simp [hasB] at hR
   subst hR
   go_wp2_with fail
   go_ret
   exact ⟨rfl,rfl⟩
  | (u',n',k') :: env',hl,⟨b,a,e,h0,h1,h2,h3,h4⟩,hR =>
   subst e
   simp only [hasB,List.any_cons] at hR
   obtain ⟨q,rfl⟩:=h4.ptr
   by_cases hu:u'=u
   ·subst hu
    by_cases hn:n'.toList=n.toList
    ·by_cases hk:k'=k
     ·subst hk
      have:R=true:=by rw [← hR];simp [hasE,← ByteArray.toList_eq,hn]
      subst this
      go_wp2_with fail
      go_ret
      exact ⟨rfl,rfl⟩
     ·have hk':(k' == k)=false:=by simpa using hk
      have hR':hasB env' u' n k=R:=by rw [← hR];simp [hasE,hk',hasB]
      go_wp2_with fail
      go_roundg env'.length
      case measure=>simp at hl;omega
      case rel=>exact ⟨rfl,env',rfl,h4,hR'⟩
    ·have hn':(n'.toList == n.toList)=false:=by simpa using hn
     have hR':hasB env' u' n k=R:=by rw [← hR];simp [hasE,← ByteArray.toList_eq,hn',hasB]
     go_wp2_with fail
     go_roundg env'.length
     case measure=>simp at hl;omega
     case rel=>exact ⟨rfl,env',rfl,h4,hR'⟩
   ·have hu':(u' == u)=false:=by simpa using hu
    have hR':hasB env' u n k=R:=by rw [← hR];simp [hasE,hu',hasB]
    go_wp2_with fail
    go_roundg env'.length
    case measure=>simp at hl;omega
    case rel=>exact ⟨rfl,env',rfl,h4,hR'⟩
theorem with_any (v:Value) (env:Env) (u:Int) (n:ByteArray) (k:Int) (w:World) (h:Scope w v env) :
  Calls Tryz.prog 199 #[v,.int .u8 u,.string n,.int .i64 k] w fun e w'=>∃ b,e = .returned (.pointer (some ⟨b,0,none⟩))∧Scope w' (.pointer (some ⟨b,0,none⟩)) ((u,n,k) :: env)∧Below w.heap.size w w':=by
 obtain ⟨q,rfl⟩:=h.ptr
 go_enter Tryz.func199,Tryz.ntmps199
 go_wp2_with fail
 go_ret
 exact ⟨_,rfl,⟨_,_,rfl,box_cell _ _ _ _,box_cell _ _ _ _,box_cell _ _ _ _,box_cell _ _ _ _,h.below (below_alloc _ _)⟩,below_alloc _ _⟩
def Fine (cb:Nat) (s:Option Addr) (w:World) (v:Value):Prop:=∀ w',Below w.heap.size w w'→
 Calls Tryz.prog 89 #[.pointer (some ⟨cb,0,none⟩),.pointer s,v] w' fun e w''=>e = .returned (.tuple #[])∧Below w'.heap.size w' w''
theorem Fine.below {cb:Nat}{s:Option Addr}{w w1:World}{v:Value} (h:Fine cb s w v) (k:Below w.heap.size w w1):Fine cb s w1 v:=fun w' h'=>h w' (k.trans (h'.mono k.size))
theorem check_at (cb g o cap:Nat) (s:Option Addr) (vs:List Value) (w:World) (hn:vs.length≤100) (hg:vs≠[]→g < w.heap.size) (hc:∀ i v,vs[i]? = some v→w.cell? ⟨g,o+i,none⟩=some v) (hv:∀ v∈vs,∃ T b,v = .iface T (.pointer (some ⟨b,0,none⟩)))
  (h1:∀ v∈vs,Fine cb s w v) :
  Calls Tryz.prog 40 #[.pointer (some ⟨cb,0,none⟩),.pointer s,.slice (some ⟨g,o,none⟩) vs.length cap] w fun e w'=>e = .returned (.tuple #[])∧Below w.heap.size w w':=by
 obtain ⟨n,hnn⟩:∃ n,vs.length=n:=⟨_,rfl⟩
 rw [hnn] at hn ⊢
 have HN:Hid _:=hnn
 clear hnn
 go_enter Tryz.func40,Tryz.ntmps40
 go_wp2_with fail
 go_loopg [10] (n+1) (fun j t wr=>∃ i:Nat,i+j=n+1∧i≤n∧t = .int .i64 i∧Below w.heap.size w wr)
 case atStart=>exact ⟨0,by omega,by omega,rfl,Below.refl _ _⟩
 case round =>
  obtain ⟨i,hij,hin,rfl,hb⟩:=hrel
  by_cases hi:i < n
  ·have hil:i < vs.length:=by have:=HN.out;omega
   obtain ⟨v,hvi⟩:∃ v,vs[i]? = some v:=⟨_,List.getElem?_eq_getElem hil⟩
   have hmem:v∈vs:=List.mem_of_getElem? hvi
   obtain ⟨T,b,rfl⟩:=hv v hmem
   have hg':g < w.heap.size:=hg (fun e=>by rw [e] at hil;simp at hil)
   have c0:wr.cell? ⟨g,o+i,none⟩=some (.iface T (.pointer (some ⟨b,0,none⟩))):=(hb.cell (p:=⟨g,o+i,none⟩) hg').trans (hc i _ hvi)
   have hi':(i:Int) < (n:Int):=by omega
   have hi0:(0:Int)≤(i:Int):=by omega
   have hf:=h1 _ hmem wr hb
   clear hvi
   go_wp2_with (go_at_call 89;refine hf.mono ?_;rintro e w1 ⟨rfl,k1⟩)
   go_roundg (n+1 - (i+1))
   case measure=>omega
   case rel=>exact ⟨i+1,by omega,by omega,by go_num,hb.trans (k1.mono hb.size)⟩
  ·have hi':¬ (i:Int) < (n:Int):=by omega
   go_wp2_with fail
   go_end0
   exact ⟨rfl,hb⟩
theorem check_ok (cb g cap:Nat) (s:Option Addr) (vs:List Value) (w:World) (hn:vs.length≤100) (hg:vs≠[]→g < w.heap.size) (hc:∀ i v,vs[i]? = some v→w.cell? ⟨g,i,none⟩=some v) (hv:∀ v∈vs,∃ T b,v = .iface T (.pointer (some ⟨b,0,none⟩)))
  (h1:∀ v∈vs,Fine cb s w v) :
  Calls Tryz.prog 40 #[.pointer (some ⟨cb,0,none⟩),.pointer s,.slice (some ⟨g,0,none⟩) vs.length cap] w fun e w'=>e = .returned (.tuple #[])∧Below w.heap.size w w' :=
 check_at cb g 0 cap s vs w hn hg (fun i v h=>by rw [Nat.zero_add];exact hc i v h) hv h1
def givenB (n:ByteArray):Nat→Bool
 | 0=>n.data.toList == [101,109,112,116,121] || n.data.toList == [110,111,116] || n.data.toList == [108,101,110,103,116,104] || n.data.toList == [115,111,114,116] || n.data.toList == [116,121,112,101] || n.data.toList == [107,101,121,115] || n.data.toList == [116,111,106,115,111,110] || n.data.toList == [102,114,111,109,106,115,111,110] || n.data.toList == [114,101,118,101,114,115,101] || n.data.toList == [101,120,112,108,111,100,101] || n.data.toList == [105,109,112,108,111,100,101]
 | 1=>n.data.toList == [112,97,116,104] || n.data.toList == [103,101,116,112,97,116,104] || n.data.toList == [109,97,112] || n.data.toList == [115,112,108,105,116] || n.data.toList == [106,111,105,110] || n.data.toList == [115,101,108,101,99,116]
 | 2=>n.data.toList == [115,101,116,112,97,116,104] || n.data.toList == [114,97,110,103,101]
 | _=>false
theorem isGiven_empty (n:ByteArray) (w:World) (hn:n.data.toList=[101,109,112,116,121]):Calls Tryz.prog 143 #[.string n,.int .i64 0] w fun e w'=>e = .returned (.bool true)∧w'=w:=by
 have hn':n.toList=[101,109,112,116,121]:=by rw [ByteArray.toList_eq];exact hn
 clear hn
 go_enter Tryz.func143,Tryz.ntmps143
 go_wp2
 go_ret
 exact ⟨rfl,rfl⟩
theorem isGiven_not (n:ByteArray) (w:World) (hn:n.data.toList=[110,111,116]):Calls Tryz.prog 143 #[.string n,.int .i64 0] w fun e w'=>e = .returned (.bool true)∧w'=w:=by
 have hn':n.toList=[110,111,116]:=by rw [ByteArray.toList_eq];exact hn
 clear hn
 go_enter Tryz.func143,Tryz.ntmps143
 go_wp2
 go_ret
 exact ⟨rfl,rfl⟩
theorem isGiven_length (n:ByteArray) (w:World) (hn:n.data.toList=[108,101,110,103,116,104]):Calls Tryz.prog 143 #[.string n,.int .i64 0] w fun e w'=>e = .returned (.bool true)∧w'=w:=by
 have hn':n.toList=[108,101,110,103,116,104]:=by rw [ByteArray.toList_eq];exact hn
 clear hn
 go_enter Tryz.func143,Tryz.ntmps143
 go_wp2
 go_ret
 exact ⟨rfl,rfl⟩
theorem isGiven_sort (n:ByteArray) (w:World) (hn:n.data.toList=[115,111,114,116]):Calls Tryz.prog 143 #[.string n,.int .i64 0] w fun e w'=>e = .returned (.bool true)∧w'=w:=by
 have hn':n.toList=[115,111,114,116]:=by rw [ByteArray.toList_eq];exact hn
 clear hn
 go_enter Tryz.func143,Tryz.ntmps143
 go_wp2
 go_ret
 exact ⟨rfl,rfl⟩
theorem isGiven_type (n:ByteArray) (w:World) (hn:n.data.toList=[116,121,112,101]):Calls Tryz.prog 143 #[.string n,.int .i64 0] w fun e w'=>e = .returned (.bool true)∧w'=w:=by
 have hn':n.toList=[116,121,112,101]:=by rw [ByteArray.toList_eq];exact hn
 clear hn
 go_enter Tryz.func143,Tryz.ntmps143
 go_wp2
 go_ret
 exact ⟨rfl,rfl⟩
theorem isGiven_keys (n:ByteArray) (w:World) (hn:n.data.toList=[107,101,121,115]):Calls Tryz.prog 143 #[.string n,.int .i64 0] w fun e w'=>e = .returned (.bool true)∧w'=w:=by
 have hn':n.toList=[107,101,121,115]:=by rw [ByteArray.toList_eq];exact hn
 clear hn
 go_enter Tryz.func143,Tryz.ntmps143
 go_wp2
 go_ret
 exact ⟨rfl,rfl⟩
theorem isGiven_tojson (n:ByteArray) (w:World) (hn:n.data.toList=[116,111,106,115,111,110]):Calls Tryz.prog 143 #[.string n,.int .i64 0] w fun e w'=>e = .returned (.bool true)∧w'=w:=by
 have hn':n.toList=[116,111,106,115,111,110]:=by rw [ByteArray.toList_eq];exact hn
 clear hn
 go_enter Tryz.func143,Tryz.ntmps143
 go_wp2
 go_ret
 exact ⟨rfl,rfl⟩
theorem isGiven_fromjson (n:ByteArray) (w:World) (hn:n.data.toList=[102,114,111,109,106,115,111,110]):Calls Tryz.prog 143 #[.string n,.int .i64 0] w fun e w'=>e = .returned (.bool true)∧w'=w:=by
 have hn':n.toList=[102,114,111,109,106,115,111,110]:=by rw [ByteArray.toList_eq];exact hn
 clear hn
 go_enter Tryz.func143,Tryz.ntmps143
 go_wp2
 go_ret
 exact ⟨rfl,rfl⟩
theorem isGiven_reverse (n:ByteArray) (w:World) (hn:n.data.toList=[114,101,118,101,114,115,101]):Calls Tryz.prog 143 #[.string n,.int .i64 0] w fun e w'=>e = .returned (.bool true)∧w'=w:=by
 have hn':n.toList=[114,101,118,101,114,115,101]:=by rw [ByteArray.toList_eq];exact hn
 clear hn
 go_enter Tryz.func143,Tryz.ntmps143
 go_wp2
 go_ret
 exact ⟨rfl,rfl⟩
theorem isGiven_explode (n:ByteArray) (w:World) (hn:n.data.toList=[101,120,112,108,111,100,101]):Calls Tryz.prog 143 #[.string n,.int .i64 0] w fun e w'=>e = .returned (.bool true)∧w'=w:=by
 have hn':n.toList=[101,120,112,108,111,100,101]:=by rw [ByteArray.toList_eq];exact hn
 clear hn
 go_enter Tryz.func143,Tryz.ntmps143
 go_wp2
 go_ret
 exact ⟨rfl,rfl⟩
theorem isGiven_implode (n:ByteArray) (w:World) (hn:n.data.toList=[105,109,112,108,111,100,101]):Calls Tryz.prog 143 #[.string n,.int .i64 0] w fun e w'=>e = .returned (.bool true)∧w'=w:=by
 have hn':n.toList=[105,109,112,108,111,100,101]:=by rw [ByteArray.toList_eq];exact hn
 clear hn
 go_enter Tryz.func143,Tryz.ntmps143
 go_wp2
 go_ret
 exact ⟨rfl,rfl⟩
theorem isGiven_path (n:ByteArray) (w:World) (hn:n.data.toList=[112,97,116,104]):Calls Tryz.prog 143 #[.string n,.int .i64 1] w fun e w'=>e = .returned (.bool true)∧w'=w:=by
 have hn':n.toList=[112,97,116,104]:=by rw [ByteArray.toList_eq];exact hn
 clear hn
 go_enter Tryz.func143,Tryz.ntmps143
 go_wp2
 go_ret
 exact ⟨rfl,rfl⟩
theorem isGiven_getpath (n:ByteArray) (w:World) (hn:n.data.toList=[103,101,116,112,97,116,104]):Calls Tryz.prog 143 #[.string n,.int .i64 1] w fun e w'=>e = .returned (.bool true)∧w'=w:=by
 have hn':n.toList=[103,101,116,112,97,116,104]:=by rw [ByteArray.toList_eq];exact hn
 clear hn
 go_enter Tryz.func143,Tryz.ntmps143
 go_wp2
 go_ret
 exact ⟨rfl,rfl⟩
theorem isGiven_map (n:ByteArray) (w:World) (hn:n.data.toList=[109,97,112]):Calls Tryz.prog 143 #[.string n,.int .i64 1] w fun e w'=>e = .returned (.bool true)∧w'=w:=by
 have hn':n.toList=[109,97,112]:=by rw [ByteArray.toList_eq];exact hn
 clear hn
 go_enter Tryz.func143,Tryz.ntmps143
 go_wp2
 go_ret
 exact ⟨rfl,rfl⟩
theorem isGiven_split (n:ByteArray) (w:World) (hn:n.data.toList=[115,112,108,105,116]):Calls Tryz.prog 143 #[.string n,.int .i64 1] w fun e w'=>e = .returned (.bool true)∧w'=w:=by
 have hn':n.toList=[115,112,108,105,116]:=by rw [ByteArray.toList_eq];exact hn
 clear hn
 go_enter Tryz.func143,Tryz.ntmps143
 go_wp2
 go_ret
 exact ⟨rfl,rfl⟩
theorem isGiven_join (n:ByteArray) (w:World) (hn:n.data.toList=[106,111,105,110]):Calls Tryz.prog 143 #[.string n,.int .i64 1] w fun e w'=>e = .returned (.bool true)∧w'=w:=by
 have hn':n.toList=[106,111,105,110]:=by rw [ByteArray.toList_eq];exact hn
 clear hn
 go_enter Tryz.func143,Tryz.ntmps143
 go_wp2
 go_ret
 exact ⟨rfl,rfl⟩
theorem isGiven_select (n:ByteArray) (w:World) (hn:n.data.toList=[115,101,108,101,99,116]):Calls Tryz.prog 143 #[.string n,.int .i64 1] w fun e w'=>e = .returned (.bool true)∧w'=w:=by
 have hn':n.toList=[115,101,108,101,99,116]:=by rw [ByteArray.toList_eq];exact hn
 clear hn
 go_enter Tryz.func143,Tryz.ntmps143
 go_wp2
 go_ret
 exact ⟨rfl,rfl⟩
theorem isGiven_setpath (n:ByteArray) (w:World) (hn:n.data.toList=[115,101,116,112,97,116,104]):Calls Tryz.prog 143 #[.string n,.int .i64 2] w fun e w'=>e = .returned (.bool true)∧w'=w:=by
 have hn':n.toList=[115,101,116,112,97,116,104]:=by rw [ByteArray.toList_eq];exact hn
 clear hn
 go_enter Tryz.func143,Tryz.ntmps143
 go_wp2
 go_ret
 exact ⟨rfl,rfl⟩
theorem isGiven_range (n:ByteArray) (w:World) (hn:n.data.toList=[114,97,110,103,101]):Calls Tryz.prog 143 #[.string n,.int .i64 2] w fun e w'=>e = .returned (.bool true)∧w'=w:=by
 have hn':n.toList=[114,97,110,103,101]:=by rw [ByteArray.toList_eq];exact hn
 clear hn
 go_enter Tryz.func143,Tryz.ntmps143
 go_wp2
 go_ret
 exact ⟨rfl,rfl⟩
theorem isGiven_yes (n:ByteArray) (k:Nat) (w:World) (h:givenB n k=true):Calls Tryz.prog 143 #[.string n,.int .i64 (k:Nat)] w fun e w'=>e = .returned (.bool true)∧w'=w:=by
 match k,h with
 | 0,h =>
  simp only [givenB,Bool.or_eq_true,beq_iff_eq] at h
  rcases h with (((((((((h | h) | h) | h) | h) | h) | h) | h) | h) | h) | h
  ·exact isGiven_empty n w h
  ·exact isGiven_not n w h
  ·exact isGiven_length n w h
  ·exact isGiven_sort n w h
  ·exact isGiven_type n w h
  ·exact isGiven_keys n w h
  ·exact isGiven_tojson n w h
  ·exact isGiven_fromjson n w h
  ·exact isGiven_reverse n w h
  ·exact isGiven_explode n w h
  ·exact isGiven_implode n w h
 | 1,h =>
  simp only [givenB,Bool.or_eq_true,beq_iff_eq] at h
  rcases h with ((((h | h) | h) | h) | h) | h
  ·exact isGiven_path n w h
  ·exact isGiven_getpath n w h
  ·exact isGiven_map n w h
  ·exact isGiven_split n w h
  ·exact isGiven_join n w h
  ·exact isGiven_select n w h
 | 2,h =>
  simp only [givenB,Bool.or_eq_true,beq_iff_eq] at h
  rcases h with h | h
  ·exact isGiven_setpath n w h
  ·exact isGiven_range n w h
 | _+3,h=>cases h
def okT:Env→Tr→Bool
 | _,.done _=>false
 | env,.ask _ kind k=>match kind with
  | 0=>true
  | 1=>true
  | 2=>true
  | 3=>true
  | 4=>hasB env 0 (payOf (k 0)).s 0
  | 5=>okT env (k 1) && okT env (k 2)
  | 6=>okT env (k 1)
  | 7=>okT env (k 1)
  | 8=>hasB env 2 (payOf (k 0)).s 0 || givenB (payOf (k 0)).s 0
  | 9=>(hasB env 2 (payOf (k 0)).s 1 || givenB (payOf (k 0)).s 1) && okT env (k 1)
  | 10=>(hasB env 2 (payOf (k 0)).s 2 || givenB (payOf (k 0)).s 2) && (okT env (k 1) && okT env (k 2))
  | 11=>okT env (k 1) && okT env (k 2)
  | 12=>okT env (k 1) && okT env (k 2)
  | 13=>okT env (k 1) && (okT env (k 2) && okT ((0,(payOf (k 0)).s,0) :: env) (k 3))
  | 14=>okT env (k 1) && (okT env (k 2) && okT env (k 3))
  | 15=>okT ((2,(payOf (k 0)).q,0) :: (2,(payOf (k 0)).s,1) :: env) (k 1) && okT ((2,(payOf (k 0)).s,1) :: env) (k 2)
  | 16=>okT ((2,(payOf (k 0)).r,0) :: (2,(payOf (k 0)).q,0) :: (2,(payOf (k 0)).s,2) :: env) (k 1) && okT ((2,(payOf (k 0)).s,2) :: env) (k 2)
  | 17=>true
  | 18=>okT env (k 1) && okT ((0,(payOf (k 0)).s,0) :: env) (k 2)
  | 19=>true
  | 20=>true
  | _=>false
def FineAt (cb:Nat) (s:Option Addr) (w:World) (v:Value):Prop :=
 Calls Tryz.prog 89 #[.pointer (some ⟨cb,0,none⟩),.pointer s,v] w fun e w'=>e = .returned (.tuple #[])∧Below w.heap.size w w'
theorem heap_newd (a:World) (o:Obj):((a.alloc o).drew).heap[a.heap.size]? = some o:=heap_new a o
theorem check1 {cb g:Nat}{s:Option Addr}{x:Value}{w:World} (hg:w.heap[g]? = some (.cells #[x] 37)) (hx:∃ T b,x = .iface T (.pointer (some ⟨b,0,none⟩))) (h1:Fine cb s w x) :
  Calls Tryz.prog 40 #[.pointer (some ⟨cb,0,none⟩),.pointer s,.slice (some ⟨g,0,none⟩) 1 1] w fun e w'=>e = .returned (.tuple #[])∧Below w.heap.size w w':=by
 refine check_ok cb g 1 s [x] w (by simp) (fun _=>?_) (fun i v hv=>?_) (by simpa using hx) (by simpa using h1)
 ·exact (Array.getElem?_eq_some_iff.1 hg).1
 ·simp only [World.cell?,hg];simpa using hv
theorem check2 {cb g:Nat}{s:Option Addr}{x y:Value}{w:World} (hg:w.heap[g]? = some (.cells #[x,y] 37)) (hx:∃ T b,x = .iface T (.pointer (some ⟨b,0,none⟩))) (hy:∃ T b,y = .iface T (.pointer (some ⟨b,0,none⟩))) (h1:Fine cb s w x) (h2:Fine cb s w y) :
  Calls Tryz.prog 40 #[.pointer (some ⟨cb,0,none⟩),.pointer s,.slice (some ⟨g,0,none⟩) 2 2] w fun e w'=>e = .returned (.tuple #[])∧Below w.heap.size w w':=by
 refine check_ok cb g 2 s [x,y] w (by simp) (fun _=>?_) (fun i v hv=>?_) (by simpa using ⟨hx,hy⟩) (by simpa using ⟨h1,h2⟩)
 ·exact (Array.getElem?_eq_some_iff.1 hg).1
 ·simp only [World.cell?,hg];simpa using hv
theorem check3 {cb g:Nat}{s:Option Addr}{x y z:Value}{w:World} (hg:w.heap[g]? = some (.cells #[x,y,z] 37)) (hx:∃ T b,x = .iface T (.pointer (some ⟨b,0,none⟩))) (hy:∃ T b,y = .iface T (.pointer (some ⟨b,0,none⟩))) (hz:∃ T b,z = .iface T (.pointer (some ⟨b,0,none⟩))) (h1:Fine cb s w x) (h2:Fine cb s w y) (h3:Fine cb s w z) :
  Calls Tryz.prog 40 #[.pointer (some ⟨cb,0,none⟩),.pointer s,.slice (some ⟨g,0,none⟩) 3 3] w fun e w'=>e = .returned (.tuple #[])∧Below w.heap.size w w':=by
 refine check_ok cb g 3 s [x,y,z] w (by simp) (fun _=>?_) (fun i v hv=>?_) (by simpa using ⟨hx,hy,hz⟩) (by simpa using ⟨h1,h2,h3⟩)
 ·exact (Array.getElem?_eq_some_iff.1 hg).1
 ·simp only [World.cell?,hg];simpa using hv
theorem Rep.shape {p:Nat→Prop}{w:World}{v:Value}{t:Tr} (h:Rep p w v t):∃ T b,v = .iface T (.pointer (some ⟨b,0,none⟩)):=by
 match t,h with
 | .done _,h=>exact h.elim
 | .ask _ 0 k,h=>obtain ⟨b,e⟩:=h;exact ⟨_,b,e⟩
 | .ask _ 1 k,h=>obtain ⟨b,e,_⟩:=h;exact ⟨_,b,e⟩
 | .ask _ 2 k,h=>obtain ⟨b,e,_⟩:=h;exact ⟨_,b,e⟩
 | .ask _ 3 k,h=>obtain ⟨b,e,_⟩:=h;exact ⟨_,b,e⟩
 | .ask _ 4 k,h=>obtain ⟨b,e,_⟩:=h;exact ⟨_,b,e⟩
 | .ask _ 5 k,h=>obtain ⟨b,_,_,e,_⟩:=h;exact ⟨_,b,e⟩
 | .ask _ 6 k,h=>obtain ⟨b,_,e,_⟩:=h;exact ⟨_,b,e⟩
 | .ask _ 7 k,h=>obtain ⟨b,_,e,_⟩:=h;exact ⟨_,b,e⟩
 | .ask _ 8 k,h=>obtain ⟨b,e,_⟩:=h;exact ⟨_,b,e⟩
 | .ask _ 9 k,h=>obtain ⟨b,_,_,_,_,e,_⟩:=h;exact ⟨_,b,e⟩
 | .ask _ 10 k,h=>obtain ⟨b,_,_,_,_,_,e,_⟩:=h;exact ⟨_,b,e⟩
 | .ask _ 11 k,h=>obtain ⟨b,_,_,e,_⟩:=h;exact ⟨_,b,e⟩
 | .ask _ 12 k,h=>obtain ⟨b,_,_,e,_⟩:=h;exact ⟨_,b,e⟩
 | .ask _ 13 k,h=>obtain ⟨b,_,_,_,e,_⟩:=h;exact ⟨_,b,e⟩
 | .ask _ 14 k,h=>obtain ⟨b,_,_,_,e,_⟩:=h;exact ⟨_,b,e⟩
 | .ask _ 15 k,h=>obtain ⟨b,_,_,_,_,_,e,_⟩:=h;exact ⟨_,b,e⟩
 | .ask _ 16 k,h=>obtain ⟨b,_,_,_,_,_,e,_⟩:=h;exact ⟨_,b,e⟩
 | .ask _ 17 k,h=>obtain ⟨b,e⟩:=h;exact ⟨_,b,e⟩
 | .ask _ 18 k,h=>obtain ⟨b,_,_,e,_⟩:=h;exact ⟨_,b,e⟩
 | .ask _ 19 k,h=>obtain ⟨b,e,_⟩:=h;exact ⟨_,b,e⟩
 | .ask _ 20 k,h=>obtain ⟨b,e,_⟩:=h;exact ⟨_,b,e⟩
 | .ask _ (_+21) k,h=>exact h.elim
theorem one_leaf {cb:Nat}{s:Option Addr}{w:World}{v:Value} (key:(∃ b,v = .iface 224 (.pointer (some ⟨b,0,none⟩)))∨(∃ b,v = .iface 125 (.pointer (some ⟨b,0,none⟩)))∨∃ b,v = .iface 127 (.pointer (some ⟨b,0,none⟩))):FineAt cb s w v:=by
 unfold FineAt
 have a0:=missVariable;have a1:=missBreak;have a2:=missCall;have a3:=missField;have a4:=missIndex;have a5:=missEach;have a6:=missOptional;have a7:=missCollect;have a8:=missBuild;have a9:=missBinary;have a10:=missMinus;have a11:=missTry;have a12:=missIf;have a13:=missBind;have a14:=missLabel;have a15:=missReduce;have a16:=missForeach;have a17:=missDef
 rcases key with ⟨b,rfl⟩ | ⟨b,rfl⟩ | ⟨b,rfl⟩
 all_goals
  go_enter Tryz.func89,Tryz.ntmps89
  go_wp2
  go_end0
  exact ⟨rfl,Below.refl _ _⟩
theorem one_var {cb b:Nat}{s:Option Addr}{w:World}{n:ByteArray}{env:Env} (c0:w.cell? ⟨b,0,none⟩=some (.string n)) (hs:Scope w (.pointer s) env) (ho:hasB env 0 n 0=true):FineAt cb s w (.iface 227 (.pointer (some ⟨b,0,none⟩))):=by
 unfold FineAt
 have a0:=hitVariable
 go_enter Tryz.func89,Tryz.ntmps89
 go_wp2_with (go_at_call 141;refine (has_any _ env _ _ _ _ hs).mono ?_;rintro e w1 ⟨rfl,h1⟩;subst w1;rw [ho])
 go_end0
 exact ⟨rfl,Below.refl _ _⟩
theorem one_each {cb b T:Nat}{s:Option Addr}{w:World}{x:Value} (hT:T=139∨T=230) (c0:w.cell? ⟨b,0,none⟩=some x) (hx:∃ T b,x = .iface T (.pointer (some ⟨b,0,none⟩))) (h1:Fine cb s w x):FineAt cb s w (.iface T (.pointer (some ⟨b,0,none⟩))):=by
 unfold FineAt
 obtain ⟨T1,b1,rfl⟩:=hx
 have hb:=cell_lt c0
 have a0:=missVariable;have a1:=missBreak;have a2:=missCall;have a3:=missField;have a4:=missIndex;have a5:=missEach;have a6:=missOptional;have a7:=hitEach;have a8:=hitCollect
 rcases hT with rfl | rfl
 all_goals
  go_enter Tryz.func89,Tryz.ntmps89
  go_wp2_with (go_at_call 40;refine (check1 (heap_new _ _) ⟨_,_,rfl⟩ (h1.below (below_alloc _ _))).mono ?_;rintro e w1 ⟨rfl,k1⟩)
  go_end0
  exact ⟨rfl,(below_alloc _ _).trans (k1.mono (by simp))⟩
theorem check_none {cb g:Nat}{s:Option Addr}{w:World} (hg:w.heap[g]? = some (.cells #[.nilIface] 37)) :
  Calls Tryz.prog 40 #[.pointer (some ⟨cb,0,none⟩),.pointer s,.slice (some ⟨g,0,none⟩) 1 1] w fun e w'=>e = .returned (.tuple #[])∧w'=w:=by
 have c0:w.cell? ⟨g,0,none⟩=some .nilIface:=by simp [World.cell?,hg]
 go_enter Tryz.func40,Tryz.ntmps40
 go_wp2_with fail
 refine wp_loop_rounds 2 ?_
 rw [rounds_succ]
 go_wp2_with fail
 rw [rounds_succ]
 go_wp2_with fail
 go_end0
 exact ⟨rfl,rfl⟩
theorem one_coll0 {cb b:Nat}{s:Option Addr}{w:World} (c0:w.cell? ⟨b,0,none⟩=some .nilIface):FineAt cb s w (.iface 230 (.pointer (some ⟨b,0,none⟩))):=by
 unfold FineAt
 have hb:=cell_lt c0
 have a0:=missVariable;have a1:=missBreak;have a2:=missCall;have a3:=missField;have a4:=missIndex;have a5:=missEach;have a6:=missOptional;have a8:=hitCollect
 go_enter Tryz.func89,Tryz.ntmps89
 go_wp2_with (go_at_call 40;refine (check_none (heap_new _ _)).mono ?_;rintro e w1 ⟨rfl,rfl⟩)
 go_end0
 exact ⟨rfl,below_alloc _ _⟩
theorem one_two {cb b T o:Nat}{s:Option Addr}{w:World}{x y:Value} (hT:(T=134∧o=1)∨(T=171∧o=2)∨(T=145∧o=1)) (c0:w.cell? ⟨b,0,none⟩=some x) (c1:w.cell? ⟨b,o,none⟩=some y)
  (hx:∃ T b,x = .iface T (.pointer (some ⟨b,0,none⟩))) (hy:∃ T b,y = .iface T (.pointer (some ⟨b,0,none⟩))) (h1:Fine cb s w x) (h2:Fine cb s w y):FineAt cb s w (.iface T (.pointer (some ⟨b,0,none⟩))):=by
 unfold FineAt
 obtain ⟨T1,b1,rfl⟩:=hx
 obtain ⟨T2,b2,rfl⟩:=hy
 have hb:=cell_lt c0
 have a0:=missVariable;have a1:=missBreak;have a2:=missCall;have a3:=missField;have a4:=missIndex;have a5:=missEach;have a6:=missOptional;have a7:=missCollect;have a8:=missBuild;have a9:=missBinary;have a10:=missMinus;have a11:=hitIndex;have a12:=hitBinary;have a13:=hitTry
 rcases hT with ⟨rfl,rfl⟩ | ⟨rfl,rfl⟩ | ⟨rfl,rfl⟩
 ·go_enter Tryz.func89,Tryz.ntmps89
  go_wp2_with fail
  go_region_held3 (fun w'=>w'.cell? ⟨b,0,none⟩=some (.iface T1 (.pointer (some ⟨b1,0,none⟩)))∧w'.cell? ⟨b,1,none⟩=some (.iface T2 (.pointer (some ⟨b2,0,none⟩)))) (first | exact ⟨e0,e1⟩ | go_keep)
   (first | (go_at_call 40;refine (check2 (heap_newd w _) ⟨_,_,rfl⟩ ⟨_,_,rfl⟩ (h1.below (below_alloc _ _).drew) (h2.below (below_alloc _ _).drew)).mono ?_;rintro e w1 ⟨rfl,k1⟩;have e0:w1.cell? ⟨b,0,none⟩=some (.iface T1 (.pointer (some ⟨b1,0,none⟩))):=(k1.cell (p:=⟨b,0,none⟩) (by simp;omega)).trans (((below_alloc w _).drew.cell (p:=⟨b,0,none⟩) hb).trans c0);have e1:w1.cell? ⟨b,1,none⟩=some (.iface T2 (.pointer (some ⟨b2,0,none⟩))):=(k1.cell (p:=⟨b,1,none⟩) (by simp;omega)).trans (((below_alloc w _).drew.cell (p:=⟨b,1,none⟩) hb).trans c1)))
  go_wp2_with fail
  go_end0
  exact ⟨rfl,(below_alloc _ _).drew.trans (k1.mono (by simp))⟩
 ·go_enter Tryz.func89,Tryz.ntmps89
  go_wp2_with fail
  go_region_held3 (fun w'=>w'.cell? ⟨b,0,none⟩=some (.iface T1 (.pointer (some ⟨b1,0,none⟩)))∧w'.cell? ⟨b,2,none⟩=some (.iface T2 (.pointer (some ⟨b2,0,none⟩)))) (first | exact ⟨e0,e1⟩ | go_keep)
   (first | (go_at_call 40;refine (check2 (heap_newd w _) ⟨_,_,rfl⟩ ⟨_,_,rfl⟩ (h1.below (below_alloc _ _).drew) (h2.below (below_alloc _ _).drew)).mono ?_;rintro e w1 ⟨rfl,k1⟩;have e0:w1.cell? ⟨b,0,none⟩=some (.iface T1 (.pointer (some ⟨b1,0,none⟩))):=(k1.cell (p:=⟨b,0,none⟩) (by simp;omega)).trans (((below_alloc w _).drew.cell (p:=⟨b,0,none⟩) hb).trans c0);have e1:w1.cell? ⟨b,2,none⟩=some (.iface T2 (.pointer (some ⟨b2,0,none⟩))):=(k1.cell (p:=⟨b,2,none⟩) (by simp;omega)).trans (((below_alloc w _).drew.cell (p:=⟨b,2,none⟩) hb).trans c1)))
  go_wp2_with fail
  go_end0
  exact ⟨rfl,(below_alloc _ _).drew.trans (k1.mono (by simp))⟩
 ·go_enter Tryz.func89,Tryz.ntmps89
  go_wp2_with fail
  go_region_held3 (fun w'=>w'.cell? ⟨b,0,none⟩=some (.iface T1 (.pointer (some ⟨b1,0,none⟩)))∧w'.cell? ⟨b,1,none⟩=some (.iface T2 (.pointer (some ⟨b2,0,none⟩)))) (first | exact ⟨e0,e1⟩ | go_keep)
   (first | (go_at_call 40;refine (check2 (heap_newd w _) ⟨_,_,rfl⟩ ⟨_,_,rfl⟩ (h1.below (below_alloc _ _).drew) (h2.below (below_alloc _ _).drew)).mono ?_;rintro e w1 ⟨rfl,k1⟩;have e0:w1.cell? ⟨b,0,none⟩=some (.iface T1 (.pointer (some ⟨b1,0,none⟩))):=(k1.cell (p:=⟨b,0,none⟩) (by simp;omega)).trans (((below_alloc w _).drew.cell (p:=⟨b,0,none⟩) hb).trans c0);have e1:w1.cell? ⟨b,1,none⟩=some (.iface T2 (.pointer (some ⟨b2,0,none⟩))):=(k1.cell (p:=⟨b,1,none⟩) (by simp;omega)).trans (((below_alloc w _).drew.cell (p:=⟨b,1,none⟩) hb).trans c1)))
  go_wp2_with fail
  go_end0
  exact ⟨rfl,(below_alloc _ _).drew.trans (k1.mono (by simp))⟩
theorem one_ite {cb b:Nat}{s:Option Addr}{w:World}{x y z:Value} (c0:w.cell? ⟨b,0,none⟩=some x) (c1:w.cell? ⟨b,1,none⟩=some y) (c2:w.cell? ⟨b,2,none⟩=some z)
  (hx:∃ T b,x = .iface T (.pointer (some ⟨b,0,none⟩))) (hy:∃ T b,y = .iface T (.pointer (some ⟨b,0,none⟩))) (hz:∃ T b,z = .iface T (.pointer (some ⟨b,0,none⟩))) (h1:Fine cb s w x) (h2:Fine cb s w y) (h3:Fine cb s w z):FineAt cb s w (.iface 158 (.pointer (some ⟨b,0,none⟩))):=by
 unfold FineAt
 obtain ⟨T1,b1,rfl⟩:=hx
 obtain ⟨T2,b2,rfl⟩:=hy
 obtain ⟨T3,b3,rfl⟩:=hz
 have hb:=cell_lt c0
 have a0:=missVariable;have a1:=missBreak;have a2:=missCall;have a3:=missField;have a4:=missIndex;have a5:=missEach;have a6:=missOptional;have a7:=missCollect;have a8:=missBuild;have a9:=missBinary;have a10:=missMinus;have a11:=missTry;have a12:=hitIf
 go_enter Tryz.func89,Tryz.ntmps89
 go_wp2_with fail
 go_region_held3 (fun w'=>w'.cell? ⟨b,0,none⟩=some (.iface T1 (.pointer (some ⟨b1,0,none⟩)))∧w'.cell? ⟨b,1,none⟩=some (.iface T2 (.pointer (some ⟨b2,0,none⟩)))∧w'.cell? ⟨b,2,none⟩=some (.iface T3 (.pointer (some ⟨b3,0,none⟩)))) (first | exact ⟨e0,e1,e2⟩ | go_keep)
  (first | (go_at_call 40;refine (check3 (heap_newd w _) ⟨_,_,rfl⟩ ⟨_,_,rfl⟩ ⟨_,_,rfl⟩ (h1.below (below_alloc _ _).drew) (h2.below (below_alloc _ _).drew) (h3.below (below_alloc _ _).drew)).mono ?_;rintro e w1 ⟨rfl,k1⟩;have e0:w1.cell? ⟨b,0,none⟩=some (.iface T1 (.pointer (some ⟨b1,0,none⟩))):=(k1.cell (p:=⟨b,0,none⟩) (by simp;omega)).trans (((below_alloc w _).drew.cell (p:=⟨b,0,none⟩) hb).trans c0);have e1:w1.cell? ⟨b,1,none⟩=some (.iface T2 (.pointer (some ⟨b2,0,none⟩))):=(k1.cell (p:=⟨b,1,none⟩) (by simp;omega)).trans (((below_alloc w _).drew.cell (p:=⟨b,1,none⟩) hb).trans c1);have e2:w1.cell? ⟨b,2,none⟩=some (.iface T3 (.pointer (some ⟨b3,0,none⟩))):=(k1.cell (p:=⟨b,2,none⟩) (by simp;omega)).trans (((below_alloc w _).drew.cell (p:=⟨b,2,none⟩) hb).trans c2)))
 go_wp2_with fail
 go_end0
 exact ⟨rfl,(below_alloc _ _).drew.trans (k1.mono (by simp))⟩
theorem below_drewN (w:World) (m:Nat):Below w.heap.size w (w.drewN m):=⟨rfl,rfl,rfl,Nat.le_refl _,fun _ _=>rfl⟩
theorem Scope.drewN {w:World}{v:Value}{env:Env} (h:Scope w v env) (m:Nat):Scope (w.drewN m) v env:=h.below (below_drewN w m)
theorem has_yes (v:Value) (env:Env) (u:Int) (n:ByteArray) (k:Int) (w:World) (h:Scope w v env) (ho:hasB env u n k=true) :
  Calls Tryz.prog 141 #[v,.int .u8 u,.string n,.int .i64 k] w fun e w'=>e = .returned (.bool true)∧w'=w:=by
 have h1:=has_any v env u n k w h
 rw [ho] at h1;exact h1
theorem one_callN {cb b:Nat}{s:Option Addr}{w:World}{n:ByteArray}{env:Env}{a:Option Addr}{k cap:Nat} (c0:w.cell? ⟨b,0,none⟩=some (.string n)) (c1:w.cell? ⟨b,1,none⟩=some (.slice a k cap)) (hk:k≤2) (hs:Scope w (.pointer s) env) (ho:hasB env 2 n k=true)
  (hc:∀ w',Below w.heap.size w w'→Calls Tryz.prog 40 #[.pointer (some ⟨cb,0,none⟩),.pointer s,.slice a k cap] w' fun e w''=>e = .returned (.tuple #[])∧Below w'.heap.size w' w'') :
  FineAt cb s w (.iface 169 (.pointer (some ⟨b,0,none⟩))):=by
 unfold FineAt
 have hb:=cell_lt c0
 have a0:=missVariable;have a1:=missBreak;have a2:=hitCall
 go_enter Tryz.func89,Tryz.ntmps89
 go_wp2_with fail
 go_quiet ((go_at_call 141;exact Calls.quiet_of_same (has_yes _ env _ _ _ _ (hs.drewN _) ho)))
 go_wp2_with (go_at_call 40;refine (hc _ (below_drewN _ _)).mono ?_;rintro e w1 ⟨rfl,k1⟩)
 go_end0
 exact ⟨rfl,(below_drewN _ _).trans k1⟩
end Go.Proofs.Tryz
