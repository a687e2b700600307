import Derived.Test.YtfocepfmpnpaiaaGreatDoorStep2
import Derived.Deep.LoopGhost
import Derived.Deep.QuietTactic
import Derived.BigQuiet
set_option linter.all false
namespace Go.Proofs.Tryz
set_option maxHeartbeats 16000000
open Go.RowKit
set_option maxRecDepth 10000
abbrev Env:=List (Int×ByteArray×Int)
def Scope (w:World):Value→Env→Prop
 | v,[]=>v = .pointer none
 | v,(u,n,k) :: env=>∃ b a,v = .pointer (some ⟨b,0,none⟩)∧w.cell? ⟨b,0,none⟩=some (.int .u8 u)∧w.cell? ⟨b,1,none⟩=some (.string n)∧w.cell? ⟨b,2,none⟩=some (.int .i64 k)∧w.cell? ⟨b,3,none⟩=some a∧Scope w a env
theorem Scope.below {w w':World} (k:Below w.heap.size w w'):∀ {v:Value}{env:Env},Scope w v env→Scope w' v env
 | _,[],h=>h
 | _,(_,_,_) :: _,⟨b,a,e,h0,h1,h2,h3,h4⟩=>⟨b,a,e,(k.cell (p:=⟨b,0,none⟩) (cell_lt h0)).trans h0,(k.cell (p:=⟨b,1,none⟩) (cell_lt h0)).trans h1,(k.cell (p:=⟨b,2,none⟩) (cell_lt h0)).trans h2,(k.cell (p:=⟨b,3,none⟩) (cell_lt h0)).trans h3,Scope.below k h4⟩
theorem Scope.ptr {w:World}{v:Value}{env:Env} (h:Scope w v env):∃ p,v = .pointer p:=by
 match env,h with
 | [],h=>exact ⟨none,h⟩
 | (_,_,_) :: _,⟨b,a,e,_⟩=>exact ⟨_,e⟩
def hasE (u:Int) (n:ByteArray) (k:Int) (e:Int×ByteArray×Int):Bool:=e.1 == u && (e.2.1.data.toList == n.data.toList && e.2.2 == k)
def hasB (env:Env) (u:Int) (n:ByteArray) (k:Int):Bool:=env.any (hasE u n k)
theorem has_any (v:Value) (env:Env) (u:Int) (n:ByteArray) (k:Int) (w:World) (h:Scope w v env) :
  Calls Tryz.prog 91 #[v,.int .u8 u,.string n,.int .i64 k] w fun e w'=>e = .returned (.bool (hasB env u n k))∧w'=w:=by
 obtain ⟨R,hR⟩:∃ R,hasB env u n k=R:=⟨_,rfl⟩
 rw [hR]
 go_enter Tryz.func91,Tryz.ntmps91
 go_wp2_with fail
 go_loopg [0] env.length (fun j t wr=>wr=w∧∃ env':Env,env'.length=j∧Scope w t env'∧hasB env' u n k=R)
 case atStart=>exact ⟨rfl,env,rfl,h,hR⟩
 case round =>
  clear hR
  obtain ⟨rfl,env',hl,hsc,hR⟩:=hrel
  match env',hl,hsc,hR with
  | [],hl,hsc,hR =>
   cases hsc
   simp [hasB] at hR
   subst hR
   go_wp2_with fail
   go_ret
   exact ⟨rfl,rfl⟩
  | (u',n',k') :: env',hl,⟨b,a,e,h0,h1,h2,h3,h4⟩,hR =>
   subst e
   simp only [hasB,List.any_cons] at hR
   obtain ⟨q,rfl⟩:=h4.ptr
   by_cases hu:u'=u
   ·subst hu
    by_cases hn:n'.toList=n.toList
    ·by_cases hk:k'=k
     ·subst hk
      have:R=true:=by rw [← hR];simp [hasE,← ByteArray.toList_eq,hn]
      subst this
      go_wp2_with fail
      go_ret
      exact ⟨rfl,rfl⟩
     ·have hk':(k' == k)=false:=by simpa using hk
      have hR':hasB env' u' n k=R:=by rw [← hR];simp [hasE,hk',hasB]
      go_wp2_with fail
      go_roundg env'.length
      case measure=>simp at hl;omega
      case rel=>exact ⟨rfl,env',rfl,h4,hR'⟩
    ·have hn':(n'.toList == n.toList)=false:=by simpa using hn
     have hR':hasB env' u' n k=R:=by rw [← hR];simp [hasE,← ByteArray.toList_eq,hn',hasB]
     go_wp2_with fail
     go_roundg env'.length
     case measure=>simp at hl;omega
     case rel=>exact ⟨rfl,env',rfl,h4,hR'⟩
   ·have hu':(u' == u)=false:=by simpa using hu
    have hR':hasB env' u n k=R:=by rw [← hR];simp [hasE,hu',hasB]
    go_wp2_with fail
    go_roundg env'.length
    case measure=>simp at hl;omega
    case rel=>exact ⟨rfl,env',rfl,h4,hR'⟩
theorem with_any (v:Value) (env:Env) (u:Int) (n:ByteArray) (k:Int) (w:World) (h:Scope w v env) :
  Calls Tryz.prog 113 #[v,.int .u8 u,.string n,.int .i64 k] w fun e w'=>∃ b,e = .returned (.pointer (some ⟨b,0,none⟩))∧Scope w' (.pointer (some ⟨b,0,none⟩)) ((u,n,k) :: env)∧Below w.heap.size w w':=by
 obtain ⟨q,rfl⟩:=h.ptr
 go_enter Tryz.func113,Tryz.ntmps113
 go_wp2_with fail
 go_ret
 exact ⟨_,rfl,⟨_,_,rfl,box_cell _ _ _ _,box_cell _ _ _ _,box_cell _ _ _ _,box_cell _ _ _ _,h.below (below_alloc _ _)⟩,below_alloc _ _⟩
end Go.Proofs.Tryz
