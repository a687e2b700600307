import Derived.Test.YtfocepfmpnpaiaaGreatDoorLex2
import Derived.Deep.AppendLies
import Derived.OwnWalk
import Derived.Lib.AppendIntMem
import Derived.BigQuiet
import Derived.Deep.QuietTactic
import Derived.Deep.RegionHeld3
set_option linter.all false
namespace Go.Proofs.Tryz
set_option maxHeartbeats 16000000
open Go.RowKit
set_option maxRecDepth 10000
def byteAt (s:ByteArray) (a:Nat):Int:=match s.data.toList[a]? with
 | some c=>c.toNat
 | none=>0
theorem owns_shape {w:World}{B e n:Nat}{v:Value}{xs:List Value} (h:w.ownsRow B e 1 v n xs):∃ a l c,v = .slice a l c:=by
 rcases h.2 with ⟨rfl,_⟩ | ⟨g,cap,cur,rfl,_⟩
 ·exact ⟨_,_,_,rfl⟩
 ·exact ⟨_,_,_,rfl⟩
theorem byteCells_append (a b:List UInt8):Lib.byteCells (a ++ b)=Lib.byteCells a ++ Lib.byteCells b:=by simp [Lib.byteCells]
theorem owns_bytes {w:World}{B:Nat}{v:Value}{l:List UInt8} (h:w.ownsRow B 5 1 v l.length (Lib.byteCells l)) (hl:l≠[]):∃ g c,v = .slice (some ⟨g,0,none⟩) l.length c∧∀ j (hj:j < l.length),w.cell? ((⟨g,0,none⟩:Addr).add j)=some (.int .u8 (l[j].toNat:Int)):=by
 rcases h.2 with ⟨rfl,h0⟩ | ⟨g,cap,cur,rfl,hg,hb,hn,hm,hs,ht⟩
 ·exact absurd (List.length_eq_zero_iff.1 h0) hl
 ·refine ⟨g,cap,rfl,?_⟩
  intro j hj
  have e:cur[j]? = some (.int .u8 (l[j].toNat:Int)):=by
   have:(cur.toList.take (l.length * 1))[j]? = (Lib.byteCells l)[j]?:=by rw [ht]
   rw [List.getElem?_take_of_lt (by omega)] at this
   simp [Lib.byteCells,hj] at this
   rw [this]
  by_cases hj0:j=0
  ·subst hj0
   simp [World.cell?,Addr.add,hb,e]
  ·simp [World.cell?,Addr.add,hj0,hb,e]
theorem vIsDigit_any (c:Int) (w:World):Calls Tryz.prog 135 #[.int .u8 c] w fun e w'=>e = .returned (.bool (decide (48≤c) && decide (c≤57)))∧w'=w:=by
 go_enter Tryz.func135,Tryz.ntmps135
 by_cases h:48≤c
 ·go_wp2
  go_ret
  exact ⟨ret_bool (by simp [h]),rfl⟩
 ·go_wp2
  go_ret
  exact ⟨ret_bool (by rw [decide_eq_false (by omega:¬ 48≤c)];rfl),rfl⟩
end Go.Proofs.Tryz
