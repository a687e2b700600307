import Derived.Test.YtfocepfmpnpaiaaGreatDoorStep1
set_option linter.all false
namespace Go.Proofs.Tryz
set_option maxHeartbeats 16000000
open Go.RowKit
theorem box_cell (w:World) (cs:Array Value) (T i:Nat):(w.alloc (.cells cs T)).cell? ⟨w.heap.size,i,none⟩=cs[i]?:=by
 simp
end Go.Proofs.Tryz
