import Derived.Test.YtfocepfmpnpaiaaGreatDoorTree
set_option linter.all false
namespace Go.Proofs.Tryz
set_option maxHeartbeats 16000000
open Go.RowKit
theorem heap_new (a:World) (o:Obj):(a.alloc o).heap[a.heap.size]? = some o:=by
 show (a.heap.push o)[a.heap.size]? = some o
 simp
theorem Rd.tbs {w:World}{rb tb:Nat}{l:List Tok} (h:Rd w rb tb l):tb < w.heap.size:=by obtain ⟨o,c,h⟩:=h;exact h.tbs
end Go.Proofs.Tryz
