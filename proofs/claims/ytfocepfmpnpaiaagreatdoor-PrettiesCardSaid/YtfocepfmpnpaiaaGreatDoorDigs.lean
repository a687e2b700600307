import Derived.Test.YtfocepfmpnpaiaaGreatDoorYa4
set_option linter.all false
namespace Go.Proofs.Tryz
set_option maxHeartbeats 16000000
open Go.RowKit
def digitsVal:List UInt8→Option Int
 | []=>none
 | l=>if l.length≤18∧l.all (fun c=>48≤c && c≤57) then some (l.foldl (fun a c=>a * 10+((c.toNat:Int) - 48)) 0) else none
def ParsesInt:Prop:=∀ (s:ByteArray) (n:Int) (w:World),digitsVal s.data.toList=some n→
 Calls Tryz.prog 137 #[.string s,.int .i64 10,.int .i64 64] w fun e w'=>e = .returned (.tuple #[.int .i64 n,.nilIface])∧Below w.heap.size w w'
end Go.Proofs.Tryz
