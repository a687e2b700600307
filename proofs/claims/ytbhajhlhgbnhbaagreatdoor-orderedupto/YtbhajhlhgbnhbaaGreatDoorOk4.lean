import Derived.Test.YtbhajhlhgbnhbaaGreatDoorWl5
import Derived.Test.YtbhajhlhgbnhbaaGreatDoorFz8
set_option linter.all false
namespace Go.Proofs.Tryz
set_option maxHeartbeats 16000000
open Go.RowKit
set_option maxRecDepth 10000
theorem GivenC.move {p:Nat→Prop}{w w':World}{kn:Option Addr} (h:GivenC p w kn) (hs:SameOn p w w'):GivenC p w' kn:=by
 obtain ⟨mb,h1,h2⟩:=h
 exact ⟨mb,h1.move (hs.mono (fun _ h=>h.1)),h2.move hs⟩
theorem DefB.move {p:Nat→Prop}{w w':World}{mb:Nat}{name q:ByteArray}{body:Tr}{ar:Option Addr} (h:DefB p w mb name q body ar) (hs:SameOn p w w'):DefB p w' mb name q body ar:=by
 obtain ⟨h1,db,pd,po,pc,x,h2,h3,h4,h5,h6,h7,h8⟩:=h
 exact ⟨h1,db,pd,po,pc,x,h2.same (hs mb h1),h3,h4,hs.cell h3 h5,hs.cell h4 h6,hs.cell h3 h7,h8.same hs⟩
end Go.Proofs.Tryz
