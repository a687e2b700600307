import Derived.Test.YtndoeeampclfaaaGreatDoorTree
import Derived.Deep.AppendLies
set_option linter.all false
namespace Go.Proofs.Tryz
set_option maxHeartbeats 16000000
open Go.RowKit
set_option maxRecDepth 10000
theorem ta_hit {U e X:Nat}(hu:Tryz.prog.underlying U=some (.pointer e)) (v:Value) (w:World) :
  Sem.run Tryz.prog (Instr.typeAssert (.iface U v) X U true) w = .ok (.tuple #[v,.bool true]) w:=by
 unfold Instr.typeAssert
 simp [Sem.run_bind,run_underlying hu]
theorem ta_miss {U e X t:Nat}{i:TypeInfo}(hu:Tryz.prog.underlying U=some (.pointer e)) (hi:Tryz.prog.info? U=some i) (hz:i.zero=some (.pointer none)) (h:t≠U) (v:Value) (w:World) :
  Sem.run Tryz.prog (Instr.typeAssert (.iface t v) X U true) w = .ok (.tuple #[.pointer none,.bool false]) w:=by
 unfold Instr.typeAssert
 simp [Sem.run_bind,run_underlying hu,h,zeroValue,typeInfo,hi,hz]
theorem hitVariable (v:Value) (w:World):Sem.run Tryz.prog (Instr.typeAssert (.iface 227 v) 37 227 true) w = .ok (.tuple #[v,.bool true]) w:=ta_hit Tryz.underlying227 v w
theorem missVariable (t:Nat) (v:Value) (w:World) (h:t≠227):Sem.run Tryz.prog (Instr.typeAssert (.iface t v) 37 227 true) w = .ok (.tuple #[.pointer none,.bool false]) w:=by
 obtain ⟨i,h1,h2,_,_⟩:=info_parts (show (Tryz.prog.info? 227).map (fun i=>(i.zero,i.size,i.bytes))=some (some (.pointer none),1,8) by kernel_rfl)
 exact ta_miss Tryz.underlying227 h1 h2 h v w
theorem missBreak (t:Nat) (v:Value) (w:World) (h:t≠150):Sem.run Tryz.prog (Instr.typeAssert (.iface t v) 37 150 true) w = .ok (.tuple #[.pointer none,.bool false]) w:=by
 obtain ⟨i,h1,h2,_,_⟩:=info_parts (show (Tryz.prog.info? 150).map (fun i=>(i.zero,i.size,i.bytes))=some (some (.pointer none),1,8) by kernel_rfl)
 exact ta_miss Tryz.underlying150 h1 h2 h v w
theorem hitCall (v:Value) (w:World):Sem.run Tryz.prog (Instr.typeAssert (.iface 169 v) 37 169 true) w = .ok (.tuple #[v,.bool true]) w:=ta_hit Tryz.underlying169 v w
theorem missCall (t:Nat) (v:Value) (w:World) (h:t≠169):Sem.run Tryz.prog (Instr.typeAssert (.iface t v) 37 169 true) w = .ok (.tuple #[.pointer none,.bool false]) w:=by
 obtain ⟨i,h1,h2,_,_⟩:=info_parts (show (Tryz.prog.info? 169).map (fun i=>(i.zero,i.size,i.bytes))=some (some (.pointer none),1,8) by kernel_rfl)
 exact ta_miss Tryz.underlying169 h1 h2 h v w
theorem missField (t:Nat) (v:Value) (w:World) (h:t≠128):Sem.run Tryz.prog (Instr.typeAssert (.iface t v) 37 128 true) w = .ok (.tuple #[.pointer none,.bool false]) w:=by
 obtain ⟨i,h1,h2,_,_⟩:=info_parts (show (Tryz.prog.info? 128).map (fun i=>(i.zero,i.size,i.bytes))=some (some (.pointer none),1,8) by kernel_rfl)
 exact ta_miss Tryz.underlying128 h1 h2 h v w
theorem hitIndex (v:Value) (w:World):Sem.run Tryz.prog (Instr.typeAssert (.iface 134 v) 37 134 true) w = .ok (.tuple #[v,.bool true]) w:=ta_hit Tryz.underlying134 v w
theorem missIndex (t:Nat) (v:Value) (w:World) (h:t≠134):Sem.run Tryz.prog (Instr.typeAssert (.iface t v) 37 134 true) w = .ok (.tuple #[.pointer none,.bool false]) w:=by
 obtain ⟨i,h1,h2,_,_⟩:=info_parts (show (Tryz.prog.info? 134).map (fun i=>(i.zero,i.size,i.bytes))=some (some (.pointer none),1,8) by kernel_rfl)
 exact ta_miss Tryz.underlying134 h1 h2 h v w
theorem hitEach (v:Value) (w:World):Sem.run Tryz.prog (Instr.typeAssert (.iface 139 v) 37 139 true) w = .ok (.tuple #[v,.bool true]) w:=ta_hit Tryz.underlying139 v w
theorem missEach (t:Nat) (v:Value) (w:World) (h:t≠139):Sem.run Tryz.prog (Instr.typeAssert (.iface t v) 37 139 true) w = .ok (.tuple #[.pointer none,.bool false]) w:=by
 obtain ⟨i,h1,h2,_,_⟩:=info_parts (show (Tryz.prog.info? 139).map (fun i=>(i.zero,i.size,i.bytes))=some (some (.pointer none),1,8) by kernel_rfl)
 exact ta_miss Tryz.underlying139 h1 h2 h v w
theorem missOptional (t:Nat) (v:Value) (w:World) (h:t≠142):Sem.run Tryz.prog (Instr.typeAssert (.iface t v) 37 142 true) w = .ok (.tuple #[.pointer none,.bool false]) w:=by
 obtain ⟨i,h1,h2,_,_⟩:=info_parts (show (Tryz.prog.info? 142).map (fun i=>(i.zero,i.size,i.bytes))=some (some (.pointer none),1,8) by kernel_rfl)
 exact ta_miss Tryz.underlying142 h1 h2 h v w
theorem hitCollect (v:Value) (w:World):Sem.run Tryz.prog (Instr.typeAssert (.iface 230 v) 37 230 true) w = .ok (.tuple #[v,.bool true]) w:=ta_hit Tryz.underlying230 v w
theorem missCollect (t:Nat) (v:Value) (w:World) (h:t≠230):Sem.run Tryz.prog (Instr.typeAssert (.iface t v) 37 230 true) w = .ok (.tuple #[.pointer none,.bool false]) w:=by
 obtain ⟨i,h1,h2,_,_⟩:=info_parts (show (Tryz.prog.info? 230).map (fun i=>(i.zero,i.size,i.bytes))=some (some (.pointer none),1,8) by kernel_rfl)
 exact ta_miss Tryz.underlying230 h1 h2 h v w
theorem missBuild (t:Nat) (v:Value) (w:World) (h:t≠234):Sem.run Tryz.prog (Instr.typeAssert (.iface t v) 37 234 true) w = .ok (.tuple #[.pointer none,.bool false]) w:=by
 obtain ⟨i,h1,h2,_,_⟩:=info_parts (show (Tryz.prog.info? 234).map (fun i=>(i.zero,i.size,i.bytes))=some (some (.pointer none),1,8) by kernel_rfl)
 exact ta_miss Tryz.underlying234 h1 h2 h v w
theorem hitBinary (v:Value) (w:World):Sem.run Tryz.prog (Instr.typeAssert (.iface 171 v) 37 171 true) w = .ok (.tuple #[v,.bool true]) w:=ta_hit Tryz.underlying171 v w
theorem missBinary (t:Nat) (v:Value) (w:World) (h:t≠171):Sem.run Tryz.prog (Instr.typeAssert (.iface t v) 37 171 true) w = .ok (.tuple #[.pointer none,.bool false]) w:=by
 obtain ⟨i,h1,h2,_,_⟩:=info_parts (show (Tryz.prog.info? 171).map (fun i=>(i.zero,i.size,i.bytes))=some (some (.pointer none),1,8) by kernel_rfl)
 exact ta_miss Tryz.underlying171 h1 h2 h v w
theorem missMinus (t:Nat) (v:Value) (w:World) (h:t≠239):Sem.run Tryz.prog (Instr.typeAssert (.iface t v) 37 239 true) w = .ok (.tuple #[.pointer none,.bool false]) w:=by
 obtain ⟨i,h1,h2,_,_⟩:=info_parts (show (Tryz.prog.info? 239).map (fun i=>(i.zero,i.size,i.bytes))=some (some (.pointer none),1,8) by kernel_rfl)
 exact ta_miss Tryz.underlying239 h1 h2 h v w
theorem hitTry (v:Value) (w:World):Sem.run Tryz.prog (Instr.typeAssert (.iface 145 v) 37 145 true) w = .ok (.tuple #[v,.bool true]) w:=ta_hit Tryz.underlying145 v w
theorem missTry (t:Nat) (v:Value) (w:World) (h:t≠145):Sem.run Tryz.prog (Instr.typeAssert (.iface t v) 37 145 true) w = .ok (.tuple #[.pointer none,.bool false]) w:=by
 obtain ⟨i,h1,h2,_,_⟩:=info_parts (show (Tryz.prog.info? 145).map (fun i=>(i.zero,i.size,i.bytes))=some (some (.pointer none),1,8) by kernel_rfl)
 exact ta_miss Tryz.underlying145 h1 h2 h v w
theorem hitIf (v:Value) (w:World):Sem.run Tryz.prog (Instr.typeAssert (.iface 158 v) 37 158 true) w = .ok (.tuple #[v,.bool true]) w:=ta_hit Tryz.underlying158 v w
theorem missIf (t:Nat) (v:Value) (w:World) (h:t≠158):Sem.run Tryz.prog (Instr.typeAssert (.iface t v) 37 158 true) w = .ok (.tuple #[.pointer none,.bool false]) w:=by
 obtain ⟨i,h1,h2,_,_⟩:=info_parts (show (Tryz.prog.info? 158).map (fun i=>(i.zero,i.size,i.bytes))=some (some (.pointer none),1,8) by kernel_rfl)
 exact ta_miss Tryz.underlying158 h1 h2 h v w
theorem hitBind (v:Value) (w:World):Sem.run Tryz.prog (Instr.typeAssert (.iface 160 v) 37 160 true) w = .ok (.tuple #[v,.bool true]) w:=ta_hit Tryz.underlying160 v w
theorem missBind (t:Nat) (v:Value) (w:World) (h:t≠160):Sem.run Tryz.prog (Instr.typeAssert (.iface t v) 37 160 true) w = .ok (.tuple #[.pointer none,.bool false]) w:=by
 obtain ⟨i,h1,h2,_,_⟩:=info_parts (show (Tryz.prog.info? 160).map (fun i=>(i.zero,i.size,i.bytes))=some (some (.pointer none),1,8) by kernel_rfl)
 exact ta_miss Tryz.underlying160 h1 h2 h v w
theorem missLabel (t:Nat) (v:Value) (w:World) (h:t≠148):Sem.run Tryz.prog (Instr.typeAssert (.iface t v) 37 148 true) w = .ok (.tuple #[.pointer none,.bool false]) w:=by
 obtain ⟨i,h1,h2,_,_⟩:=info_parts (show (Tryz.prog.info? 148).map (fun i=>(i.zero,i.size,i.bytes))=some (some (.pointer none),1,8) by kernel_rfl)
 exact ta_miss Tryz.underlying148 h1 h2 h v w
theorem hitReduce (v:Value) (w:World):Sem.run Tryz.prog (Instr.typeAssert (.iface 164 v) 37 164 true) w = .ok (.tuple #[v,.bool true]) w:=ta_hit Tryz.underlying164 v w
theorem missReduce (t:Nat) (v:Value) (w:World) (h:t≠164):Sem.run Tryz.prog (Instr.typeAssert (.iface t v) 37 164 true) w = .ok (.tuple #[.pointer none,.bool false]) w:=by
 obtain ⟨i,h1,h2,_,_⟩:=info_parts (show (Tryz.prog.info? 164).map (fun i=>(i.zero,i.size,i.bytes))=some (some (.pointer none),1,8) by kernel_rfl)
 exact ta_miss Tryz.underlying164 h1 h2 h v w
theorem missForeach (t:Nat) (v:Value) (w:World) (h:t≠166):Sem.run Tryz.prog (Instr.typeAssert (.iface t v) 37 166 true) w = .ok (.tuple #[.pointer none,.bool false]) w:=by
 obtain ⟨i,h1,h2,_,_⟩:=info_parts (show (Tryz.prog.info? 166).map (fun i=>(i.zero,i.size,i.bytes))=some (some (.pointer none),1,8) by kernel_rfl)
 exact ta_miss Tryz.underlying166 h1 h2 h v w
theorem hitDef (v:Value) (w:World):Sem.run Tryz.prog (Instr.typeAssert (.iface 120 v) 37 120 true) w = .ok (.tuple #[v,.bool true]) w:=ta_hit Tryz.underlying120 v w
theorem missDef (t:Nat) (v:Value) (w:World) (h:t≠120):Sem.run Tryz.prog (Instr.typeAssert (.iface t v) 37 120 true) w = .ok (.tuple #[.pointer none,.bool false]) w:=by
 obtain ⟨i,h1,h2,_,_⟩:=info_parts (show (Tryz.prog.info? 120).map (fun i=>(i.zero,i.size,i.bytes))=some (some (.pointer none),1,8) by kernel_rfl)
 exact ta_miss Tryz.underlying120 h1 h2 h v w
theorem hitIdentity (v:Value) (w:World):Sem.run Tryz.prog (Instr.typeAssert (.iface 125 v) 37 125 true) w = .ok (.tuple #[v,.bool true]) w:=ta_hit Tryz.underlying125 v w
theorem missIdentity (t:Nat) (v:Value) (w:World) (h:t≠125):Sem.run Tryz.prog (Instr.typeAssert (.iface t v) 37 125 true) w = .ok (.tuple #[.pointer none,.bool false]) w:=by
 obtain ⟨i,h1,h2,_,_⟩:=info_parts (show (Tryz.prog.info? 125).map (fun i=>(i.zero,i.size,i.bytes))=some (some (.pointer none),1,8) by kernel_rfl)
 exact ta_miss Tryz.underlying125 h1 h2 h v w
theorem hitDescent (v:Value) (w:World):Sem.run Tryz.prog (Instr.typeAssert (.iface 127 v) 37 127 true) w = .ok (.tuple #[v,.bool true]) w:=ta_hit Tryz.underlying127 v w
theorem missDescent (t:Nat) (v:Value) (w:World) (h:t≠127):Sem.run Tryz.prog (Instr.typeAssert (.iface t v) 37 127 true) w = .ok (.tuple #[.pointer none,.bool false]) w:=by
 obtain ⟨i,h1,h2,_,_⟩:=info_parts (show (Tryz.prog.info? 127).map (fun i=>(i.zero,i.size,i.bytes))=some (some (.pointer none),1,8) by kernel_rfl)
 exact ta_miss Tryz.underlying127 h1 h2 h v w
theorem hitLiteral (v:Value) (w:World):Sem.run Tryz.prog (Instr.typeAssert (.iface 224 v) 37 224 true) w = .ok (.tuple #[v,.bool true]) w:=ta_hit Tryz.underlying224 v w
theorem missLiteral (t:Nat) (v:Value) (w:World) (h:t≠224):Sem.run Tryz.prog (Instr.typeAssert (.iface t v) 37 224 true) w = .ok (.tuple #[.pointer none,.bool false]) w:=by
 obtain ⟨i,h1,h2,_,_⟩:=info_parts (show (Tryz.prog.info? 224).map (fun i=>(i.zero,i.size,i.bytes))=some (some (.pointer none),1,8) by kernel_rfl)
 exact ta_miss Tryz.underlying224 h1 h2 h v w
end Go.Proofs.Tryz
