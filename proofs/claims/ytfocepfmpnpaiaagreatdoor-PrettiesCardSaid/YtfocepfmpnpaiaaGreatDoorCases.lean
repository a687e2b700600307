import Derived.Test.YtfocepfmpnpaiaaGreatDoorYa4
import Derived.Deep.AppendLies
set_option linter.all false
namespace Go.Proofs.Tryz
set_option maxHeartbeats 16000000
open Go.RowKit
set_option maxRecDepth 10000
theorem ta_hit {U e X:Nat} (hu:Tryz.prog.underlying U=some (.pointer e)) (v:Value) (w:World) :
  Sem.run Tryz.prog (Instr.typeAssert (.iface U v) X U true) w = .ok (.tuple #[v,.bool true]) w:=by
 unfold Instr.typeAssert
 simp [Sem.run_bind,run_underlying hu]
theorem ta_miss {U e X t:Nat}{i:TypeInfo} (hu:Tryz.prog.underlying U=some (.pointer e)) (hi:Tryz.prog.info? U=some i) (hz:i.zero=some (.pointer none)) (h:t≠U) (v:Value) (w:World) :
  Sem.run Tryz.prog (Instr.typeAssert (.iface t v) X U true) w = .ok (.tuple #[.pointer none,.bool false]) w:=by
 unfold Instr.typeAssert
 simp [Sem.run_bind,run_underlying hu,h,zeroValue,typeInfo,hi,hz]
theorem hitVariable (v:Value) (w:World):Sem.run Tryz.prog (Instr.typeAssert (.iface 102 v) 31 102 true) w = .ok (.tuple #[v,.bool true]) w:=ta_hit Tryz.underlying102 v w
theorem missVariable (t:Nat) (v:Value) (w:World) (h:t≠102):Sem.run Tryz.prog (Instr.typeAssert (.iface t v) 31 102 true) w = .ok (.tuple #[.pointer none,.bool false]) w:=by
 obtain ⟨i,h1,h2,_,_⟩:=info_parts (show (Tryz.prog.info? 102).map (fun i=>(i.zero,i.size,i.bytes))=some (some (.pointer none),1,8) by kernel_rfl)
 exact ta_miss Tryz.underlying102 h1 h2 h v w
theorem hitBreak (v:Value) (w:World):Sem.run Tryz.prog (Instr.typeAssert (.iface 105 v) 31 105 true) w = .ok (.tuple #[v,.bool true]) w:=ta_hit Tryz.underlying105 v w
theorem missBreak (t:Nat) (v:Value) (w:World) (h:t≠105):Sem.run Tryz.prog (Instr.typeAssert (.iface t v) 31 105 true) w = .ok (.tuple #[.pointer none,.bool false]) w:=by
 obtain ⟨i,h1,h2,_,_⟩:=info_parts (show (Tryz.prog.info? 105).map (fun i=>(i.zero,i.size,i.bytes))=some (some (.pointer none),1,8) by kernel_rfl)
 exact ta_miss Tryz.underlying105 h1 h2 h v w
theorem hitCall (v:Value) (w:World):Sem.run Tryz.prog (Instr.typeAssert (.iface 117 v) 31 117 true) w = .ok (.tuple #[v,.bool true]) w:=ta_hit Tryz.underlying117 v w
theorem missCall (t:Nat) (v:Value) (w:World) (h:t≠117):Sem.run Tryz.prog (Instr.typeAssert (.iface t v) 31 117 true) w = .ok (.tuple #[.pointer none,.bool false]) w:=by
 obtain ⟨i,h1,h2,_,_⟩:=info_parts (show (Tryz.prog.info? 117).map (fun i=>(i.zero,i.size,i.bytes))=some (some (.pointer none),1,8) by kernel_rfl)
 exact ta_miss Tryz.underlying117 h1 h2 h v w
theorem hitField (v:Value) (w:World):Sem.run Tryz.prog (Instr.typeAssert (.iface 108 v) 31 108 true) w = .ok (.tuple #[v,.bool true]) w:=ta_hit Tryz.underlying108 v w
theorem missField (t:Nat) (v:Value) (w:World) (h:t≠108):Sem.run Tryz.prog (Instr.typeAssert (.iface t v) 31 108 true) w = .ok (.tuple #[.pointer none,.bool false]) w:=by
 obtain ⟨i,h1,h2,_,_⟩:=info_parts (show (Tryz.prog.info? 108).map (fun i=>(i.zero,i.size,i.bytes))=some (some (.pointer none),1,8) by kernel_rfl)
 exact ta_miss Tryz.underlying108 h1 h2 h v w
theorem hitIndex (v:Value) (w:World):Sem.run Tryz.prog (Instr.typeAssert (.iface 109 v) 31 109 true) w = .ok (.tuple #[v,.bool true]) w:=ta_hit Tryz.underlying109 v w
theorem missIndex (t:Nat) (v:Value) (w:World) (h:t≠109):Sem.run Tryz.prog (Instr.typeAssert (.iface t v) 31 109 true) w = .ok (.tuple #[.pointer none,.bool false]) w:=by
 obtain ⟨i,h1,h2,_,_⟩:=info_parts (show (Tryz.prog.info? 109).map (fun i=>(i.zero,i.size,i.bytes))=some (some (.pointer none),1,8) by kernel_rfl)
 exact ta_miss Tryz.underlying109 h1 h2 h v w
theorem hitEach (v:Value) (w:World):Sem.run Tryz.prog (Instr.typeAssert (.iface 110 v) 31 110 true) w = .ok (.tuple #[v,.bool true]) w:=ta_hit Tryz.underlying110 v w
theorem missEach (t:Nat) (v:Value) (w:World) (h:t≠110):Sem.run Tryz.prog (Instr.typeAssert (.iface t v) 31 110 true) w = .ok (.tuple #[.pointer none,.bool false]) w:=by
 obtain ⟨i,h1,h2,_,_⟩:=info_parts (show (Tryz.prog.info? 110).map (fun i=>(i.zero,i.size,i.bytes))=some (some (.pointer none),1,8) by kernel_rfl)
 exact ta_miss Tryz.underlying110 h1 h2 h v w
theorem hitOptional (v:Value) (w:World):Sem.run Tryz.prog (Instr.typeAssert (.iface 111 v) 31 111 true) w = .ok (.tuple #[v,.bool true]) w:=ta_hit Tryz.underlying111 v w
theorem missOptional (t:Nat) (v:Value) (w:World) (h:t≠111):Sem.run Tryz.prog (Instr.typeAssert (.iface t v) 31 111 true) w = .ok (.tuple #[.pointer none,.bool false]) w:=by
 obtain ⟨i,h1,h2,_,_⟩:=info_parts (show (Tryz.prog.info? 111).map (fun i=>(i.zero,i.size,i.bytes))=some (some (.pointer none),1,8) by kernel_rfl)
 exact ta_miss Tryz.underlying111 h1 h2 h v w
theorem hitCollect (v:Value) (w:World):Sem.run Tryz.prog (Instr.typeAssert (.iface 112 v) 31 112 true) w = .ok (.tuple #[v,.bool true]) w:=ta_hit Tryz.underlying112 v w
theorem missCollect (t:Nat) (v:Value) (w:World) (h:t≠112):Sem.run Tryz.prog (Instr.typeAssert (.iface t v) 31 112 true) w = .ok (.tuple #[.pointer none,.bool false]) w:=by
 obtain ⟨i,h1,h2,_,_⟩:=info_parts (show (Tryz.prog.info? 112).map (fun i=>(i.zero,i.size,i.bytes))=some (some (.pointer none),1,8) by kernel_rfl)
 exact ta_miss Tryz.underlying112 h1 h2 h v w
theorem hitBuild (v:Value) (w:World):Sem.run Tryz.prog (Instr.typeAssert (.iface 115 v) 31 115 true) w = .ok (.tuple #[v,.bool true]) w:=ta_hit Tryz.underlying115 v w
theorem missBuild (t:Nat) (v:Value) (w:World) (h:t≠115):Sem.run Tryz.prog (Instr.typeAssert (.iface t v) 31 115 true) w = .ok (.tuple #[.pointer none,.bool false]) w:=by
 obtain ⟨i,h1,h2,_,_⟩:=info_parts (show (Tryz.prog.info? 115).map (fun i=>(i.zero,i.size,i.bytes))=some (some (.pointer none),1,8) by kernel_rfl)
 exact ta_miss Tryz.underlying115 h1 h2 h v w
theorem hitBinary (v:Value) (w:World):Sem.run Tryz.prog (Instr.typeAssert (.iface 148 v) 31 148 true) w = .ok (.tuple #[v,.bool true]) w:=ta_hit Tryz.underlying148 v w
theorem missBinary (t:Nat) (v:Value) (w:World) (h:t≠148):Sem.run Tryz.prog (Instr.typeAssert (.iface t v) 31 148 true) w = .ok (.tuple #[.pointer none,.bool false]) w:=by
 obtain ⟨i,h1,h2,_,_⟩:=info_parts (show (Tryz.prog.info? 148).map (fun i=>(i.zero,i.size,i.bytes))=some (some (.pointer none),1,8) by kernel_rfl)
 exact ta_miss Tryz.underlying148 h1 h2 h v w
theorem hitMinus (v:Value) (w:World):Sem.run Tryz.prog (Instr.typeAssert (.iface 170 v) 31 170 true) w = .ok (.tuple #[v,.bool true]) w:=ta_hit Tryz.underlying170 v w
theorem missMinus (t:Nat) (v:Value) (w:World) (h:t≠170):Sem.run Tryz.prog (Instr.typeAssert (.iface t v) 31 170 true) w = .ok (.tuple #[.pointer none,.bool false]) w:=by
 obtain ⟨i,h1,h2,_,_⟩:=info_parts (show (Tryz.prog.info? 170).map (fun i=>(i.zero,i.size,i.bytes))=some (some (.pointer none),1,8) by kernel_rfl)
 exact ta_miss Tryz.underlying170 h1 h2 h v w
theorem hitTry (v:Value) (w:World):Sem.run Tryz.prog (Instr.typeAssert (.iface 178 v) 31 178 true) w = .ok (.tuple #[v,.bool true]) w:=ta_hit Tryz.underlying178 v w
theorem missTry (t:Nat) (v:Value) (w:World) (h:t≠178):Sem.run Tryz.prog (Instr.typeAssert (.iface t v) 31 178 true) w = .ok (.tuple #[.pointer none,.bool false]) w:=by
 obtain ⟨i,h1,h2,_,_⟩:=info_parts (show (Tryz.prog.info? 178).map (fun i=>(i.zero,i.size,i.bytes))=some (some (.pointer none),1,8) by kernel_rfl)
 exact ta_miss Tryz.underlying178 h1 h2 h v w
theorem hitIf (v:Value) (w:World):Sem.run Tryz.prog (Instr.typeAssert (.iface 128 v) 31 128 true) w = .ok (.tuple #[v,.bool true]) w:=ta_hit Tryz.underlying128 v w
theorem missIf (t:Nat) (v:Value) (w:World) (h:t≠128):Sem.run Tryz.prog (Instr.typeAssert (.iface t v) 31 128 true) w = .ok (.tuple #[.pointer none,.bool false]) w:=by
 obtain ⟨i,h1,h2,_,_⟩:=info_parts (show (Tryz.prog.info? 128).map (fun i=>(i.zero,i.size,i.bytes))=some (some (.pointer none),1,8) by kernel_rfl)
 exact ta_miss Tryz.underlying128 h1 h2 h v w
theorem hitBind (v:Value) (w:World):Sem.run Tryz.prog (Instr.typeAssert (.iface 172 v) 31 172 true) w = .ok (.tuple #[v,.bool true]) w:=ta_hit Tryz.underlying172 v w
theorem missBind (t:Nat) (v:Value) (w:World) (h:t≠172):Sem.run Tryz.prog (Instr.typeAssert (.iface t v) 31 172 true) w = .ok (.tuple #[.pointer none,.bool false]) w:=by
 obtain ⟨i,h1,h2,_,_⟩:=info_parts (show (Tryz.prog.info? 172).map (fun i=>(i.zero,i.size,i.bytes))=some (some (.pointer none),1,8) by kernel_rfl)
 exact ta_miss Tryz.underlying172 h1 h2 h v w
theorem hitLabel (v:Value) (w:World):Sem.run Tryz.prog (Instr.typeAssert (.iface 175 v) 31 175 true) w = .ok (.tuple #[v,.bool true]) w:=ta_hit Tryz.underlying175 v w
theorem missLabel (t:Nat) (v:Value) (w:World) (h:t≠175):Sem.run Tryz.prog (Instr.typeAssert (.iface t v) 31 175 true) w = .ok (.tuple #[.pointer none,.bool false]) w:=by
 obtain ⟨i,h1,h2,_,_⟩:=info_parts (show (Tryz.prog.info? 175).map (fun i=>(i.zero,i.size,i.bytes))=some (some (.pointer none),1,8) by kernel_rfl)
 exact ta_miss Tryz.underlying175 h1 h2 h v w
theorem hitReduce (v:Value) (w:World):Sem.run Tryz.prog (Instr.typeAssert (.iface 122 v) 31 122 true) w = .ok (.tuple #[v,.bool true]) w:=ta_hit Tryz.underlying122 v w
theorem missReduce (t:Nat) (v:Value) (w:World) (h:t≠122):Sem.run Tryz.prog (Instr.typeAssert (.iface t v) 31 122 true) w = .ok (.tuple #[.pointer none,.bool false]) w:=by
 obtain ⟨i,h1,h2,_,_⟩:=info_parts (show (Tryz.prog.info? 122).map (fun i=>(i.zero,i.size,i.bytes))=some (some (.pointer none),1,8) by kernel_rfl)
 exact ta_miss Tryz.underlying122 h1 h2 h v w
theorem hitForeach (v:Value) (w:World):Sem.run Tryz.prog (Instr.typeAssert (.iface 125 v) 31 125 true) w = .ok (.tuple #[v,.bool true]) w:=ta_hit Tryz.underlying125 v w
theorem missForeach (t:Nat) (v:Value) (w:World) (h:t≠125):Sem.run Tryz.prog (Instr.typeAssert (.iface t v) 31 125 true) w = .ok (.tuple #[.pointer none,.bool false]) w:=by
 obtain ⟨i,h1,h2,_,_⟩:=info_parts (show (Tryz.prog.info? 125).map (fun i=>(i.zero,i.size,i.bytes))=some (some (.pointer none),1,8) by kernel_rfl)
 exact ta_miss Tryz.underlying125 h1 h2 h v w
theorem hitDef (v:Value) (w:World):Sem.run Tryz.prog (Instr.typeAssert (.iface 138 v) 31 138 true) w = .ok (.tuple #[v,.bool true]) w:=ta_hit Tryz.underlying138 v w
theorem missDef (t:Nat) (v:Value) (w:World) (h:t≠138):Sem.run Tryz.prog (Instr.typeAssert (.iface t v) 31 138 true) w = .ok (.tuple #[.pointer none,.bool false]) w:=by
 obtain ⟨i,h1,h2,_,_⟩:=info_parts (show (Tryz.prog.info? 138).map (fun i=>(i.zero,i.size,i.bytes))=some (some (.pointer none),1,8) by kernel_rfl)
 exact ta_miss Tryz.underlying138 h1 h2 h v w
theorem hitIdentity (v:Value) (w:World):Sem.run Tryz.prog (Instr.typeAssert (.iface 93 v) 31 93 true) w = .ok (.tuple #[v,.bool true]) w:=ta_hit Tryz.underlying93 v w
theorem missIdentity (t:Nat) (v:Value) (w:World) (h:t≠93):Sem.run Tryz.prog (Instr.typeAssert (.iface t v) 31 93 true) w = .ok (.tuple #[.pointer none,.bool false]) w:=by
 obtain ⟨i,h1,h2,_,_⟩:=info_parts (show (Tryz.prog.info? 93).map (fun i=>(i.zero,i.size,i.bytes))=some (some (.pointer none),1,8) by kernel_rfl)
 exact ta_miss Tryz.underlying93 h1 h2 h v w
theorem hitDescent (v:Value) (w:World):Sem.run Tryz.prog (Instr.typeAssert (.iface 95 v) 31 95 true) w = .ok (.tuple #[v,.bool true]) w:=ta_hit Tryz.underlying95 v w
theorem missDescent (t:Nat) (v:Value) (w:World) (h:t≠95):Sem.run Tryz.prog (Instr.typeAssert (.iface t v) 31 95 true) w = .ok (.tuple #[.pointer none,.bool false]) w:=by
 obtain ⟨i,h1,h2,_,_⟩:=info_parts (show (Tryz.prog.info? 95).map (fun i=>(i.zero,i.size,i.bytes))=some (some (.pointer none),1,8) by kernel_rfl)
 exact ta_miss Tryz.underlying95 h1 h2 h v w
theorem hitLiteral (v:Value) (w:World):Sem.run Tryz.prog (Instr.typeAssert (.iface 96 v) 31 96 true) w = .ok (.tuple #[v,.bool true]) w:=ta_hit Tryz.underlying96 v w
theorem missLiteral (t:Nat) (v:Value) (w:World) (h:t≠96):Sem.run Tryz.prog (Instr.typeAssert (.iface t v) 31 96 true) w = .ok (.tuple #[.pointer none,.bool false]) w:=by
 obtain ⟨i,h1,h2,_,_⟩:=info_parts (show (Tryz.prog.info? 96).map (fun i=>(i.zero,i.size,i.bytes))=some (some (.pointer none),1,8) by kernel_rfl)
 exact ta_miss Tryz.underlying96 h1 h2 h v w
end Go.Proofs.Tryz
