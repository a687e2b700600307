import Derived.Test.YtfocepfmpnpaiaaGreatDoorCases
set_option linter.all false
namespace Go.Proofs.Tryz
set_option maxHeartbeats 16000000
open Go.RowKit
set_option maxRecDepth 10000
theorem hitVNull (v:Value) (w:World):Sem.run Tryz.prog (Instr.typeAssert (.iface 196 v) 99 196 true) w = .ok (.tuple #[v,.bool true]) w:=by
 unfold Instr.typeAssert
 simp [Sem.run_bind,run_underlying Tryz.underlying196]
theorem missVNull (t:Nat) (v:Value) (w:World) (h:t≠196):Sem.run Tryz.prog (Instr.typeAssert (.iface t v) 99 196 true) w = .ok (.tuple #[.agg #[],.bool false]) w:=by
 obtain ⟨i,h1,h2,_,_⟩:=info_parts (show (Tryz.prog.info? 196).map (fun i=>(i.zero,i.size,i.bytes))=some (some (.agg #[]),0,0) by kernel_rfl)
 unfold Instr.typeAssert
 simp [Sem.run_bind,run_underlying Tryz.underlying196,h,zeroValue,typeInfo,h1,h2]
theorem hitVBool (v:Value) (w:World):Sem.run Tryz.prog (Instr.typeAssert (.iface 197 v) 99 197 true) w = .ok (.tuple #[v,.bool true]) w:=by
 unfold Instr.typeAssert
 simp [Sem.run_bind,run_underlying Tryz.underlying197]
theorem missVBool (t:Nat) (v:Value) (w:World) (h:t≠197):Sem.run Tryz.prog (Instr.typeAssert (.iface t v) 99 197 true) w = .ok (.tuple #[.bool false,.bool false]) w:=by
 obtain ⟨i,h1,h2,_,_⟩:=info_parts (show (Tryz.prog.info? 197).map (fun i=>(i.zero,i.size,i.bytes))=some (some (.bool false),1,1) by kernel_rfl)
 unfold Instr.typeAssert
 simp [Sem.run_bind,run_underlying Tryz.underlying197,h,zeroValue,typeInfo,h1,h2]
theorem hitVNumber (v:Value) (w:World):Sem.run Tryz.prog (Instr.typeAssert (.iface 199 v) 99 199 true) w = .ok (.tuple #[v,.bool true]) w:=by
 unfold Instr.typeAssert
 simp [Sem.run_bind,run_underlying Tryz.underlying199]
theorem missVNumber (t:Nat) (v:Value) (w:World) (h:t≠199):Sem.run Tryz.prog (Instr.typeAssert (.iface t v) 99 199 true) w = .ok (.tuple #[.int .i64 0,.bool false]) w:=by
 obtain ⟨i,h1,h2,_,_⟩:=info_parts (show (Tryz.prog.info? 199).map (fun i=>(i.zero,i.size,i.bytes))=some (some (.int .i64 0),1,8) by kernel_rfl)
 unfold Instr.typeAssert
 simp [Sem.run_bind,run_underlying Tryz.underlying199,h,zeroValue,typeInfo,h1,h2]
theorem hitVString (v:Value) (w:World):Sem.run Tryz.prog (Instr.typeAssert (.iface 201 v) 99 201 true) w = .ok (.tuple #[v,.bool true]) w:=by
 unfold Instr.typeAssert
 simp [Sem.run_bind,run_underlying Tryz.underlying201]
theorem missVString (t:Nat) (v:Value) (w:World) (h:t≠201):Sem.run Tryz.prog (Instr.typeAssert (.iface t v) 99 201 true) w = .ok (.tuple #[.string ⟨#[]⟩,.bool false]) w:=by
 obtain ⟨i,h1,h2,_,_⟩:=info_parts (show (Tryz.prog.info? 201).map (fun i=>(i.zero,i.size,i.bytes))=some (some (.string ⟨#[]⟩),1,16) by kernel_rfl)
 unfold Instr.typeAssert
 simp [Sem.run_bind,run_underlying Tryz.underlying201,h,zeroValue,typeInfo,h1,h2]
theorem missVArray (t:Nat) (v:Value) (w:World) (h:t≠204):Sem.run Tryz.prog (Instr.typeAssert (.iface t v) 99 204 true) w = .ok (.tuple #[.slice none 0 0,.bool false]) w:=by
 obtain ⟨i,h1,h2,_,_⟩:=info_parts (show (Tryz.prog.info? 204).map (fun i=>(i.zero,i.size,i.bytes))=some (some (.slice none 0 0),1,24) by kernel_rfl)
 unfold Instr.typeAssert
 simp [Sem.run_bind,run_underlying Tryz.underlying204,h,zeroValue,typeInfo,h1,h2]
theorem missVObject (t:Nat) (v:Value) (w:World) (h:t≠206):Sem.run Tryz.prog (Instr.typeAssert (.iface t v) 99 206 true) w = .ok (.tuple #[.slice none 0 0,.bool false]) w:=by
 obtain ⟨i,h1,h2,_,_⟩:=info_parts (show (Tryz.prog.info? 206).map (fun i=>(i.zero,i.size,i.bytes))=some (some (.slice none 0 0),1,24) by kernel_rfl)
 unfold Instr.typeAssert
 simp [Sem.run_bind,run_underlying Tryz.underlying206,h,zeroValue,typeInfo,h1,h2]
end Go.Proofs.Tryz
