import Derived.Test.YthnmpigpigdhfaaGreatDoorToks
import Derived.Deep.AppendLies
set_option linter.all false
namespace Go.Proofs.Tryz
open Go.RowKit
set_option maxRecDepth 10000

/-- A type switch's case that is not met, and one that is. -/
theorem ta_hit {U e X : Nat} (hu : Tryz.prog.underlying U = some (.pointer e)) (v : Value) (w : World) :
    Sem.run Tryz.prog (Instr.typeAssert (.iface U v) X U true) w = .ok (.tuple #[v, .bool true]) w := by
  unfold Instr.typeAssert
  simp [Sem.run_bind, run_underlying hu]
theorem ta_miss {U e X t : Nat} {i : TypeInfo} (hu : Tryz.prog.underlying U = some (.pointer e)) (hi : Tryz.prog.info? U = some i) (hz : i.zero = some (.pointer none)) (h : t ≠ U) (v : Value) (w : World) :
    Sem.run Tryz.prog (Instr.typeAssert (.iface t v) X U true) w = .ok (.tuple #[.pointer none, .bool false]) w := by
  unfold Instr.typeAssert
  simp [Sem.run_bind, run_underlying hu, h, zeroValue, typeInfo, hi, hz]
theorem hitVariable (v : Value) (w : World) : Sem.run Tryz.prog (Instr.typeAssert (.iface 233 v) 32 233 true) w = .ok (.tuple #[v, .bool true]) w := ta_hit Tryz.underlying233 v w
theorem missVariable (t : Nat) (v : Value) (w : World) (h : t ≠ 233) : Sem.run Tryz.prog (Instr.typeAssert (.iface t v) 32 233 true) w = .ok (.tuple #[.pointer none, .bool false]) w := by
  obtain ⟨i, h1, h2, _, _⟩ := info_parts (show (Tryz.prog.info? 233).map (fun i => (i.zero, i.size, i.bytes)) = some (some (.pointer none), 1, 8) by kernel_rfl)
  exact ta_miss Tryz.underlying233 h1 h2 h v w
theorem hitBreak (v : Value) (w : World) : Sem.run Tryz.prog (Instr.typeAssert (.iface 141 v) 32 141 true) w = .ok (.tuple #[v, .bool true]) w := ta_hit Tryz.underlying141 v w
theorem missBreak (t : Nat) (v : Value) (w : World) (h : t ≠ 141) : Sem.run Tryz.prog (Instr.typeAssert (.iface t v) 32 141 true) w = .ok (.tuple #[.pointer none, .bool false]) w := by
  obtain ⟨i, h1, h2, _, _⟩ := info_parts (show (Tryz.prog.info? 141).map (fun i => (i.zero, i.size, i.bytes)) = some (some (.pointer none), 1, 8) by kernel_rfl)
  exact ta_miss Tryz.underlying141 h1 h2 h v w
theorem hitCall (v : Value) (w : World) : Sem.run Tryz.prog (Instr.typeAssert (.iface 160 v) 32 160 true) w = .ok (.tuple #[v, .bool true]) w := ta_hit Tryz.underlying160 v w
theorem missCall (t : Nat) (v : Value) (w : World) (h : t ≠ 160) : Sem.run Tryz.prog (Instr.typeAssert (.iface t v) 32 160 true) w = .ok (.tuple #[.pointer none, .bool false]) w := by
  obtain ⟨i, h1, h2, _, _⟩ := info_parts (show (Tryz.prog.info? 160).map (fun i => (i.zero, i.size, i.bytes)) = some (some (.pointer none), 1, 8) by kernel_rfl)
  exact ta_miss Tryz.underlying160 h1 h2 h v w
theorem hitField (v : Value) (w : World) : Sem.run Tryz.prog (Instr.typeAssert (.iface 118 v) 32 118 true) w = .ok (.tuple #[v, .bool true]) w := ta_hit Tryz.underlying118 v w
theorem missField (t : Nat) (v : Value) (w : World) (h : t ≠ 118) : Sem.run Tryz.prog (Instr.typeAssert (.iface t v) 32 118 true) w = .ok (.tuple #[.pointer none, .bool false]) w := by
  obtain ⟨i, h1, h2, _, _⟩ := info_parts (show (Tryz.prog.info? 118).map (fun i => (i.zero, i.size, i.bytes)) = some (some (.pointer none), 1, 8) by kernel_rfl)
  exact ta_miss Tryz.underlying118 h1 h2 h v w
theorem hitIndex (v : Value) (w : World) : Sem.run Tryz.prog (Instr.typeAssert (.iface 125 v) 32 125 true) w = .ok (.tuple #[v, .bool true]) w := ta_hit Tryz.underlying125 v w
theorem missIndex (t : Nat) (v : Value) (w : World) (h : t ≠ 125) : Sem.run Tryz.prog (Instr.typeAssert (.iface t v) 32 125 true) w = .ok (.tuple #[.pointer none, .bool false]) w := by
  obtain ⟨i, h1, h2, _, _⟩ := info_parts (show (Tryz.prog.info? 125).map (fun i => (i.zero, i.size, i.bytes)) = some (some (.pointer none), 1, 8) by kernel_rfl)
  exact ta_miss Tryz.underlying125 h1 h2 h v w
theorem hitEach (v : Value) (w : World) : Sem.run Tryz.prog (Instr.typeAssert (.iface 130 v) 32 130 true) w = .ok (.tuple #[v, .bool true]) w := ta_hit Tryz.underlying130 v w
theorem missEach (t : Nat) (v : Value) (w : World) (h : t ≠ 130) : Sem.run Tryz.prog (Instr.typeAssert (.iface t v) 32 130 true) w = .ok (.tuple #[.pointer none, .bool false]) w := by
  obtain ⟨i, h1, h2, _, _⟩ := info_parts (show (Tryz.prog.info? 130).map (fun i => (i.zero, i.size, i.bytes)) = some (some (.pointer none), 1, 8) by kernel_rfl)
  exact ta_miss Tryz.underlying130 h1 h2 h v w
theorem hitOptional (v : Value) (w : World) : Sem.run Tryz.prog (Instr.typeAssert (.iface 133 v) 32 133 true) w = .ok (.tuple #[v, .bool true]) w := ta_hit Tryz.underlying133 v w
theorem missOptional (t : Nat) (v : Value) (w : World) (h : t ≠ 133) : Sem.run Tryz.prog (Instr.typeAssert (.iface t v) 32 133 true) w = .ok (.tuple #[.pointer none, .bool false]) w := by
  obtain ⟨i, h1, h2, _, _⟩ := info_parts (show (Tryz.prog.info? 133).map (fun i => (i.zero, i.size, i.bytes)) = some (some (.pointer none), 1, 8) by kernel_rfl)
  exact ta_miss Tryz.underlying133 h1 h2 h v w
theorem hitCollect (v : Value) (w : World) : Sem.run Tryz.prog (Instr.typeAssert (.iface 236 v) 32 236 true) w = .ok (.tuple #[v, .bool true]) w := ta_hit Tryz.underlying236 v w
theorem missCollect (t : Nat) (v : Value) (w : World) (h : t ≠ 236) : Sem.run Tryz.prog (Instr.typeAssert (.iface t v) 32 236 true) w = .ok (.tuple #[.pointer none, .bool false]) w := by
  obtain ⟨i, h1, h2, _, _⟩ := info_parts (show (Tryz.prog.info? 236).map (fun i => (i.zero, i.size, i.bytes)) = some (some (.pointer none), 1, 8) by kernel_rfl)
  exact ta_miss Tryz.underlying236 h1 h2 h v w
theorem hitBuild (v : Value) (w : World) : Sem.run Tryz.prog (Instr.typeAssert (.iface 240 v) 32 240 true) w = .ok (.tuple #[v, .bool true]) w := ta_hit Tryz.underlying240 v w
theorem missBuild (t : Nat) (v : Value) (w : World) (h : t ≠ 240) : Sem.run Tryz.prog (Instr.typeAssert (.iface t v) 32 240 true) w = .ok (.tuple #[.pointer none, .bool false]) w := by
  obtain ⟨i, h1, h2, _, _⟩ := info_parts (show (Tryz.prog.info? 240).map (fun i => (i.zero, i.size, i.bytes)) = some (some (.pointer none), 1, 8) by kernel_rfl)
  exact ta_miss Tryz.underlying240 h1 h2 h v w
theorem hitBinary (v : Value) (w : World) : Sem.run Tryz.prog (Instr.typeAssert (.iface 162 v) 32 162 true) w = .ok (.tuple #[v, .bool true]) w := ta_hit Tryz.underlying162 v w
theorem missBinary (t : Nat) (v : Value) (w : World) (h : t ≠ 162) : Sem.run Tryz.prog (Instr.typeAssert (.iface t v) 32 162 true) w = .ok (.tuple #[.pointer none, .bool false]) w := by
  obtain ⟨i, h1, h2, _, _⟩ := info_parts (show (Tryz.prog.info? 162).map (fun i => (i.zero, i.size, i.bytes)) = some (some (.pointer none), 1, 8) by kernel_rfl)
  exact ta_miss Tryz.underlying162 h1 h2 h v w
theorem hitMinus (v : Value) (w : World) : Sem.run Tryz.prog (Instr.typeAssert (.iface 245 v) 32 245 true) w = .ok (.tuple #[v, .bool true]) w := ta_hit Tryz.underlying245 v w
theorem missMinus (t : Nat) (v : Value) (w : World) (h : t ≠ 245) : Sem.run Tryz.prog (Instr.typeAssert (.iface t v) 32 245 true) w = .ok (.tuple #[.pointer none, .bool false]) w := by
  obtain ⟨i, h1, h2, _, _⟩ := info_parts (show (Tryz.prog.info? 245).map (fun i => (i.zero, i.size, i.bytes)) = some (some (.pointer none), 1, 8) by kernel_rfl)
  exact ta_miss Tryz.underlying245 h1 h2 h v w
theorem hitTry (v : Value) (w : World) : Sem.run Tryz.prog (Instr.typeAssert (.iface 136 v) 32 136 true) w = .ok (.tuple #[v, .bool true]) w := ta_hit Tryz.underlying136 v w
theorem missTry (t : Nat) (v : Value) (w : World) (h : t ≠ 136) : Sem.run Tryz.prog (Instr.typeAssert (.iface t v) 32 136 true) w = .ok (.tuple #[.pointer none, .bool false]) w := by
  obtain ⟨i, h1, h2, _, _⟩ := info_parts (show (Tryz.prog.info? 136).map (fun i => (i.zero, i.size, i.bytes)) = some (some (.pointer none), 1, 8) by kernel_rfl)
  exact ta_miss Tryz.underlying136 h1 h2 h v w
theorem hitIf (v : Value) (w : World) : Sem.run Tryz.prog (Instr.typeAssert (.iface 149 v) 32 149 true) w = .ok (.tuple #[v, .bool true]) w := ta_hit Tryz.underlying149 v w
theorem missIf (t : Nat) (v : Value) (w : World) (h : t ≠ 149) : Sem.run Tryz.prog (Instr.typeAssert (.iface t v) 32 149 true) w = .ok (.tuple #[.pointer none, .bool false]) w := by
  obtain ⟨i, h1, h2, _, _⟩ := info_parts (show (Tryz.prog.info? 149).map (fun i => (i.zero, i.size, i.bytes)) = some (some (.pointer none), 1, 8) by kernel_rfl)
  exact ta_miss Tryz.underlying149 h1 h2 h v w
theorem hitBind (v : Value) (w : World) : Sem.run Tryz.prog (Instr.typeAssert (.iface 151 v) 32 151 true) w = .ok (.tuple #[v, .bool true]) w := ta_hit Tryz.underlying151 v w
theorem missBind (t : Nat) (v : Value) (w : World) (h : t ≠ 151) : Sem.run Tryz.prog (Instr.typeAssert (.iface t v) 32 151 true) w = .ok (.tuple #[.pointer none, .bool false]) w := by
  obtain ⟨i, h1, h2, _, _⟩ := info_parts (show (Tryz.prog.info? 151).map (fun i => (i.zero, i.size, i.bytes)) = some (some (.pointer none), 1, 8) by kernel_rfl)
  exact ta_miss Tryz.underlying151 h1 h2 h v w
theorem hitLabel (v : Value) (w : World) : Sem.run Tryz.prog (Instr.typeAssert (.iface 139 v) 32 139 true) w = .ok (.tuple #[v, .bool true]) w := ta_hit Tryz.underlying139 v w
theorem missLabel (t : Nat) (v : Value) (w : World) (h : t ≠ 139) : Sem.run Tryz.prog (Instr.typeAssert (.iface t v) 32 139 true) w = .ok (.tuple #[.pointer none, .bool false]) w := by
  obtain ⟨i, h1, h2, _, _⟩ := info_parts (show (Tryz.prog.info? 139).map (fun i => (i.zero, i.size, i.bytes)) = some (some (.pointer none), 1, 8) by kernel_rfl)
  exact ta_miss Tryz.underlying139 h1 h2 h v w
theorem hitReduce (v : Value) (w : World) : Sem.run Tryz.prog (Instr.typeAssert (.iface 155 v) 32 155 true) w = .ok (.tuple #[v, .bool true]) w := ta_hit Tryz.underlying155 v w
theorem missReduce (t : Nat) (v : Value) (w : World) (h : t ≠ 155) : Sem.run Tryz.prog (Instr.typeAssert (.iface t v) 32 155 true) w = .ok (.tuple #[.pointer none, .bool false]) w := by
  obtain ⟨i, h1, h2, _, _⟩ := info_parts (show (Tryz.prog.info? 155).map (fun i => (i.zero, i.size, i.bytes)) = some (some (.pointer none), 1, 8) by kernel_rfl)
  exact ta_miss Tryz.underlying155 h1 h2 h v w
theorem hitForeach (v : Value) (w : World) : Sem.run Tryz.prog (Instr.typeAssert (.iface 157 v) 32 157 true) w = .ok (.tuple #[v, .bool true]) w := ta_hit Tryz.underlying157 v w
theorem missForeach (t : Nat) (v : Value) (w : World) (h : t ≠ 157) : Sem.run Tryz.prog (Instr.typeAssert (.iface t v) 32 157 true) w = .ok (.tuple #[.pointer none, .bool false]) w := by
  obtain ⟨i, h1, h2, _, _⟩ := info_parts (show (Tryz.prog.info? 157).map (fun i => (i.zero, i.size, i.bytes)) = some (some (.pointer none), 1, 8) by kernel_rfl)
  exact ta_miss Tryz.underlying157 h1 h2 h v w
theorem hitDef (v : Value) (w : World) : Sem.run Tryz.prog (Instr.typeAssert (.iface 110 v) 32 110 true) w = .ok (.tuple #[v, .bool true]) w := ta_hit Tryz.underlying110 v w
theorem missDef (t : Nat) (v : Value) (w : World) (h : t ≠ 110) : Sem.run Tryz.prog (Instr.typeAssert (.iface t v) 32 110 true) w = .ok (.tuple #[.pointer none, .bool false]) w := by
  obtain ⟨i, h1, h2, _, _⟩ := info_parts (show (Tryz.prog.info? 110).map (fun i => (i.zero, i.size, i.bytes)) = some (some (.pointer none), 1, 8) by kernel_rfl)
  exact ta_miss Tryz.underlying110 h1 h2 h v w
theorem hitIdentity (v : Value) (w : World) : Sem.run Tryz.prog (Instr.typeAssert (.iface 115 v) 32 115 true) w = .ok (.tuple #[v, .bool true]) w := ta_hit Tryz.underlying115 v w
theorem missIdentity (t : Nat) (v : Value) (w : World) (h : t ≠ 115) : Sem.run Tryz.prog (Instr.typeAssert (.iface t v) 32 115 true) w = .ok (.tuple #[.pointer none, .bool false]) w := by
  obtain ⟨i, h1, h2, _, _⟩ := info_parts (show (Tryz.prog.info? 115).map (fun i => (i.zero, i.size, i.bytes)) = some (some (.pointer none), 1, 8) by kernel_rfl)
  exact ta_miss Tryz.underlying115 h1 h2 h v w
theorem hitDescent (v : Value) (w : World) : Sem.run Tryz.prog (Instr.typeAssert (.iface 117 v) 32 117 true) w = .ok (.tuple #[v, .bool true]) w := ta_hit Tryz.underlying117 v w
theorem missDescent (t : Nat) (v : Value) (w : World) (h : t ≠ 117) : Sem.run Tryz.prog (Instr.typeAssert (.iface t v) 32 117 true) w = .ok (.tuple #[.pointer none, .bool false]) w := by
  obtain ⟨i, h1, h2, _, _⟩ := info_parts (show (Tryz.prog.info? 117).map (fun i => (i.zero, i.size, i.bytes)) = some (some (.pointer none), 1, 8) by kernel_rfl)
  exact ta_miss Tryz.underlying117 h1 h2 h v w
theorem hitLiteral (v : Value) (w : World) : Sem.run Tryz.prog (Instr.typeAssert (.iface 230 v) 32 230 true) w = .ok (.tuple #[v, .bool true]) w := ta_hit Tryz.underlying230 v w
theorem missLiteral (t : Nat) (v : Value) (w : World) (h : t ≠ 230) : Sem.run Tryz.prog (Instr.typeAssert (.iface t v) 32 230 true) w = .ok (.tuple #[.pointer none, .bool false]) w := by
  obtain ⟨i, h1, h2, _, _⟩ := info_parts (show (Tryz.prog.info? 230).map (fun i => (i.zero, i.size, i.bytes)) = some (some (.pointer none), 1, 8) by kernel_rfl)
  exact ta_miss Tryz.underlying230 h1 h2 h v w
end Go.Proofs.Tryz

