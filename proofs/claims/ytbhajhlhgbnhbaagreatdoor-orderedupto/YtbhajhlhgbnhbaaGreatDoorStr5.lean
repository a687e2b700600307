import Derived.Test.YtbhajhlhgbnhbaaGreatDoorTree
import Derived.Deep.AppendLies
import Derived.Defers
import Derived.Recover
import Derived.OneCell
import Derived.Shelf.Abstract
import Derived.WalkMore
import Derived.Laws.EntriesVeiled
set_option linter.all false
namespace Go.Proofs.Tryz
set_option maxHeartbeats 16000000
open Go.RowKit
set_option maxRecDepth 10000
theorem ta_hit {U e X:Nat} (hu:Tryz.prog.underlying U=some (.pointer e)) (v:Value) (w:World) :
  Sem.run Tryz.prog (Instr.typeAssert (.iface U v) X U true) w = .ok (.tuple #[v,.bool true]) w:=by
 unfold Instr.typeAssert
 simp [Sem.run_bind,run_underlying hu]
theorem ta_miss {U e X t:Nat}{i:TypeInfo} (hu:Tryz.prog.underlying U=some (.pointer e)) (hi:Tryz.prog.info? U=some i) (hz:i.zero=some (.pointer none)) (h:t≠U) (v:Value) (w:World) :
  Sem.run Tryz.prog (Instr.typeAssert (.iface t v) X U true) w = .ok (.tuple #[.pointer none,.bool false]) w:=by
 unfold Instr.typeAssert
 simp [Sem.run_bind,run_underlying hu,h,zeroValue,typeInfo,hi,hz]
theorem hitVariable (v:Value) (w:World):Sem.run Tryz.prog (Instr.typeAssert (.iface 227 v) 37 227 true) w = .ok (.tuple #[v,.bool true]) w:=ta_hit Tryz.underlying227 v w
theorem missVariable (t:Nat) (v:Value) (w:World) (h:t≠227):Sem.run Tryz.prog (Instr.typeAssert (.iface t v) 37 227 true) w = .ok (.tuple #[.pointer none,.bool false]) w:=by
 obtain ⟨i,h1,h2,_,_⟩:=info_parts (show (Tryz.prog.info? 227).map (fun i=>(i.zero,i.size,i.bytes))=some (some (.pointer none),1,8) by kernel_rfl)
 exact ta_miss Tryz.underlying227 h1 h2 h v w
theorem missBreak (t:Nat) (v:Value) (w:World) (h:t≠150):Sem.run Tryz.prog (Instr.typeAssert (.iface t v) 37 150 true) w = .ok (.tuple #[.pointer none,.bool false]) w:=by
 obtain ⟨i,h1,h2,_,_⟩:=info_parts (show (Tryz.prog.info? 150).map (fun i=>(i.zero,i.size,i.bytes))=some (some (.pointer none),1,8) by kernel_rfl)
 exact ta_miss Tryz.underlying150 h1 h2 h v w
theorem hitCall (v:Value) (w:World):Sem.run Tryz.prog (Instr.typeAssert (.iface 169 v) 37 169 true) w = .ok (.tuple #[v,.bool true]) w:=ta_hit Tryz.underlying169 v w
theorem missCall (t:Nat) (v:Value) (w:World) (h:t≠169):Sem.run Tryz.prog (Instr.typeAssert (.iface t v) 37 169 true) w = .ok (.tuple #[.pointer none,.bool false]) w:=by
 obtain ⟨i,h1,h2,_,_⟩:=info_parts (show (Tryz.prog.info? 169).map (fun i=>(i.zero,i.size,i.bytes))=some (some (.pointer none),1,8) by kernel_rfl)
 exact ta_miss Tryz.underlying169 h1 h2 h v w
theorem missField (t:Nat) (v:Value) (w:World) (h:t≠128):Sem.run Tryz.prog (Instr.typeAssert (.iface t v) 37 128 true) w = .ok (.tuple #[.pointer none,.bool false]) w:=by
 obtain ⟨i,h1,h2,_,_⟩:=info_parts (show (Tryz.prog.info? 128).map (fun i=>(i.zero,i.size,i.bytes))=some (some (.pointer none),1,8) by kernel_rfl)
 exact ta_miss Tryz.underlying128 h1 h2 h v w
theorem hitIndex (v:Value) (w:World):Sem.run Tryz.prog (Instr.typeAssert (.iface 134 v) 37 134 true) w = .ok (.tuple #[v,.bool true]) w:=ta_hit Tryz.underlying134 v w
theorem missIndex (t:Nat) (v:Value) (w:World) (h:t≠134):Sem.run Tryz.prog (Instr.typeAssert (.iface t v) 37 134 true) w = .ok (.tuple #[.pointer none,.bool false]) w:=by
 obtain ⟨i,h1,h2,_,_⟩:=info_parts (show (Tryz.prog.info? 134).map (fun i=>(i.zero,i.size,i.bytes))=some (some (.pointer none),1,8) by kernel_rfl)
 exact ta_miss Tryz.underlying134 h1 h2 h v w
theorem hitEach (v:Value) (w:World):Sem.run Tryz.prog (Instr.typeAssert (.iface 139 v) 37 139 true) w = .ok (.tuple #[v,.bool true]) w:=ta_hit Tryz.underlying139 v w
theorem missEach (t:Nat) (v:Value) (w:World) (h:t≠139):Sem.run Tryz.prog (Instr.typeAssert (.iface t v) 37 139 true) w = .ok (.tuple #[.pointer none,.bool false]) w:=by
 obtain ⟨i,h1,h2,_,_⟩:=info_parts (show (Tryz.prog.info? 139).map (fun i=>(i.zero,i.size,i.bytes))=some (some (.pointer none),1,8) by kernel_rfl)
 exact ta_miss Tryz.underlying139 h1 h2 h v w
theorem missOptional (t:Nat) (v:Value) (w:World) (h:t≠142):Sem.run Tryz.prog (Instr.typeAssert (.iface t v) 37 142 true) w = .ok (.tuple #[.pointer none,.bool false]) w:=by
 obtain ⟨i,h1,h2,_,_⟩:=info_parts (show (Tryz.prog.info? 142).map (fun i=>(i.zero,i.size,i.bytes))=some (some (.pointer none),1,8) by kernel_rfl)
 exact ta_miss Tryz.underlying142 h1 h2 h v w
theorem hitCollect (v:Value) (w:World):Sem.run Tryz.prog (Instr.typeAssert (.iface 230 v) 37 230 true) w = .ok (.tuple #[v,.bool true]) w:=ta_hit Tryz.underlying230 v w
theorem missCollect (t:Nat) (v:Value) (w:World) (h:t≠230):Sem.run Tryz.prog (Instr.typeAssert (.iface t v) 37 230 true) w = .ok (.tuple #[.pointer none,.bool false]) w:=by
 obtain ⟨i,h1,h2,_,_⟩:=info_parts (show (Tryz.prog.info? 230).map (fun i=>(i.zero,i.size,i.bytes))=some (some (.pointer none),1,8) by kernel_rfl)
 exact ta_miss Tryz.underlying230 h1 h2 h v w
theorem missBuild (t:Nat) (v:Value) (w:World) (h:t≠234):Sem.run Tryz.prog (Instr.typeAssert (.iface t v) 37 234 true) w = .ok (.tuple #[.pointer none,.bool false]) w:=by
 obtain ⟨i,h1,h2,_,_⟩:=info_parts (show (Tryz.prog.info? 234).map (fun i=>(i.zero,i.size,i.bytes))=some (some (.pointer none),1,8) by kernel_rfl)
 exact ta_miss Tryz.underlying234 h1 h2 h v w
theorem hitBinary (v:Value) (w:World):Sem.run Tryz.prog (Instr.typeAssert (.iface 171 v) 37 171 true) w = .ok (.tuple #[v,.bool true]) w:=ta_hit Tryz.underlying171 v w
theorem missBinary (t:Nat) (v:Value) (w:World) (h:t≠171):Sem.run Tryz.prog (Instr.typeAssert (.iface t v) 37 171 true) w = .ok (.tuple #[.pointer none,.bool false]) w:=by
 obtain ⟨i,h1,h2,_,_⟩:=info_parts (show (Tryz.prog.info? 171).map (fun i=>(i.zero,i.size,i.bytes))=some (some (.pointer none),1,8) by kernel_rfl)
 exact ta_miss Tryz.underlying171 h1 h2 h v w
theorem missMinus (t:Nat) (v:Value) (w:World) (h:t≠239):Sem.run Tryz.prog (Instr.typeAssert (.iface t v) 37 239 true) w = .ok (.tuple #[.pointer none,.bool false]) w:=by
 obtain ⟨i,h1,h2,_,_⟩:=info_parts (show (Tryz.prog.info? 239).map (fun i=>(i.zero,i.size,i.bytes))=some (some (.pointer none),1,8) by kernel_rfl)
 exact ta_miss Tryz.underlying239 h1 h2 h v w
theorem hitTry (v:Value) (w:World):Sem.run Tryz.prog (Instr.typeAssert (.iface 145 v) 37 145 true) w = .ok (.tuple #[v,.bool true]) w:=ta_hit Tryz.underlying145 v w
theorem missTry (t:Nat) (v:Value) (w:World) (h:t≠145):Sem.run Tryz.prog (Instr.typeAssert (.iface t v) 37 145 true) w = .ok (.tuple #[.pointer none,.bool false]) w:=by
 obtain ⟨i,h1,h2,_,_⟩:=info_parts (show (Tryz.prog.info? 145).map (fun i=>(i.zero,i.size,i.bytes))=some (some (.pointer none),1,8) by kernel_rfl)
 exact ta_miss Tryz.underlying145 h1 h2 h v w
theorem hitIf (v:Value) (w:World):Sem.run Tryz.prog (Instr.typeAssert (.iface 158 v) 37 158 true) w = .ok (.tuple #[v,.bool true]) w:=ta_hit Tryz.underlying158 v w
theorem missIf (t:Nat) (v:Value) (w:World) (h:t≠158):Sem.run Tryz.prog (Instr.typeAssert (.iface t v) 37 158 true) w = .ok (.tuple #[.pointer none,.bool false]) w:=by
 obtain ⟨i,h1,h2,_,_⟩:=info_parts (show (Tryz.prog.info? 158).map (fun i=>(i.zero,i.size,i.bytes))=some (some (.pointer none),1,8) by kernel_rfl)
 exact ta_miss Tryz.underlying158 h1 h2 h v w
theorem hitBind (v:Value) (w:World):Sem.run Tryz.prog (Instr.typeAssert (.iface 160 v) 37 160 true) w = .ok (.tuple #[v,.bool true]) w:=ta_hit Tryz.underlying160 v w
theorem missBind (t:Nat) (v:Value) (w:World) (h:t≠160):Sem.run Tryz.prog (Instr.typeAssert (.iface t v) 37 160 true) w = .ok (.tuple #[.pointer none,.bool false]) w:=by
 obtain ⟨i,h1,h2,_,_⟩:=info_parts (show (Tryz.prog.info? 160).map (fun i=>(i.zero,i.size,i.bytes))=some (some (.pointer none),1,8) by kernel_rfl)
 exact ta_miss Tryz.underlying160 h1 h2 h v w
theorem missLabel (t:Nat) (v:Value) (w:World) (h:t≠148):Sem.run Tryz.prog (Instr.typeAssert (.iface t v) 37 148 true) w = .ok (.tuple #[.pointer none,.bool false]) w:=by
 obtain ⟨i,h1,h2,_,_⟩:=info_parts (show (Tryz.prog.info? 148).map (fun i=>(i.zero,i.size,i.bytes))=some (some (.pointer none),1,8) by kernel_rfl)
 exact ta_miss Tryz.underlying148 h1 h2 h v w
theorem hitReduce (v:Value) (w:World):Sem.run Tryz.prog (Instr.typeAssert (.iface 164 v) 37 164 true) w = .ok (.tuple #[v,.bool true]) w:=ta_hit Tryz.underlying164 v w
theorem missReduce (t:Nat) (v:Value) (w:World) (h:t≠164):Sem.run Tryz.prog (Instr.typeAssert (.iface t v) 37 164 true) w = .ok (.tuple #[.pointer none,.bool false]) w:=by
 obtain ⟨i,h1,h2,_,_⟩:=info_parts (show (Tryz.prog.info? 164).map (fun i=>(i.zero,i.size,i.bytes))=some (some (.pointer none),1,8) by kernel_rfl)
 exact ta_miss Tryz.underlying164 h1 h2 h v w
theorem missForeach (t:Nat) (v:Value) (w:World) (h:t≠166):Sem.run Tryz.prog (Instr.typeAssert (.iface t v) 37 166 true) w = .ok (.tuple #[.pointer none,.bool false]) w:=by
 obtain ⟨i,h1,h2,_,_⟩:=info_parts (show (Tryz.prog.info? 166).map (fun i=>(i.zero,i.size,i.bytes))=some (some (.pointer none),1,8) by kernel_rfl)
 exact ta_miss Tryz.underlying166 h1 h2 h v w
theorem hitDef (v:Value) (w:World):Sem.run Tryz.prog (Instr.typeAssert (.iface 120 v) 37 120 true) w = .ok (.tuple #[v,.bool true]) w:=ta_hit Tryz.underlying120 v w
theorem missDef (t:Nat) (v:Value) (w:World) (h:t≠120):Sem.run Tryz.prog (Instr.typeAssert (.iface t v) 37 120 true) w = .ok (.tuple #[.pointer none,.bool false]) w:=by
 obtain ⟨i,h1,h2,_,_⟩:=info_parts (show (Tryz.prog.info? 120).map (fun i=>(i.zero,i.size,i.bytes))=some (some (.pointer none),1,8) by kernel_rfl)
 exact ta_miss Tryz.underlying120 h1 h2 h v w
theorem hitIdentity (v:Value) (w:World):Sem.run Tryz.prog (Instr.typeAssert (.iface 125 v) 37 125 true) w = .ok (.tuple #[v,.bool true]) w:=ta_hit Tryz.underlying125 v w
theorem missIdentity (t:Nat) (v:Value) (w:World) (h:t≠125):Sem.run Tryz.prog (Instr.typeAssert (.iface t v) 37 125 true) w = .ok (.tuple #[.pointer none,.bool false]) w:=by
 obtain ⟨i,h1,h2,_,_⟩:=info_parts (show (Tryz.prog.info? 125).map (fun i=>(i.zero,i.size,i.bytes))=some (some (.pointer none),1,8) by kernel_rfl)
 exact ta_miss Tryz.underlying125 h1 h2 h v w
theorem missDescent (t:Nat) (v:Value) (w:World) (h:t≠127):Sem.run Tryz.prog (Instr.typeAssert (.iface t v) 37 127 true) w = .ok (.tuple #[.pointer none,.bool false]) w:=by
 obtain ⟨i,h1,h2,_,_⟩:=info_parts (show (Tryz.prog.info? 127).map (fun i=>(i.zero,i.size,i.bytes))=some (some (.pointer none),1,8) by kernel_rfl)
 exact ta_miss Tryz.underlying127 h1 h2 h v w
theorem hitLiteral (v:Value) (w:World):Sem.run Tryz.prog (Instr.typeAssert (.iface 224 v) 37 224 true) w = .ok (.tuple #[v,.bool true]) w:=ta_hit Tryz.underlying224 v w
theorem missLiteral (t:Nat) (v:Value) (w:World) (h:t≠224):Sem.run Tryz.prog (Instr.typeAssert (.iface t v) 37 224 true) w = .ok (.tuple #[.pointer none,.bool false]) w:=by
 obtain ⟨i,h1,h2,_,_⟩:=info_parts (show (Tryz.prog.info? 224).map (fun i=>(i.zero,i.size,i.bytes))=some (some (.pointer none),1,8) by kernel_rfl)
 exact ta_miss Tryz.underlying224 h1 h2 h v w
theorem hitVNull (v:Value) (w:World):Sem.run Tryz.prog (Instr.typeAssert (.iface 95 v) 32 95 true) w = .ok (.tuple #[v,.bool true]) w:=by
 unfold Instr.typeAssert
 simp [Sem.run_bind,run_underlying Tryz.underlying95]
theorem missVNull (t:Nat) (v:Value) (w:World) (h:t≠95):Sem.run Tryz.prog (Instr.typeAssert (.iface t v) 32 95 true) w = .ok (.tuple #[.agg #[],.bool false]) w:=by
 obtain ⟨i,h1,h2,_,_⟩:=info_parts (show (Tryz.prog.info? 95).map (fun i=>(i.zero,i.size,i.bytes))=some (some (.agg #[]),0,0) by kernel_rfl)
 unfold Instr.typeAssert
 simp [Sem.run_bind,run_underlying Tryz.underlying95,h,zeroValue,typeInfo,h1,h2]
theorem hitVBool (v:Value) (w:World):Sem.run Tryz.prog (Instr.typeAssert (.iface 96 v) 32 96 true) w = .ok (.tuple #[v,.bool true]) w:=by
 unfold Instr.typeAssert
 simp [Sem.run_bind,run_underlying Tryz.underlying96]
theorem missVBool (t:Nat) (v:Value) (w:World) (h:t≠96):Sem.run Tryz.prog (Instr.typeAssert (.iface t v) 32 96 true) w = .ok (.tuple #[.bool false,.bool false]) w:=by
 obtain ⟨i,h1,h2,_,_⟩:=info_parts (show (Tryz.prog.info? 96).map (fun i=>(i.zero,i.size,i.bytes))=some (some (.bool false),1,1) by kernel_rfl)
 unfold Instr.typeAssert
 simp [Sem.run_bind,run_underlying Tryz.underlying96,h,zeroValue,typeInfo,h1,h2]
theorem hitVNumber (v:Value) (w:World):Sem.run Tryz.prog (Instr.typeAssert (.iface 98 v) 32 98 true) w = .ok (.tuple #[v,.bool true]) w:=by
 unfold Instr.typeAssert
 simp [Sem.run_bind,run_underlying Tryz.underlying98]
theorem missVNumber (t:Nat) (v:Value) (w:World) (h:t≠98):Sem.run Tryz.prog (Instr.typeAssert (.iface t v) 32 98 true) w = .ok (.tuple #[.int .i64 0,.bool false]) w:=by
 obtain ⟨i,h1,h2,_,_⟩:=info_parts (show (Tryz.prog.info? 98).map (fun i=>(i.zero,i.size,i.bytes))=some (some (.int .i64 0),1,8) by kernel_rfl)
 unfold Instr.typeAssert
 simp [Sem.run_bind,run_underlying Tryz.underlying98,h,zeroValue,typeInfo,h1,h2]
theorem hitVString (v:Value) (w:World):Sem.run Tryz.prog (Instr.typeAssert (.iface 100 v) 32 100 true) w = .ok (.tuple #[v,.bool true]) w:=by
 unfold Instr.typeAssert
 simp [Sem.run_bind,run_underlying Tryz.underlying100]
theorem missVString (t:Nat) (v:Value) (w:World) (h:t≠100):Sem.run Tryz.prog (Instr.typeAssert (.iface t v) 32 100 true) w = .ok (.tuple #[.string ⟨#[]⟩,.bool false]) w:=by
 obtain ⟨i,h1,h2,_,_⟩:=info_parts (show (Tryz.prog.info? 100).map (fun i=>(i.zero,i.size,i.bytes))=some (some (.string ⟨#[]⟩),1,16) by kernel_rfl)
 unfold Instr.typeAssert
 simp [Sem.run_bind,run_underlying Tryz.underlying100,h,zeroValue,typeInfo,h1,h2]
theorem hitVArray (v:Value) (w:World):Sem.run Tryz.prog (Instr.typeAssert (.iface 86 v) 32 86 true) w = .ok (.tuple #[v,.bool true]) w:=by
 unfold Instr.typeAssert
 simp [Sem.run_bind,run_underlying Tryz.underlying86]
theorem missVArray (t:Nat) (v:Value) (w:World) (h:t≠86):Sem.run Tryz.prog (Instr.typeAssert (.iface t v) 32 86 true) w = .ok (.tuple #[.slice none 0 0,.bool false]) w:=by
 obtain ⟨i,h1,h2,_,_⟩:=info_parts (show (Tryz.prog.info? 86).map (fun i=>(i.zero,i.size,i.bytes))=some (some (.slice none 0 0),1,24) by kernel_rfl)
 unfold Instr.typeAssert
 simp [Sem.run_bind,run_underlying Tryz.underlying86,h,zeroValue,typeInfo,h1,h2]
theorem hitVObject (v:Value) (w:World):Sem.run Tryz.prog (Instr.typeAssert (.iface 102 v) 32 102 true) w = .ok (.tuple #[v,.bool true]) w:=by
 unfold Instr.typeAssert
 simp [Sem.run_bind,run_underlying Tryz.underlying102]
theorem missVObject (t:Nat) (v:Value) (w:World) (h:t≠102):Sem.run Tryz.prog (Instr.typeAssert (.iface t v) 32 102 true) w = .ok (.tuple #[.slice none 0 0,.bool false]) w:=by
 obtain ⟨i,h1,h2,_,_⟩:=info_parts (show (Tryz.prog.info? 102).map (fun i=>(i.zero,i.size,i.bytes))=some (some (.slice none 0 0),1,24) by kernel_rfl)
 unfold Instr.typeAssert
 simp [Sem.run_bind,run_underlying Tryz.underlying102,h,zeroValue,typeInfo,h1,h2]
structure Fr (D:Nat→Prop) (w w':World):Prop where
 os:w'.os=w.os
 tape:w'.tape=w.tape
 output:w'.output=w.output
 size:w.heap.size≤w'.heap.size
 block:∀ k,k < w.heap.size→¬ D k→w'.heap[k]? = w.heap[k]?
theorem Fr.refl (D:Nat→Prop) (w:World):Fr D w w:=⟨rfl,rfl,rfl,Nat.le_refl _,fun _ _ _=>rfl⟩
theorem Fr.trans {D E:Nat→Prop}{a b c:World} (h:Fr D a b) (k:Fr E b c) (s:∀ i,i < a.heap.size→E i→D i):Fr D a c :=
 ⟨k.os.trans h.os,k.tape.trans h.tape,k.output.trans h.output,Nat.le_trans h.size k.size,
  fun i hi hd=>(k.block i (Nat.lt_of_lt_of_le hi h.size) (fun e=>hd (s i hi e))).trans (h.block i hi hd)⟩
theorem Fr.mono {D E:Nat→Prop}{a b:World} (h:Fr D a b) (s:∀ i,D i→E i):Fr E a b :=
 ⟨h.os,h.tape,h.output,h.size,fun i hi hd=>h.block i hi (fun e=>hd (s i e))⟩
theorem Fr.of_below {D:Nat→Prop}{w w':World} (h:Below w.heap.size w w'):Fr D w w' :=
 ⟨h.os,h.tape,h.output,h.size,fun k hk _=>h.block k hk⟩
theorem Fr.alloc {D:Nat→Prop}{a w:World} (h:Fr D a w) (o:Obj):Fr D a (w.alloc o) :=
 h.trans (E:=D) (.of_below ((Below.refl _ _).alloc (Nat.le_refl _) _)) (fun _ _ e=>e)
theorem Fr.setCell {D:Nat→Prop}{a w:World} (h:Fr D a w) {b o:Nat} (u:Value) (hp:D b∨a.heap.size≤b):Fr D a (w.setCell ⟨b,o,none⟩ u) :=
 ⟨h.os,h.tape,h.output,by have:=h.size;simpa using this,fun k hk hd=>by
  rw [Below.heap_setCell _ _ _ _ (by
   rcases hp with hp | hp
   ·intro e;simp at e;subst e;exact hd hp
   ·intro e;simp at e;omega)]
  exact h.block k hk hd⟩
theorem Fr.drewN {D:Nat→Prop}{a w:World} (h:Fr D a w) (n:Nat):Fr D a (w.drewN n):=⟨h.os,h.tape,h.output,h.size,h.block⟩
def Box (w:World) (b:Nat) (v:Value) (T:Nat):Prop:=w.heap[b]? = some (.cells #[v] T (0,0))
def SpotBox (w:World) (b:Nat) (v:Value):Prop:=w.heap[b]? = some (.cells #[v,.pointer none] 75 (0,0))
abbrev IV:=Nat×Value
def iv (x:IV):Value:=.iface x.1 x.2
abbrev Fin1:=Option IV
def Thrown (b0:Nat) (v:IV) (e:Ending) (w:World):Prop :=
 ∃ b,b0≤b∧e = .panicked [{ v:=.iface 80 (.pointer (some ⟨b,0,none⟩)),recovered:=false }]∧w.heap[b]? = some (.cells #[.int .u8 0,iv v,.pointer none] 157 (0,0))
def Ends1 (E:Fin1) (b0:Nat) (e:Ending) (w:World):Prop:=match E with
 | .none=>e = .returned (.tuple #[.agg #[.nilIface,.pointer none],.bool false])
 | .some v=>Thrown b0 v e w
def SameOn (F:Nat→Prop) (w w':World):Prop:=∀ k,F k→w'.heap[k]? = w.heap[k]?
theorem SameOn.refl (F:Nat→Prop) (w:World):SameOn F w w:=fun _ _=>rfl
theorem SameOn.trans {F:Nat→Prop}{a b c:World} (h:SameOn F a b) (k:SameOn F b c):SameOn F a c:=fun i hi=>(k i hi).trans (h i hi)
theorem SameOn.mono {F G:Nat→Prop}{a b:World} (h:SameOn G a b) (s:∀ k,F k→G k):SameOn F a b:=fun i hi=>h i (s i hi)
theorem Fr.same {D F:Nat→Prop}{a b:World} (h:Fr D a b) (hl:∀ k,F k→k < a.heap.size) (hd:∀ k,F k→¬ D k):SameOn F a b:=fun k hk=>h.block k (hl k hk) (hd k hk)
def Str:List IV→Fin1→(Nat→Prop)→(Nat→Prop)→World→Value→Prop
 | [],E,F,D,w,f=>∃ K cap,f = .func (.func K) #[] cap∧Enters Tryz.prog K∧(∀ k,F k→k < w.heap.size)∧(∀ k,D k→F k)∧
   ∀ w',SameOn F w w'→w.heap.size≤w'.heap.size→Calls Tryz.prog K cap w' fun e w''=>Fr D w' w''∧Ends1 E w'.heap.size e w''
 | v :: L,E,F,D,w,f=>∃ K cap,f = .func (.func K) #[] cap∧Enters Tryz.prog K∧(∀ k,F k→k < w.heap.size)∧(∀ k,D k→F k)∧
   ∀ w',SameOn F w w'→w.heap.size≤w'.heap.size→Calls Tryz.prog K cap w' fun e w''=>Fr D w' w''∧
    e = .returned (.tuple #[.agg #[iv v,.pointer none],.bool true])∧
    ∃ F' D',(∀ k,F' k→F k∨w'.heap.size≤k)∧(∀ k,D' k→D k∨w'.heap.size≤k)∧Str L E F' D' w'' f
theorem Str.lt {L:List IV}{E:Fin1}{F D:Nat→Prop}{w:World}{f:Value} (h:Str L E F D w f):∀ k,F k→k < w.heap.size:=by
 cases L <;> (obtain ⟨_,_,_,_,h,_⟩:=h;exact h)
theorem Str.sub {L:List IV}{E:Fin1}{F D:Nat→Prop}{w:World}{f:Value} (h:Str L E F D w f):∀ k,D k→F k:=by
 cases L <;> (obtain ⟨_,_,_,_,_,h,_⟩:=h;exact h)
theorem Str.shape {L:List IV}{E:Fin1}{F D:Nat→Prop}{w:World}{f:Value} (h:Str L E F D w f):∃ K cap,f = .func (.func K) #[] cap:=by
 cases L <;> (obtain ⟨K,cap,h,_⟩:=h;exact ⟨K,cap,h⟩)
theorem Str.move {L:List IV}{E:Fin1}{F D:Nat→Prop}{w w1:World}{f:Value} (h:Str L E F D w f) (hs:SameOn F w w1) (hl:w.heap.size≤w1.heap.size):Str L E F D w1 f:=by
 cases L <;>
 ·obtain ⟨K,cap,hf,hE,hF,hD,h⟩:=h
  exact ⟨K,cap,hf,hE,fun k hk=>Nat.lt_of_lt_of_le (hF k hk) hl,hD,fun w' hs' hl'=>h w' (hs.trans hs') (Nat.le_trans hl hl')⟩
theorem none_calls (w:World):Calls Tryz.prog 19 #[] w fun e w'=>e = .returned (.tuple #[.agg #[.nilIface,.pointer none],.bool false])∧Below w.heap.size w w':=by
 go_enter Tryz.func19,Tryz.ntmps19
 go_wp2
 exact bodyPost_ret (v:=.tuple #[.agg #[.nilIface,.pointer none],.bool false]) (by simp [results,Tryz.results19,go_sem]) rfl ⟨rfl,below_alloc _ _⟩
theorem enters_none:Enters Tryz.prog 19:=enters_of Tryz.func19 (by kernel_rfl) rfl
theorem none_str (w:World):Str [] .none (fun _=>False) (fun _=>False) w (.func (.func 19) #[] #[]) :=
 ⟨_,_,rfl,enters_none,fun _ h=>h.elim,fun _ h=>h.elim,fun w' _ _=>(none_calls w').mono fun e w'' ⟨h1,h2⟩=>⟨.of_below h2,h1⟩⟩
theorem heap_new2' (w:World) (o1 o2:Obj):((w.alloc o1).alloc o2).heap[w.heap.size+1]? = some o2:=by
 have:=heap_new (w.alloc o1) o2
 simpa using this
theorem Box.cell {w:World}{b:Nat}{v:Value}{T:Nat} (h:Box w b v T):w.cell? ⟨b,0,none⟩=some v:=cell_of_one h
theorem Box.free {w:World}{b:Nat}{v:Value}{T:Nat} (h:Box w b v T):w.frozen? ⟨b,0,none⟩=false:=free_of_one h
theorem Box.lt {w:World}{b:Nat}{v:Value}{T:Nat} (h:Box w b v T):b < w.heap.size:=lt_of_block h
theorem Box.new (w:World) (v:Value) (T:Nat):Box (w.alloc (.cells #[v] T)) w.heap.size v T:=heap_new _ _
theorem Box.set {w:World}{b:Nat}{v:Value}{T:Nat} (h:Box w b v T) (u:Value):Box (w.setCell ⟨b,0,none⟩ u) b u T:=one_setCell h
theorem Box.same {w w':World}{b:Nat}{v:Value}{T:Nat} (h:Box w b v T) (e:w'.heap[b]? = w.heap[b]?):Box w' b v T:=e.trans h
theorem SpotBox.c0 {w:World}{b:Nat}{v:Value} (h:SpotBox w b v):w.cell? ⟨b,0,none⟩=some v:=by simp [World.cell?,SpotBox] at *;simp [h]
theorem SpotBox.c1 {w:World}{b:Nat}{v:Value} (h:SpotBox w b v):w.cell? ⟨b,1,none⟩=some (.pointer none):=by simp [World.cell?,SpotBox] at *;simp [h]
theorem SpotBox.f0 {w:World}{b:Nat}{v:Value} (h:SpotBox w b v):w.frozen? ⟨b,0,none⟩=false:=by simp [World.frozen?,SpotBox] at *;simp [h]
theorem SpotBox.f1 {w:World}{b:Nat}{v:Value} (h:SpotBox w b v):w.frozen? ⟨b,1,none⟩=false:=by simp [World.frozen?,SpotBox] at *;simp [h]
theorem SpotBox.lt {w:World}{b:Nat}{v:Value} (h:SpotBox w b v):b < w.heap.size:=lt_of_block h
theorem SpotBox.new (w:World) (v:Value):SpotBox (w.alloc (.cells #[v,.pointer none] 75)) w.heap.size v:=heap_new _ _
theorem SpotBox.same {w w':World}{b:Nat}{v:Value} (h:SpotBox w b v) (e:w'.heap[b]? = w.heap[b]?):SpotBox w' b v:=e.trans h
theorem SpotBox.alloc {w:World}{b:Nat}{v:Value} (h:SpotBox w b v) (o:Obj):SpotBox (w.alloc o) b v:=h.same (Below.heap_alloc _ _ _ h.lt)
theorem SpotBox.facts {w:World}{b:Nat}{v:Value} (h:SpotBox w b v):w.cell? ⟨b,0,none⟩=some v∧w.cell? ⟨b,1,none⟩=some (.pointer none)∧w.frozen? ⟨b,0,none⟩=false∧w.frozen? ⟨b,1,none⟩=false∧b < w.heap.size:=⟨h.c0,h.c1,h.f0,h.f1,h.lt⟩
theorem one1_given {w:World}{g s:Nat} (hg:Box w g (.bool true) 4):Calls Tryz.prog 90 #[.pointer (some ⟨g,0,none⟩),.pointer (some ⟨s,0,none⟩)] w fun e w'=>e = .returned (.tuple #[.agg #[.nilIface,.pointer none],.bool false])∧Below w.heap.size w w':=by
 have h0:=hg.cell
 have h2:=hg.lt
 go_enter Tryz.func90,Tryz.ntmps90
 go_wp2_with (go_at_call 19;refine (none_calls _).mono ?_;rintro e w1 ⟨rfl,k1⟩;have q:SpotBox w1 w.heap.size .nilIface:=(SpotBox.new w .nilIface).same (k1.block _ (by simp));obtain ⟨q0,q1,q2,q3,q4⟩:=q.facts)
 exact bodyPost_ret (v:=.tuple #[.agg #[.nilIface,.pointer none],.bool false]) (by simp [results,Tryz.results90,go_sem,q4,q0,q1]) rfl ⟨rfl,((((below_alloc _ _).trans (k1.mono (by simp))).setCell (by simp) _).setCell (by simp) _)⟩
abbrev Res:=Except IV IV
theorem new_not {w:World}{F D:Nat→Prop} (hF:∀ k,F k→k < w.heap.size) (hD:∀ k,D k→F k):¬ D w.heap.size:=fun e=>by have:=hF _ (hD _ e);omega
theorem mapped1_done {w:World}{ob tb K:Nat}{cap:Array Value}{F D:Nat→Prop} (ho:Box w ob (.func (.func K) #[] cap) 66) (hE:Enters Tryz.prog K) (hF:∀ k,F k→k < w.heap.size) (hD:∀ k,D k→F k)
  (h:∀ w',SameOn F w w'→w.heap.size≤w'.heap.size→Calls Tryz.prog K cap w' fun e w''=>Fr D w' w''∧e = .returned (.tuple #[.agg #[.nilIface,.pointer none],.bool false])) :
  Calls Tryz.prog 93 #[.pointer (some ⟨ob,0,none⟩),.pointer (some ⟨tb,0,none⟩)] w fun e w'=>Fr D w w'∧e = .returned (.tuple #[.agg #[.nilIface,.pointer none],.bool false]):=by
 have h0:=ho.cell
 have h2:=ho.lt
 have hE':∀ (args:Array Value) (w:World),(callFunc K args).run Tryz.prog w = .ok (.enter K args) w:=hE
 go_enter Tryz.func93,Tryz.ntmps93
 go_wp2_with (first
  | (go_at_call 19;refine (none_calls _).mono ?_;rintro e w2 ⟨rfl,k2⟩;have p:SpotBox w2 w.heap.size .nilIface:=(q.alloc _).same (k2.block _ (by simp;omega));obtain ⟨p0,p1,p2,p3,p4⟩:=p.facts)
  | (go_at_fn K;refine (h _ (fun k hk=>Below.heap_alloc _ _ _ (hF k hk)) (by simp)).mono ?_;rintro e w1 ⟨k1,rfl⟩;have q:SpotBox w1 w.heap.size .nilIface:=(SpotBox.new w .nilIface).same (k1.block _ (by simp) (new_not hF hD));obtain ⟨q0,q1,q2,q3,q4⟩:=q.facts))
 refine bodyPost_ret (v:=.tuple #[.agg #[.nilIface,.pointer none],.bool false]) (by simp [results,Tryz.results93,go_sem,p4,p0,p1]) rfl ⟨?_,rfl⟩
 exact ((((((Fr.refl D w).alloc _).trans k1 (fun _ _ e=>e)).alloc _).trans (Fr.of_below (D:=D) k2) (fun _ _ e=>e)).setCell _ (.inr (Nat.le_refl _))).setCell _ (.inr (Nat.le_refl _))
theorem enters_mapped1:Enters Tryz.prog 93:=enters_of Tryz.func93 (by kernel_rfl) rfl
theorem mapped_made {w:World}{K K2:Nat}{cap cap2:Array Value}:Calls Tryz.prog 45 #[.func (.func K) #[] cap,.func (.func K2) #[] cap2] w fun e w'=>e = .returned (.func (.func 93) #[] #[.pointer (some ⟨w.heap.size,0,none⟩),.pointer (some ⟨w.heap.size+1,0,none⟩)])∧Below w.heap.size w w'∧Box w' w.heap.size (.func (.func K) #[] cap) 66∧Box w' (w.heap.size+1) (.func (.func K2) #[] cap2) 133:=by
 go_enter Tryz.func45,Tryz.ntmps45
 go_wp2
 go_ret
 exact ⟨rfl,((below_alloc _ _).alloc (by simp) _),(Box.new w _ _).same (Below.heap_alloc _ _ _ (by simp)),heap_new2' w _ _⟩
def Res.Is' (r:Res) (b0:Nat) (e:Ending) (w:World):Prop:=match r with
 | .ok v=>e = .returned (iv v)
 | .error v=>Thrown b0 v e w
theorem below_alloc2 (w:World) (a b:Obj):Below w.heap.size w ((w.alloc a).alloc b):=(below_alloc _ _).alloc (by simp) _
theorem enters_valued1:Enters Tryz.prog 173:=enters_of Tryz.func173 (by kernel_rfl) rfl
theorem enters_each1:Enters Tryz.prog 97:=enters_of Tryz.func97 (by kernel_rfl) rfl
theorem heap_new3 (w:World) (o1 o2 o3:Obj):(((w.alloc o1).alloc o2).alloc o3).heap[w.heap.size+2]? = some o3:=by
 have:=heap_new ((w.alloc o1).alloc o2) o3
 simpa using this
theorem heap_at2 (w:World) (o1 o2 o3:Obj):(((w.alloc o1).alloc o2).alloc o3).heap[w.heap.size+1]? = some o2:=by
 rw [Below.heap_alloc _ _ _ (by simp)]
 exact heap_new2' w o1 o2
theorem heap_at1 (w:World) (o1 o2 o3:Obj):(((w.alloc o1).alloc o2).alloc o3).heap[w.heap.size]? = some o1:=by
 rw [Below.heap_alloc _ _ _ (by simp;omega),Below.heap_alloc _ _ _ (by simp)]
 exact heap_new w o1
theorem below_alloc3 (w:World) (a b c:Obj):Below w.heap.size w (((w.alloc a).alloc b).alloc c):=(below_alloc2 w a b).alloc (by simp;omega) _
theorem each_made {w:World}{K K2:Nat}{cap cap2:Array Value}:Calls Tryz.prog 48 #[.func (.func K) #[] cap,.func (.func K2) #[] cap2] w fun e w'=>e = .returned (.func (.func 97) #[] #[.pointer (some ⟨w.heap.size+2,0,none⟩),.pointer (some ⟨w.heap.size,0,none⟩),.pointer (some ⟨w.heap.size+1,0,none⟩)])∧Below w.heap.size w w'∧Box w' w.heap.size (.func (.func K) #[] cap) 66∧Box w' (w.heap.size+1) (.func (.func K2) #[] cap2) 126∧Box w' (w.heap.size+2) (.func (.func 19) #[] #[]) 66:=by
 go_enter Tryz.func48,Tryz.ntmps48
 go_wp2
 go_ret
 exact ⟨rfl,below_alloc3 w _ _ _,heap_at1 w _ _ _,heap_at2 w _ _ _,heap_new3 w _ _ _⟩
theorem enters_behind1:Enters Tryz.prog 41:=enters_of Tryz.func41 (by kernel_rfl) rfl
theorem behind1_over {w:World}{rb vb sb:Nat}{f:Value}{F D:Nat→Prop} (hr:Box w rb f 66) (hv:Box w vb (.bool true) 4) (hvD:¬ D vb) (hS:Str [] .none F D w f) :
  Calls Tryz.prog 41 #[.pointer (some ⟨rb,0,none⟩),.pointer (some ⟨vb,0,none⟩),.pointer (some ⟨sb,0,none⟩)] w fun e w'=>Fr D w w'∧e = .returned (.tuple #[.agg #[.nilIface,.pointer none],.bool false]):=by
 have h0:=hr.cell
 have h2:=hr.lt
 have h3:=hv.lt
 obtain ⟨K,cap,rfl,hE,hF,hD,h⟩:=hS
 have hE':∀ (args:Array Value) (w:World),(callFunc K args).run Tryz.prog w = .ok (.enter K args) w:=hE
 simp only [Ends1] at h
 go_enter Tryz.func41,Tryz.ntmps41
 go_wp2_with (go_at_fn K;refine (h _ (fun k hk=>Below.heap_alloc _ _ _ (hF k hk)) (by simp)).mono ?_;rintro e w1 ⟨k1,rfl⟩;have q:SpotBox w1 w.heap.size .nilIface:=(SpotBox.new w .nilIface).same (k1.block _ (by simp) (new_not hF hD));obtain ⟨q0,q1,q2,q3,q4⟩:=q.facts;have t0:=(hv.same ((k1.block vb (by simp;omega) hvD).trans (Below.heap_alloc _ _ _ h3))).cell;have t1:vb < w1.heap.size:=by omega)
 refine bodyPost_ret (v:=.tuple #[.agg #[.nilIface,.pointer none],.bool false]) (by simp [results,Tryz.results41,go_sem,q4,q0,q1]) rfl ⟨?_,rfl⟩
 exact (((((Fr.refl D w).alloc _).trans k1 (fun _ _ e=>e)).setCell _ (.inr (Nat.le_refl _))).setCell _ (.inr (Nat.le_refl _))).alloc _
theorem sec_free {C F:Nat→Prop}{rb vb n:Nat} (hFC:∀ k,F k→C k∨n≤k) (hrC:¬ C rb) (hvC:¬ C vb) (h1:rb < n) (h2:vb < n):∀ k,F k→¬ (k=rb∨k=vb):=by
 intro k hk e
 rcases hFC _ hk with h | h
 ·rcases e with rfl | rfl
  ·exact hrC h
  ·exact hvC h
 ·omega
theorem sec_new {D:Nat→Prop}{m n:Nat} (h:∀ k,D k→m≤k) (hm:n < m):∀ k,D k→n < k:=fun k hk=>by have:=h k hk;omega
theorem behind_made {w:World}{K K2:Nat}{cap cap2:Array Value}:Calls Tryz.prog 18 #[.func (.func K) #[] cap,.func (.func K2) #[] cap2] w fun e w'=>e = .returned (.func (.func 41) #[] #[.pointer (some ⟨w.heap.size+1,0,none⟩),.pointer (some ⟨w.heap.size+2,0,none⟩),.pointer (some ⟨w.heap.size,0,none⟩)])∧Below w.heap.size w w'∧Box w' (w.heap.size+1) (.func (.func K) #[] cap) 66∧Box w' w.heap.size (.func (.func K2) #[] cap2) 76∧Box w' (w.heap.size+2) (.bool false) 4:=by
 go_enter Tryz.func18,Tryz.ntmps18
 go_wp2
 go_ret
 exact ⟨rfl,below_alloc3 w _ _ _,heap_at2 w _ _ _,heap_at1 w _ _ _,heap_new3 w _ _ _⟩
theorem enters_worked1:Enters Tryz.prog 167:=enters_of Tryz.func167 (by kernel_rfl) rfl
theorem worked1_given {w:World}{g s:Nat} (hg:Box w g (.bool true) 4):Calls Tryz.prog 167 #[.pointer (some ⟨g,0,none⟩),.pointer (some ⟨s,0,none⟩)] w fun e w'=>e = .returned (.tuple #[.agg #[.nilIface,.pointer none],.bool false])∧Below w.heap.size w w':=by
 have h0:=hg.cell
 have h2:=hg.lt
 go_enter Tryz.func167,Tryz.ntmps167
 go_wp2_with (go_at_call 19;refine (none_calls _).mono ?_;rintro e w1 ⟨rfl,k1⟩;have q:SpotBox w1 w.heap.size .nilIface:=(SpotBox.new w .nilIface).same (k1.block _ (by simp));obtain ⟨q0,q1,q2,q3,q4⟩:=q.facts)
 exact bodyPost_ret (v:=.tuple #[.agg #[.nilIface,.pointer none],.bool false]) (by simp [results,Tryz.results167,go_sem,q4,q0,q1]) rfl ⟨rfl,((((below_alloc _ _).trans (k1.mono (by simp))).setCell (by simp) _).setCell (by simp) _)⟩
end Go.Proofs.Tryz
