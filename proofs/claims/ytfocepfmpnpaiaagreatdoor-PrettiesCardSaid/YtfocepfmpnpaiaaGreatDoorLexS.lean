import Derived.Test.YtfocepfmpnpaiaaGreatDoorLex2
import Derived.Test.YtfocepfmpnpaiaaGreatDoorStep1
import Derived.Deep.MidRow
import Derived.WalkMore
set_option linter.all false
namespace Go.Proofs.Tryz
set_option maxHeartbeats 16000000
open Go.RowKit
set_option maxRecDepth 10000
def signsB:List ByteArray:=[⟨#[46,46]⟩,⟨#[47,47]⟩,⟨#[61,61]⟩,⟨#[33,61]⟩,⟨#[60,61]⟩,⟨#[62,61]⟩,⟨#[124,61]⟩,⟨#[46]⟩,⟨#[124]⟩,⟨#[44]⟩,⟨#[60]⟩,⟨#[62]⟩,⟨#[61]⟩,⟨#[43]⟩,⟨#[45]⟩,⟨#[42]⟩,⟨#[47]⟩,⟨#[37]⟩,⟨#[63]⟩,⟨#[40]⟩,⟨#[41]⟩,⟨#[91]⟩,⟨#[93]⟩,⟨#[123]⟩,⟨#[125]⟩,⟨#[58]⟩,⟨#[59]⟩]
def SignsIn (w:World):Prop:=w.rangeAt 0 0 (signsB.map Value.string)∧0 < w.heap.size
theorem SignsIn.below {w w':World} (h:SignsIn w) (k:Below w.heap.size w w'):SignsIn w' :=
 ⟨fun j v hv=>(k.cell (p:=⟨0,0+j,none⟩) h.2).trans (h.1 j v hv),Nat.lt_of_lt_of_le h.2 k.size⟩
def blanks:List UInt8→Nat
 | []=>0
 | c :: l=>if isBlankB c then blanks l+1 else 0
theorem blanks_le:∀ l,blanks l≤l.length
 | []=>Nat.le_refl _
 | c :: l=>by have:=blanks_le l;simp only [blanks,List.length_cons];split <;> omega
theorem info_token:(Tryz.prog.info? 62).map (fun i=>(i.zero,i.size,i.bytes))=some (some (.agg #[.int .u8 0,.string ⟨#[]⟩,.int .i64 0]),3,32):=by kernel_rfl
theorem info_signs:(Tryz.prog.info? 82).map (·.size)=some 27:=by kernel_rfl
theorem idx0 (w:World):Sem.run Tryz.prog (Instr.index 82 (.agg (signsB.map Value.string).toArray) (.int .i64 0)) w = .ok (.string ⟨#[46,46]⟩) w:=by kernel_rfl
theorem idx1 (w:World):Sem.run Tryz.prog (Instr.index 82 (.agg (signsB.map Value.string).toArray) (.int .i64 1)) w = .ok (.string ⟨#[47,47]⟩) w:=by kernel_rfl
theorem idx2 (w:World):Sem.run Tryz.prog (Instr.index 82 (.agg (signsB.map Value.string).toArray) (.int .i64 2)) w = .ok (.string ⟨#[61,61]⟩) w:=by kernel_rfl
theorem idx3 (w:World):Sem.run Tryz.prog (Instr.index 82 (.agg (signsB.map Value.string).toArray) (.int .i64 3)) w = .ok (.string ⟨#[33,61]⟩) w:=by kernel_rfl
theorem idx4 (w:World):Sem.run Tryz.prog (Instr.index 82 (.agg (signsB.map Value.string).toArray) (.int .i64 4)) w = .ok (.string ⟨#[60,61]⟩) w:=by kernel_rfl
theorem idx5 (w:World):Sem.run Tryz.prog (Instr.index 82 (.agg (signsB.map Value.string).toArray) (.int .i64 5)) w = .ok (.string ⟨#[62,61]⟩) w:=by kernel_rfl
theorem idx6 (w:World):Sem.run Tryz.prog (Instr.index 82 (.agg (signsB.map Value.string).toArray) (.int .i64 6)) w = .ok (.string ⟨#[124,61]⟩) w:=by kernel_rfl
theorem idx7 (w:World):Sem.run Tryz.prog (Instr.index 82 (.agg (signsB.map Value.string).toArray) (.int .i64 7)) w = .ok (.string ⟨#[46]⟩) w:=by kernel_rfl
theorem idx8 (w:World):Sem.run Tryz.prog (Instr.index 82 (.agg (signsB.map Value.string).toArray) (.int .i64 8)) w = .ok (.string ⟨#[124]⟩) w:=by kernel_rfl
theorem idx9 (w:World):Sem.run Tryz.prog (Instr.index 82 (.agg (signsB.map Value.string).toArray) (.int .i64 9)) w = .ok (.string ⟨#[44]⟩) w:=by kernel_rfl
theorem idx10 (w:World):Sem.run Tryz.prog (Instr.index 82 (.agg (signsB.map Value.string).toArray) (.int .i64 10)) w = .ok (.string ⟨#[60]⟩) w:=by kernel_rfl
theorem idx11 (w:World):Sem.run Tryz.prog (Instr.index 82 (.agg (signsB.map Value.string).toArray) (.int .i64 11)) w = .ok (.string ⟨#[62]⟩) w:=by kernel_rfl
theorem idx12 (w:World):Sem.run Tryz.prog (Instr.index 82 (.agg (signsB.map Value.string).toArray) (.int .i64 12)) w = .ok (.string ⟨#[61]⟩) w:=by kernel_rfl
theorem idx13 (w:World):Sem.run Tryz.prog (Instr.index 82 (.agg (signsB.map Value.string).toArray) (.int .i64 13)) w = .ok (.string ⟨#[43]⟩) w:=by kernel_rfl
theorem idx14 (w:World):Sem.run Tryz.prog (Instr.index 82 (.agg (signsB.map Value.string).toArray) (.int .i64 14)) w = .ok (.string ⟨#[45]⟩) w:=by kernel_rfl
theorem idx15 (w:World):Sem.run Tryz.prog (Instr.index 82 (.agg (signsB.map Value.string).toArray) (.int .i64 15)) w = .ok (.string ⟨#[42]⟩) w:=by kernel_rfl
theorem idx16 (w:World):Sem.run Tryz.prog (Instr.index 82 (.agg (signsB.map Value.string).toArray) (.int .i64 16)) w = .ok (.string ⟨#[47]⟩) w:=by kernel_rfl
theorem idx17 (w:World):Sem.run Tryz.prog (Instr.index 82 (.agg (signsB.map Value.string).toArray) (.int .i64 17)) w = .ok (.string ⟨#[37]⟩) w:=by kernel_rfl
theorem idx18 (w:World):Sem.run Tryz.prog (Instr.index 82 (.agg (signsB.map Value.string).toArray) (.int .i64 18)) w = .ok (.string ⟨#[63]⟩) w:=by kernel_rfl
theorem idx19 (w:World):Sem.run Tryz.prog (Instr.index 82 (.agg (signsB.map Value.string).toArray) (.int .i64 19)) w = .ok (.string ⟨#[40]⟩) w:=by kernel_rfl
theorem idx20 (w:World):Sem.run Tryz.prog (Instr.index 82 (.agg (signsB.map Value.string).toArray) (.int .i64 20)) w = .ok (.string ⟨#[41]⟩) w:=by kernel_rfl
theorem idx21 (w:World):Sem.run Tryz.prog (Instr.index 82 (.agg (signsB.map Value.string).toArray) (.int .i64 21)) w = .ok (.string ⟨#[91]⟩) w:=by kernel_rfl
theorem idx22 (w:World):Sem.run Tryz.prog (Instr.index 82 (.agg (signsB.map Value.string).toArray) (.int .i64 22)) w = .ok (.string ⟨#[93]⟩) w:=by kernel_rfl
theorem idx23 (w:World):Sem.run Tryz.prog (Instr.index 82 (.agg (signsB.map Value.string).toArray) (.int .i64 23)) w = .ok (.string ⟨#[123]⟩) w:=by kernel_rfl
theorem idx24 (w:World):Sem.run Tryz.prog (Instr.index 82 (.agg (signsB.map Value.string).toArray) (.int .i64 24)) w = .ok (.string ⟨#[125]⟩) w:=by kernel_rfl
theorem idx25 (w:World):Sem.run Tryz.prog (Instr.index 82 (.agg (signsB.map Value.string).toArray) (.int .i64 25)) w = .ok (.string ⟨#[58]⟩) w:=by kernel_rfl
theorem idx26 (w:World):Sem.run Tryz.prog (Instr.index 82 (.agg (signsB.map Value.string).toArray) (.int .i64 26)) w = .ok (.string ⟨#[59]⟩) w:=by kernel_rfl
theorem index_sign (q:Nat) (p:ByteArray) (h:signsB[q]? = some p) (w:World):Sem.run Tryz.prog (Instr.index 82 (.agg (signsB.map Value.string).toArray) (.int .i64 (q:Int))) w = .ok (.string p) w:=by
 match q,h with
 | 0,h=>cases h;exact idx0 w
 | 1,h=>cases h;exact idx1 w
 | 2,h=>cases h;exact idx2 w
 | 3,h=>cases h;exact idx3 w
 | 4,h=>cases h;exact idx4 w
 | 5,h=>cases h;exact idx5 w
 | 6,h=>cases h;exact idx6 w
 | 7,h=>cases h;exact idx7 w
 | 8,h=>cases h;exact idx8 w
 | 9,h=>cases h;exact idx9 w
 | 10,h=>cases h;exact idx10 w
 | 11,h=>cases h;exact idx11 w
 | 12,h=>cases h;exact idx12 w
 | 13,h=>cases h;exact idx13 w
 | 14,h=>cases h;exact idx14 w
 | 15,h=>cases h;exact idx15 w
 | 16,h=>cases h;exact idx16 w
 | 17,h=>cases h;exact idx17 w
 | 18,h=>cases h;exact idx18 w
 | 19,h=>cases h;exact idx19 w
 | 20,h=>cases h;exact idx20 w
 | 21,h=>cases h;exact idx21 w
 | 22,h=>cases h;exact idx22 w
 | 23,h=>cases h;exact idx23 w
 | 24,h=>cases h;exact idx24 w
 | 25,h=>cases h;exact idx25 w
 | 26,h=>cases h;exact idx26 w
 | q+27,h=>simp [signsB] at h
theorem heap_new2 (w:World) (o1 o2:Obj):((w.alloc o1).alloc o2).heap[w.heap.size+1]? = some o2:=by
 have h:=heap_new (w.alloc o1) o2
 have e:(w.alloc o1).heap.size=w.heap.size+1:=by simp
 rw [e] at h;exact h
def tcells:List Tok→List Value
 | []=>[]
 | t :: l=>.int .u8 t.kind :: .string t.text :: .int .i64 t.pos :: tcells l
theorem tcells_length:∀ l,(tcells l).length=l.length * 3
 | []=>rfl
 | t :: l=>by simp [tcells,tcells_length l];omega
theorem tcells_snoc:∀ l t,tcells (l ++ [t])=tcells l ++ [.int .u8 t.kind,.string t.text,.int .i64 t.pos]
 | [],t=>rfl
 | u :: l,t=>by simp [tcells,tcells_snoc l t]
theorem toks_of_cells {w:World}{g:Nat}:∀ (l:List Tok) (o:Nat),(∀ i v,(tcells l)[i]? = some v→w.cell? ⟨g,o+i,none⟩=some v)→Toks w g o l
 | [],_,_=>trivial
 | t :: l,o,h=>⟨h 0 _ rfl,h 1 _ rfl,h 2 _ rfl,toks_of_cells l (o+3) fun i v hv=>by
   have:=h (i+3) v (by simpa [tcells] using hv)
   rw [show o+3+i=o+(i+3) by omega];exact this⟩
end Go.Proofs.Tryz
