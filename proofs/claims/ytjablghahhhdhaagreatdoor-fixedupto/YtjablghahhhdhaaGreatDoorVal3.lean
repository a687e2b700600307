import Derived.Test.YtjablghahhhdhaaGreatDoorOpen3
import Derived.Test.YtjablghahhhdhaaGreatDoorCases
set_option linter.all false
namespace Go.Proofs.Tryz
open Go.RowKit
set_option maxRecDepth 10000

/- Cases of a value's kind. -/
theorem hitVNull (v : Value) (w : World) : Sem.run Tryz.prog (Instr.typeAssert (.iface 95 v) 32 95 true) w = .ok (.tuple #[v, .bool true]) w := by
  unfold Instr.typeAssert
  simp [Sem.run_bind, run_underlying Tryz.underlying95]
theorem missVNull (t : Nat) (v : Value) (w : World) (h : t ≠ 95) : Sem.run Tryz.prog (Instr.typeAssert (.iface t v) 32 95 true) w = .ok (.tuple #[.agg #[], .bool false]) w := by
  obtain ⟨i, h1, h2, _, _⟩ := info_parts (show (Tryz.prog.info? 95).map (fun i => (i.zero, i.size, i.bytes)) = some (some (.agg #[]), 0, 0) by kernel_rfl)
  unfold Instr.typeAssert
  simp [Sem.run_bind, run_underlying Tryz.underlying95, h, zeroValue, typeInfo, h1, h2]
theorem hitVBool (v : Value) (w : World) : Sem.run Tryz.prog (Instr.typeAssert (.iface 96 v) 32 96 true) w = .ok (.tuple #[v, .bool true]) w := by
  unfold Instr.typeAssert
  simp [Sem.run_bind, run_underlying Tryz.underlying96]
theorem missVBool (t : Nat) (v : Value) (w : World) (h : t ≠ 96) : Sem.run Tryz.prog (Instr.typeAssert (.iface t v) 32 96 true) w = .ok (.tuple #[.bool false, .bool false]) w := by
  obtain ⟨i, h1, h2, _, _⟩ := info_parts (show (Tryz.prog.info? 96).map (fun i => (i.zero, i.size, i.bytes)) = some (some (.bool false), 1, 1) by kernel_rfl)
  unfold Instr.typeAssert
  simp [Sem.run_bind, run_underlying Tryz.underlying96, h, zeroValue, typeInfo, h1, h2]
theorem hitVNumber (v : Value) (w : World) : Sem.run Tryz.prog (Instr.typeAssert (.iface 98 v) 32 98 true) w = .ok (.tuple #[v, .bool true]) w := by
  unfold Instr.typeAssert
  simp [Sem.run_bind, run_underlying Tryz.underlying98]
theorem missVNumber (t : Nat) (v : Value) (w : World) (h : t ≠ 98) : Sem.run Tryz.prog (Instr.typeAssert (.iface t v) 32 98 true) w = .ok (.tuple #[.int .i64 0, .bool false]) w := by
  obtain ⟨i, h1, h2, _, _⟩ := info_parts (show (Tryz.prog.info? 98).map (fun i => (i.zero, i.size, i.bytes)) = some (some (.int .i64 0), 1, 8) by kernel_rfl)
  unfold Instr.typeAssert
  simp [Sem.run_bind, run_underlying Tryz.underlying98, h, zeroValue, typeInfo, h1, h2]
theorem hitVString (v : Value) (w : World) : Sem.run Tryz.prog (Instr.typeAssert (.iface 100 v) 32 100 true) w = .ok (.tuple #[v, .bool true]) w := by
  unfold Instr.typeAssert
  simp [Sem.run_bind, run_underlying Tryz.underlying100]
theorem missVString (t : Nat) (v : Value) (w : World) (h : t ≠ 100) : Sem.run Tryz.prog (Instr.typeAssert (.iface t v) 32 100 true) w = .ok (.tuple #[.string ⟨#[]⟩, .bool false]) w := by
  obtain ⟨i, h1, h2, _, _⟩ := info_parts (show (Tryz.prog.info? 100).map (fun i => (i.zero, i.size, i.bytes)) = some (some (.string ⟨#[]⟩), 1, 16) by kernel_rfl)
  unfold Instr.typeAssert
  simp [Sem.run_bind, run_underlying Tryz.underlying100, h, zeroValue, typeInfo, h1, h2]
theorem hitVArray (v : Value) (w : World) : Sem.run Tryz.prog (Instr.typeAssert (.iface 86 v) 32 86 true) w = .ok (.tuple #[v, .bool true]) w := by
  unfold Instr.typeAssert
  simp [Sem.run_bind, run_underlying Tryz.underlying86]
theorem missVArray (t : Nat) (v : Value) (w : World) (h : t ≠ 86) : Sem.run Tryz.prog (Instr.typeAssert (.iface t v) 32 86 true) w = .ok (.tuple #[.slice none 0 0, .bool false]) w := by
  obtain ⟨i, h1, h2, _, _⟩ := info_parts (show (Tryz.prog.info? 86).map (fun i => (i.zero, i.size, i.bytes)) = some (some (.slice none 0 0), 1, 24) by kernel_rfl)
  unfold Instr.typeAssert
  simp [Sem.run_bind, run_underlying Tryz.underlying86, h, zeroValue, typeInfo, h1, h2]
theorem hitVObject (v : Value) (w : World) : Sem.run Tryz.prog (Instr.typeAssert (.iface 102 v) 32 102 true) w = .ok (.tuple #[v, .bool true]) w := by
  unfold Instr.typeAssert
  simp [Sem.run_bind, run_underlying Tryz.underlying102]
theorem missVObject (t : Nat) (v : Value) (w : World) (h : t ≠ 102) : Sem.run Tryz.prog (Instr.typeAssert (.iface t v) 32 102 true) w = .ok (.tuple #[.slice none 0 0, .bool false]) w := by
  obtain ⟨i, h1, h2, _, _⟩ := info_parts (show (Tryz.prog.info? 102).map (fun i => (i.zero, i.size, i.bytes)) = some (some (.slice none 0 0), 1, 24) by kernel_rfl)
  unfold Instr.typeAssert
  simp [Sem.run_bind, run_underlying Tryz.underlying102, h, zeroValue, typeInfo, h1, h2]
end Go.Proofs.Tryz

namespace Go.Proofs.Tryz
open Go.RowKit
set_option maxRecDepth 10000

/-- The variable g holds an error with this text. -/
def ErrIn (w : World) (g : Nat) (eb : Addr) (txt : ByteArray) : Prop := w.cell? ⟨g, 0, none⟩ = some (.iface 387 (.pointer (some eb))) ∧ w.cell? eb = some (.string txt)
def errV (eb : Addr) : Value := .iface 387 (.pointer (some eb))

abbrev numV (n : Int) : Value := .iface 98 (.int .i64 n)

theorem ErrIn.below {w w' : World} {g : Nat} {eb : Addr} {txt : ByteArray} (h : ErrIn w g eb txt) (k : Below w.heap.size w w') : ErrIn w' g eb txt := ⟨(k.cell (lt_cell h.1)).trans h.1, (k.cell (lt_cell h.2)).trans h.2⟩
theorem belowN (w : World) (m : Nat) : Below w.heap.size w (w.drewN m) := ⟨rfl, rfl, rfl, Nat.le_refl _, fun _ _ => rfl⟩
set_option maxHeartbeats 1000000 in
theorem addNumbers_fits (a b : Int) (w : World) (h : decide (wrap64 (a + b) < a) = decide (b < 0)) :
    Calls Tryz.prog 266 #[.int .i64 a, .int .i64 b] w fun e w' => e = .returned (.tuple #[numV (wrap64 (a + b)), .nilIface]) ∧ Below w.heap.size w w' := by
  go_enter Tryz.func266, Tryz.ntmps266
  go_wp2
  go_ret2
  exact ⟨rfl, Below.refl _ _⟩
set_option maxHeartbeats 1000000 in
theorem addNumbers_over (a b : Int) (w : World) {eb : Addr} {txt : ByteArray} (he : ErrIn w 3 eb txt) (h : decide (wrap64 (a + b) < a) = !decide (b < 0)) :
    Calls Tryz.prog 266 #[.int .i64 a, .int .i64 b] w fun e w' => e = .returned (.tuple #[.nilIface, errV eb]) ∧ Below w.heap.size w w' := by
  obtain ⟨e0, e1⟩ := he
  go_enter Tryz.func266, Tryz.ntmps266
  go_wp2
  go_quiet (fail)
  go_wp2
  go_ret2
  exact ⟨rfl, belowN _ _⟩
set_option maxHeartbeats 1000000 in
theorem Add_fits (a b : Int) (w : World) (h : decide (wrap64 (a + b) < a) = decide (b < 0)) :
    Calls Tryz.prog 227 #[numV a, numV b] w fun e w' => e = .returned (.tuple #[numV (wrap64 (a + b)), .nilIface]) ∧ Below w.heap.size w w' := by
  have m0 := missVNull; have m1 := hitVNumber; have m2 := missVString; have m3 := missVArray; have m4 := missVObject; have m5 := missVBool
  go_enter Tryz.func227, Tryz.ntmps227
  go_wp2_with (go_at_call 266; refine (addNumbers_fits a b _ h).mono ?_; rintro e w1 ⟨rfl, k1⟩)
  go_ret2
  exact ⟨rfl, (below_alloc _ _).trans (k1.mono (by simp))⟩
set_option maxHeartbeats 1000000 in
theorem Add_over (a b : Int) (w : World) {eb : Addr} {txt : ByteArray} (he : ErrIn w 3 eb txt) (h : decide (wrap64 (a + b) < a) = !decide (b < 0)) :
    Calls Tryz.prog 227 #[numV a, numV b] w fun e w' => e = .returned (.tuple #[.nilIface, errV eb]) ∧ Below w.heap.size w w' := by
  have m0 := missVNull; have m1 := hitVNumber; have m2 := missVString; have m3 := missVArray; have m4 := missVObject; have m5 := missVBool
  go_enter Tryz.func227, Tryz.ntmps227
  go_wp2_with (go_at_call 266; refine (addNumbers_over a b _ (he.below (by exact below_alloc _ _)) h).mono ?_; rintro e w1 ⟨rfl, k1⟩)
  go_ret2
  exact ⟨rfl, (below_alloc _ _).trans (k1.mono (by simp))⟩
set_option maxHeartbeats 1000000 in
theorem subtractNumbers_fits (a b : Int) (w : World) (h : decide (a < wrap64 (a - b)) = decide (b < 0)) :
    Calls Tryz.prog 174 #[.int .i64 a, .int .i64 b] w fun e w' => e = .returned (.tuple #[numV (wrap64 (a - b)), .nilIface]) ∧ Below w.heap.size w w' := by
  go_enter Tryz.func174, Tryz.ntmps174
  go_wp2
  go_ret2
  exact ⟨rfl, Below.refl _ _⟩
set_option maxHeartbeats 1000000 in
theorem subtractNumbers_over (a b : Int) (w : World) {eb : Addr} {txt : ByteArray} (he : ErrIn w 3 eb txt) (h : decide (a < wrap64 (a - b)) = !decide (b < 0)) :
    Calls Tryz.prog 174 #[.int .i64 a, .int .i64 b] w fun e w' => e = .returned (.tuple #[.nilIface, errV eb]) ∧ Below w.heap.size w w' := by
  obtain ⟨e0, e1⟩ := he
  go_enter Tryz.func174, Tryz.ntmps174
  go_wp2
  go_quiet (fail)
  go_wp2
  go_ret2
  exact ⟨rfl, belowN _ _⟩
set_option maxHeartbeats 1000000 in
theorem Subtract_fits (a b : Int) (w : World) (h : decide (a < wrap64 (a - b)) = decide (b < 0)) :
    Calls Tryz.prog 128 #[numV a, numV b] w fun e w' => e = .returned (.tuple #[numV (wrap64 (a - b)), .nilIface]) ∧ Below w.heap.size w w' := by
  have m0 := missVNull; have m1 := hitVNumber; have m2 := missVString; have m3 := missVArray; have m4 := missVObject; have m5 := missVBool
  go_enter Tryz.func128, Tryz.ntmps128
  go_wp2_with (go_at_call 174; refine (subtractNumbers_fits a b _ h).mono ?_; rintro e w1 ⟨rfl, k1⟩)
  go_ret2
  exact ⟨rfl, k1⟩
set_option maxHeartbeats 1000000 in
theorem Subtract_over (a b : Int) (w : World) {eb : Addr} {txt : ByteArray} (he : ErrIn w 3 eb txt) (h : decide (a < wrap64 (a - b)) = !decide (b < 0)) :
    Calls Tryz.prog 128 #[numV a, numV b] w fun e w' => e = .returned (.tuple #[.nilIface, errV eb]) ∧ Below w.heap.size w w' := by
  have m0 := missVNull; have m1 := hitVNumber; have m2 := missVString; have m3 := missVArray; have m4 := missVObject; have m5 := missVBool
  go_enter Tryz.func128, Tryz.ntmps128
  go_wp2_with (go_at_call 174; refine (subtractNumbers_over a b _ he h).mono ?_; rintro e w1 ⟨rfl, k1⟩)
  go_ret2
  exact ⟨rfl, k1⟩
set_option maxHeartbeats 1000000 in
theorem numbers_ok (a b : Int) (w : World) : Calls Tryz.prog 269 #[numV a, numV b] w fun e w' => e = .returned (.tuple #[.int .i64 a, .int .i64 b, .nilIface]) ∧ Below w.heap.size w w' := by
  have m0 := missVNull; have m1 := hitVNumber; have m2 := missVString; have m3 := missVArray; have m4 := missVObject; have m5 := missVBool
  go_enter Tryz.func269, Tryz.ntmps269
  go_wp2
  go_ret3
  exact ⟨rfl, Below.refl _ _⟩
set_option maxHeartbeats 1000000 in
theorem divisible_ok (a b : Int) (w : World) (hb : ¬ b = 0) : Calls Tryz.prog 270 #[numV a, numV b] w fun e w' => e = .returned (.tuple #[.int .i64 a, .int .i64 b, .nilIface]) ∧ Below w.heap.size w w' := by
  go_enter Tryz.func270, Tryz.ntmps270
  go_wp2_with (go_at_call 269; refine (numbers_ok a b _).mono ?_; rintro e w1 ⟨rfl, k1⟩)
  go_ret3
  exact ⟨rfl, k1⟩
set_option maxHeartbeats 1000000 in
theorem divisible_zero (a : Int) (w : World) {eb : Addr} {txt : ByteArray} (he : ErrIn w 9 eb txt) : Calls Tryz.prog 270 #[numV a, numV 0] w fun e w' => e = .returned (.tuple #[.int .i64 a, .int .i64 0, errV eb]) ∧ Below w.heap.size w w' := by
  go_enter Tryz.func270, Tryz.ntmps270
  go_wp2_with (go_at_call 269; refine (numbers_ok a 0 _).mono ?_; rintro e w1 ⟨rfl, k1⟩; have e0 := (he.below k1).1)
  go_ret3
  exact ⟨rfl, k1⟩
set_option maxHeartbeats 1000000 in
theorem Rest_ok (a b : Int) (w : World) (hb : ¬ b = 0) : Calls Tryz.prog 230 #[numV a, numV b] w fun e w' => e = .returned (.tuple #[numV (a.tmod b), .nilIface]) ∧ Below w.heap.size w w' := by
  go_enter Tryz.func230, Tryz.ntmps230
  go_wp2_with (go_at_call 270; refine (divisible_ok a b _ hb).mono ?_; rintro e w1 ⟨rfl, k1⟩)
  go_ret2
  exact ⟨rfl, k1⟩
set_option maxHeartbeats 1000000 in
theorem Rest_zero (a : Int) (w : World) {eb : Addr} {txt : ByteArray} (he : ErrIn w 9 eb txt) : Calls Tryz.prog 230 #[numV a, numV 0] w fun e w' => e = .returned (.tuple #[.nilIface, errV eb]) ∧ Below w.heap.size w w' := by
  go_enter Tryz.func230, Tryz.ntmps230
  go_wp2_with (go_at_call 270; refine (divisible_zero a _ he).mono ?_; rintro e w1 ⟨rfl, k1⟩; simp only [errV])
  go_ret2
  exact ⟨rfl, k1⟩
set_option maxHeartbeats 1000000 in
theorem Divide_zero (a : Int) (w : World) {eb : Addr} {txt : ByteArray} (he : ErrIn w 9 eb txt) : Calls Tryz.prog 229 #[numV a, numV 0] w fun e w' => e = .returned (.tuple #[.nilIface, errV eb]) ∧ Below w.heap.size w w' := by
  go_enter Tryz.func229, Tryz.ntmps229
  go_wp2_with (go_at_call 270; refine (divisible_zero a _ he).mono ?_; rintro e w1 ⟨rfl, k1⟩; simp only [errV])
  go_ret2
  exact ⟨rfl, k1⟩
set_option maxHeartbeats 1000000 in
theorem Divide_ok (a b : Int) (w : World) (hb : ¬ b = 0) (hm : ¬ a = -9223372036854775808) : Calls Tryz.prog 229 #[numV a, numV b] w fun e w' => e = .returned (.tuple #[numV (wrap64 (a.tdiv b)), .nilIface]) ∧ Below w.heap.size w w' := by
  go_enter Tryz.func229, Tryz.ntmps229
  go_wp2_with (go_at_call 270; refine (divisible_ok a b _ hb).mono ?_; rintro e w1 ⟨rfl, k1⟩)
  go_ret2
  exact ⟨rfl, k1⟩
set_option maxHeartbeats 1000000 in
theorem Divide_least (b : Int) (w : World) (hb : ¬ b = 0) (hm : ¬ b = -1) : Calls Tryz.prog 229 #[numV (-9223372036854775808), numV b] w fun e w' => e = .returned (.tuple #[numV (wrap64 (Int.tdiv (-9223372036854775808) b)), .nilIface]) ∧ Below w.heap.size w w' := by
  go_enter Tryz.func229, Tryz.ntmps229
  go_wp2_with (go_at_call 270; refine (divisible_ok (-9223372036854775808) b _ hb).mono ?_; rintro e w1 ⟨rfl, k1⟩)
  go_ret2
  exact ⟨by simp, k1⟩
set_option maxHeartbeats 1000000 in
theorem Divide_over (w : World) {eb : Addr} {txt : ByteArray} (he : ErrIn w 3 eb txt) : Calls Tryz.prog 229 #[numV (-9223372036854775808), numV (-1)] w fun e w' => e = .returned (.tuple #[.nilIface, errV eb]) ∧ Below w.heap.size w w' := by
  go_enter Tryz.func229, Tryz.ntmps229
  go_wp2_with (go_at_call 270; refine (divisible_ok (-9223372036854775808) (-1) _ (by omega)).mono ?_; rintro e w1 ⟨rfl, k1⟩; have e0 := (he.below k1).1)
  go_quiet (fail)
  go_wp2
  go_ret2
  exact ⟨rfl, k1.trans ((belowN _ _).mono k1.size)⟩
set_option maxHeartbeats 1000000 in
theorem Multiply_zero (b : Int) (w : World) : Calls Tryz.prog 228 #[numV 0, numV b] w fun e w' => e = .returned (.tuple #[numV (0), .nilIface]) ∧ Below w.heap.size w w' := by
  go_enter Tryz.func228, Tryz.ntmps228
  go_wp2_with (go_at_call 269; refine (numbers_ok _ _ _).mono ?_; rintro e w1 ⟨rfl, k1⟩)
  go_ret2
  exact ⟨by simp [wrap64], k1⟩
set_option maxHeartbeats 1000000 in
theorem Multiply_over (a b : Int) (w : World) {eb : Addr} {txt : ByteArray} (he : ErrIn w 3 eb txt) (ha : ¬ a = 0) (h : ¬ wrap64 ((wrap64 (a * b)).tdiv a) = b) : Calls Tryz.prog 228 #[numV a, numV b] w fun e w' => e = .returned (.tuple #[.nilIface, errV eb]) ∧ Below w.heap.size w w' := by
  go_enter Tryz.func228, Tryz.ntmps228
  go_wp2_with (go_at_call 269; refine (numbers_ok _ _ _).mono ?_; rintro e w1 ⟨rfl, k1⟩; have e0 := (he.below k1).1)
  all_goals
    go_quiet (fail)
    go_wp2
    go_ret2
    exact ⟨rfl, k1.trans ((belowN _ _).mono k1.size)⟩
set_option maxHeartbeats 1000000 in
theorem Multiply_least (w : World) {eb : Addr} {txt : ByteArray} (he : ErrIn w 3 eb txt) : Calls Tryz.prog 228 #[numV (-1), numV (-9223372036854775808)] w fun e w' => e = .returned (.tuple #[.nilIface, errV eb]) ∧ Below w.heap.size w w' := by
  have h0 : wrap64 (-wrap64 9223372036854775808) = -9223372036854775808 := by simp [wrap64]
  go_enter Tryz.func228, Tryz.ntmps228
  go_wp2_with (go_at_call 269; refine (numbers_ok _ _ _).mono ?_; rintro e w1 ⟨rfl, k1⟩; have e0 := (he.below k1).1)
  all_goals
    go_quiet (fail)
    go_wp2
    go_ret2
    exact ⟨rfl, k1.trans ((belowN _ _).mono k1.size)⟩
set_option maxHeartbeats 1000000 in
theorem Multiply_fits (a b : Int) (w : World) (ha : ¬ a = 0) (h : wrap64 ((wrap64 (a * b)).tdiv a) = b) (hm : ¬ a = -1) : Calls Tryz.prog 228 #[numV a, numV b] w fun e w' => e = .returned (.tuple #[numV (wrap64 (a * b)), .nilIface]) ∧ Below w.heap.size w w' := by
  go_enter Tryz.func228, Tryz.ntmps228
  go_wp2_with (go_at_call 269; refine (numbers_ok _ _ _).mono ?_; rintro e w1 ⟨rfl, k1⟩)
  go_ret2
  exact ⟨rfl, k1⟩
set_option maxHeartbeats 1000000 in
theorem Multiply_turns (b : Int) (w : World) (h : wrap64 (-wrap64 (-b)) = b) (hm : ¬ b = -9223372036854775808) : Calls Tryz.prog 228 #[numV (-1), numV b] w fun e w' => e = .returned (.tuple #[numV (wrap64 (-b)), .nilIface]) ∧ Below w.heap.size w w' := by
  go_enter Tryz.func228, Tryz.ntmps228
  go_wp2_with (go_at_call 269; refine (numbers_ok _ _ _).mono ?_; rintro e w1 ⟨rfl, k1⟩)
  go_ret2
  exact ⟨rfl, k1⟩
end Go.Proofs.Tryz

namespace Go.Proofs.Tryz
open Go.RowKit
set_option maxRecDepth 10000

abbrev strV (s : ByteArray) : IV := (100, .string s)
def thrownV (w0 : Nat) (v : IV) (e : Ending) (w : World) : Prop := Thrown w0 v e w

theorem SameOn.cellA {F : Nat → Prop} {w w' : World} (h : SameOn F w w') {a : Addr} (hb : F a.block) {v : Value} (hv : w.cell? a = some v) : w'.cell? a = some v := (World.cell?_of_block (w := w) (h a.block hb)).trans hv
set_option maxHeartbeats 1000000 in
theorem failure_ok {w : World} {eb : Addr} {txt : ByteArray} (h : w.cell? eb = some (.string txt)) :
    Calls Tryz.prog 99 #[errV eb] w fun e w' => Below w.heap.size w w' ∧ ∃ b, w.heap.size ≤ b ∧ e = .returned (.pointer (some ⟨b, 0, none⟩)) ∧ w'.heap[b]? = some (.cells #[.int .u8 0, iv (strV txt), .pointer none] 157 (0, 0)) := by
  simp only [errV]
  go_enter Tryz.func99, Tryz.ntmps99
  go_wp2
  go_ret
  exact ⟨below_alloc _ _, _, Nat.le_refl _, rfl, heap_new _ _⟩

set_option maxHeartbeats 1000000 in
theorem sure_err {w : World} {eb : Addr} {g : Nat} {txt : ByteArray} (h : ErrIn w g eb txt) :
    Calls Tryz.prog 94 #[.nilIface, errV eb] w fun e w' => Below w.heap.size w w' ∧ Thrown w.heap.size (strV txt) e w' := by
  have hf := failure_ok h.2
  simp only [errV] at hf ⊢
  go_enter Tryz.func94, Tryz.ntmps94
  go_wp2_with (go_at_call 99; refine hf.mono ?_; rintro e w1 ⟨k1, b, hb, rfl, hc⟩)
  exact ⟨rfl, k1, b, hb, rfl, hc⟩

def sgn (a b : Int) : Int := if a < b then -1 else if b < a then 1 else 0

set_option maxHeartbeats 1000000 in
theorem cmp_ok (a b : Int) (w : World) : Calls Tryz.prog 294 #[.int .i64 a, .int .i64 b] w fun e w' => e = .returned (.int .i64 (sgn a b)) ∧ Below w.heap.size w w' := by
  rcases Int.lt_trichotomy a b with h | h | h
  · go_enter Tryz.func294, Tryz.ntmps294
    go_wp2
    go_ret
    exact ⟨by simp [sgn, h], Below.refl _ _⟩
  · subst h
    go_enter Tryz.func294, Tryz.ntmps294
    go_wp2
    go_ret
    exact ⟨by simp [sgn], Below.refl _ _⟩
  · have h' : ¬ a < b := by omega
    go_enter Tryz.func294, Tryz.ntmps294
    go_wp2
    go_ret
    exact ⟨by simp [sgn, h, h'], Below.refl _ _⟩

set_option maxHeartbeats 1000000 in
theorem outside_ok (a b : Int) (w : World) : Calls Tryz.prog 263 #[numV a, numV b] w fun e w' => e = .returned (.int .i64 (sgn a b)) ∧ Below w.heap.size w w' := by
  have m0 := missVNull; have m1 := hitVNumber; have m2 := missVString; have m3 := missVArray; have m4 := missVObject; have m5 := missVBool
  go_enter Tryz.func263, Tryz.ntmps263
  go_wp2_with (go_at_call 294; refine (cmp_ok a b _).mono ?_; rintro e w1 ⟨rfl, k1⟩)
  go_ret
  exact ⟨rfl, k1⟩
set_option maxHeartbeats 1000000 in
theorem parts_ok (a : Int) (w : World) : Calls Tryz.prog 264 #[numV a] w fun e w' => e = .returned (.slice none 0 0) ∧ Below w.heap.size w w' := by
  have m0 := missVNull; have m1 := hitVNumber; have m2 := missVString; have m3 := missVArray; have m4 := missVObject; have m5 := missVBool
  go_enter Tryz.func264, Tryz.ntmps264
  go_wp2
  go_ret
  exact ⟨rfl, Below.refl _ _⟩
set_option maxHeartbeats 2000000 in
theorem Compare_ok (a b : Int) (w : World) : Calls Tryz.prog 223 #[numV a, numV b] w fun e w' => e = .returned (.int .i64 (sgn a b)) ∧ Below w.heap.size w w' := by
  by_cases h : sgn a b = 0
  · go_enter Tryz.func223, Tryz.ntmps223
    go_wp2_with fail
    go_step3
    go_wp2_with fail
    go_step3
    go_wp2_with fail
    refine wp_loop_rounds 1 ?_
    rw [rounds_succ]
    go_wp2_with (first
      | (go_at_call 263; refine (outside_ok a b _).mono ?_; rintro e w1 ⟨rfl, k1⟩; simp only [h])
      | (go_at_call 264; refine (parts_ok _ _).mono ?_; rintro e w2 ⟨rfl, k2⟩; first | (have k3 := k1.trans (k2.mono k1.size); clear k1) | (have k4 := k3.trans (k2.mono k3.size))))
    refine wp_loop_rounds 1 ?_
    rw [rounds_succ]
    go_wp2_with fail
    simp only [Exit.noGoto]
    exact bodyPost_ret (v := .int .i64 0) (by simp [results, Tryz.results223, go_sem]) rfl ⟨by rw [h], k4⟩
  · go_enter Tryz.func223, Tryz.ntmps223
    go_wp2_with fail
    go_step3
    go_wp2_with fail
    go_step3
    go_wp2_with fail
    refine wp_loop_rounds 1 ?_
    rw [rounds_succ]
    go_wp2_with (go_at_call 263; refine (outside_ok a b _).mono ?_; rintro e w1 ⟨rfl, k1⟩)
    simp only [Exit.noGoto]
    exact bodyPost_ret (v := .int .i64 (sgn a b)) (by simp [results, Tryz.results223, go_sem]) rfl ⟨rfl, k1⟩

set_option maxHeartbeats 1000000 in
theorem compares_eq (c : Int) (w : World) : Calls Tryz.prog 231 #[.int .i64 c, .string ⟨#[61, 61]⟩] w fun e w' => e = .returned (.bool (decide (c = 0))) ∧ Below w.heap.size w w' := by
  go_enter Tryz.func231, Tryz.ntmps231
  go_wp2
  go_ret
  exact ⟨by simp; try rfl, Below.refl _ _⟩
set_option maxHeartbeats 1000000 in
theorem operate_eq {B : Nat} {w0 : World} (a b : Int) : OperIs B w0 (98, .int .i64 a) ⟨#[61, 61]⟩ (98, .int .i64 b) (.ok (96, .bool (decide (sgn a b = 0)))) := by
  intro w hs hB
  simp only [iv, Res.Is']
  go_enter Tryz.func183, Tryz.ntmps183
  go_wp2_with (first
    | (go_at_call 223; refine (Compare_ok a b _).mono ?_; rintro e w1 ⟨rfl, k1⟩)
    | (go_at_call 231; refine (compares_eq _ _).mono ?_; rintro e w2 ⟨rfl, k2⟩))
  go_ret
  exact ⟨k1.trans (k2.mono k1.size), rfl⟩

set_option maxHeartbeats 1000000 in
theorem compares_ne (c : Int) (w : World) : Calls Tryz.prog 231 #[.int .i64 c, .string ⟨#[33, 61]⟩] w fun e w' => e = .returned (.bool (!decide (c = 0))) ∧ Below w.heap.size w w' := by
  go_enter Tryz.func231, Tryz.ntmps231
  go_wp2
  go_ret
  exact ⟨by simp; try rfl, Below.refl _ _⟩
set_option maxHeartbeats 1000000 in
theorem operate_ne {B : Nat} {w0 : World} (a b : Int) : OperIs B w0 (98, .int .i64 a) ⟨#[33, 61]⟩ (98, .int .i64 b) (.ok (96, .bool (!decide (sgn a b = 0)))) := by
  intro w hs hB
  simp only [iv, Res.Is']
  go_enter Tryz.func183, Tryz.ntmps183
  go_wp2_with (first
    | (go_at_call 223; refine (Compare_ok a b _).mono ?_; rintro e w1 ⟨rfl, k1⟩)
    | (go_at_call 231; refine (compares_ne _ _).mono ?_; rintro e w2 ⟨rfl, k2⟩))
  go_ret
  exact ⟨k1.trans (k2.mono k1.size), rfl⟩

set_option maxHeartbeats 1000000 in
theorem compares_lt (c : Int) (w : World) : Calls Tryz.prog 231 #[.int .i64 c, .string ⟨#[60]⟩] w fun e w' => e = .returned (.bool (decide (c < 0))) ∧ Below w.heap.size w w' := by
  go_enter Tryz.func231, Tryz.ntmps231
  go_wp2
  go_ret
  exact ⟨by simp; try rfl, Below.refl _ _⟩
set_option maxHeartbeats 1000000 in
theorem operate_lt {B : Nat} {w0 : World} (a b : Int) : OperIs B w0 (98, .int .i64 a) ⟨#[60]⟩ (98, .int .i64 b) (.ok (96, .bool (decide (sgn a b < 0)))) := by
  intro w hs hB
  simp only [iv, Res.Is']
  go_enter Tryz.func183, Tryz.ntmps183
  go_wp2_with (first
    | (go_at_call 223; refine (Compare_ok a b _).mono ?_; rintro e w1 ⟨rfl, k1⟩)
    | (go_at_call 231; refine (compares_lt _ _).mono ?_; rintro e w2 ⟨rfl, k2⟩))
  go_ret
  exact ⟨k1.trans (k2.mono k1.size), rfl⟩

set_option maxHeartbeats 1000000 in
theorem compares_le (c : Int) (w : World) : Calls Tryz.prog 231 #[.int .i64 c, .string ⟨#[60, 61]⟩] w fun e w' => e = .returned (.bool (decide (c ≤ 0))) ∧ Below w.heap.size w w' := by
  go_enter Tryz.func231, Tryz.ntmps231
  go_wp2
  go_ret
  exact ⟨by simp; try rfl, Below.refl _ _⟩
set_option maxHeartbeats 1000000 in
theorem operate_le {B : Nat} {w0 : World} (a b : Int) : OperIs B w0 (98, .int .i64 a) ⟨#[60, 61]⟩ (98, .int .i64 b) (.ok (96, .bool (decide (sgn a b ≤ 0)))) := by
  intro w hs hB
  simp only [iv, Res.Is']
  go_enter Tryz.func183, Tryz.ntmps183
  go_wp2_with (first
    | (go_at_call 223; refine (Compare_ok a b _).mono ?_; rintro e w1 ⟨rfl, k1⟩)
    | (go_at_call 231; refine (compares_le _ _).mono ?_; rintro e w2 ⟨rfl, k2⟩))
  go_ret
  exact ⟨k1.trans (k2.mono k1.size), rfl⟩

set_option maxHeartbeats 1000000 in
theorem compares_gt (c : Int) (w : World) : Calls Tryz.prog 231 #[.int .i64 c, .string ⟨#[62]⟩] w fun e w' => e = .returned (.bool (decide (0 < c))) ∧ Below w.heap.size w w' := by
  go_enter Tryz.func231, Tryz.ntmps231
  go_wp2
  go_ret
  exact ⟨by simp; try rfl, Below.refl _ _⟩
set_option maxHeartbeats 1000000 in
theorem operate_gt {B : Nat} {w0 : World} (a b : Int) : OperIs B w0 (98, .int .i64 a) ⟨#[62]⟩ (98, .int .i64 b) (.ok (96, .bool (decide (0 < sgn a b)))) := by
  intro w hs hB
  simp only [iv, Res.Is']
  go_enter Tryz.func183, Tryz.ntmps183
  go_wp2_with (first
    | (go_at_call 223; refine (Compare_ok a b _).mono ?_; rintro e w1 ⟨rfl, k1⟩)
    | (go_at_call 231; refine (compares_gt _ _).mono ?_; rintro e w2 ⟨rfl, k2⟩))
  go_ret
  exact ⟨k1.trans (k2.mono k1.size), rfl⟩

set_option maxHeartbeats 1000000 in
theorem operate_plus_fits {B : Nat} {w0 : World} (a b : Int) (h : decide (wrap64 (a + b) < a) = decide (b < 0)) : OperIs B w0 (98, .int .i64 a) ⟨#[43]⟩ (98, .int .i64 b) (.ok (98, .int .i64 (wrap64 (a + b)))) := by
  intro w hs hB
  simp only [iv, Res.Is']
  go_enter Tryz.func183, Tryz.ntmps183
  go_wp2_with (first
    | (go_at_call 227; refine (Add_fits a b _ h).mono ?_; rintro e w1 ⟨rfl, k1⟩)
    | (go_at_call 94; refine sure_none.mono ?_; rintro e w2 ⟨rfl, rfl⟩))
  go_ret
  exact ⟨k1, rfl⟩

set_option maxHeartbeats 1000000 in
theorem operate_plus_over {B : Nat} {w0 : World} (a b : Int) (h : decide (wrap64 (a + b) < a) = !decide (b < 0)) {eb : Addr} {txt : ByteArray} (hg : 3 < B) (hb : eb.block < B) (he : ErrIn w0 3 eb txt) : OperIs B w0 (98, .int .i64 a) ⟨#[43]⟩ (98, .int .i64 b) (.error (strV txt)) := by
  intro w hs hB
  have he' : ErrIn w 3 eb txt := ⟨hs.cell hg he.1, hs.cellA hb he.2⟩
  simp only [iv, Res.Is']
  go_enter Tryz.func183, Tryz.ntmps183
  go_wp2_with (first
    | (go_at_call 227; refine (Add_over a b _ he' h).mono ?_; rintro e w1 ⟨rfl, k1⟩)
    | (go_at_call 94; refine (sure_err (he'.below k1)).mono ?_; rintro e w2 ⟨k2, bb, hbb, rfl, hc⟩))
  exact ⟨rfl, k1.trans (k2.mono k1.size), bb, Nat.le_trans k1.size hbb, rfl, hc⟩

set_option maxHeartbeats 1000000 in
theorem operate_minus_fits {B : Nat} {w0 : World} (a b : Int) (h : decide (a < wrap64 (a - b)) = decide (b < 0)) : OperIs B w0 (98, .int .i64 a) ⟨#[45]⟩ (98, .int .i64 b) (.ok (98, .int .i64 (wrap64 (a - b)))) := by
  intro w hs hB
  simp only [iv, Res.Is']
  go_enter Tryz.func183, Tryz.ntmps183
  go_wp2_with (first
    | (go_at_call 128; refine (Subtract_fits a b _ h).mono ?_; rintro e w1 ⟨rfl, k1⟩)
    | (go_at_call 94; refine sure_none.mono ?_; rintro e w2 ⟨rfl, rfl⟩))
  go_ret
  exact ⟨k1, rfl⟩

set_option maxHeartbeats 1000000 in
theorem operate_minus_over {B : Nat} {w0 : World} (a b : Int) (h : decide (a < wrap64 (a - b)) = !decide (b < 0)) {eb : Addr} {txt : ByteArray} (hg : 3 < B) (hb : eb.block < B) (he : ErrIn w0 3 eb txt) : OperIs B w0 (98, .int .i64 a) ⟨#[45]⟩ (98, .int .i64 b) (.error (strV txt)) := by
  intro w hs hB
  have he' : ErrIn w 3 eb txt := ⟨hs.cell hg he.1, hs.cellA hb he.2⟩
  simp only [iv, Res.Is']
  go_enter Tryz.func183, Tryz.ntmps183
  go_wp2_with (first
    | (go_at_call 128; refine (Subtract_over a b _ he' h).mono ?_; rintro e w1 ⟨rfl, k1⟩)
    | (go_at_call 94; refine (sure_err (he'.below k1)).mono ?_; rintro e w2 ⟨k2, bb, hbb, rfl, hc⟩))
  exact ⟨rfl, k1.trans (k2.mono k1.size), bb, Nat.le_trans k1.size hbb, rfl, hc⟩

set_option maxHeartbeats 1000000 in
theorem operate_times_zero {B : Nat} {w0 : World} (b : Int) : OperIs B w0 (98, .int .i64 0) ⟨#[42]⟩ (98, .int .i64 b) (.ok (98, .int .i64 (0))) := by
  intro w hs hB
  simp only [iv, Res.Is']
  go_enter Tryz.func183, Tryz.ntmps183
  go_wp2_with (first
    | (go_at_call 228; refine (Multiply_zero b _).mono ?_; rintro e w1 ⟨rfl, k1⟩)
    | (go_at_call 94; refine sure_none.mono ?_; rintro e w2 ⟨rfl, rfl⟩))
  go_ret
  exact ⟨k1, rfl⟩

set_option maxHeartbeats 1000000 in
theorem operate_times_fits {B : Nat} {w0 : World} (a b : Int) (ha : ¬ a = 0) (h : wrap64 ((wrap64 (a * b)).tdiv a) = b) (hm : ¬ a = -1) : OperIs B w0 (98, .int .i64 a) ⟨#[42]⟩ (98, .int .i64 b) (.ok (98, .int .i64 (wrap64 (a * b)))) := by
  intro w hs hB
  simp only [iv, Res.Is']
  go_enter Tryz.func183, Tryz.ntmps183
  go_wp2_with (first
    | (go_at_call 228; refine (Multiply_fits a b _ ha h hm).mono ?_; rintro e w1 ⟨rfl, k1⟩)
    | (go_at_call 94; refine sure_none.mono ?_; rintro e w2 ⟨rfl, rfl⟩))
  go_ret
  exact ⟨k1, rfl⟩

set_option maxHeartbeats 1000000 in
theorem operate_times_turns {B : Nat} {w0 : World} (b : Int) (h : wrap64 (-wrap64 (-b)) = b) (hm : ¬ b = -9223372036854775808) : OperIs B w0 (98, .int .i64 (-1)) ⟨#[42]⟩ (98, .int .i64 b) (.ok (98, .int .i64 (wrap64 (-b)))) := by
  intro w hs hB
  simp only [iv, Res.Is']
  go_enter Tryz.func183, Tryz.ntmps183
  go_wp2_with (first
    | (go_at_call 228; refine (Multiply_turns b _ h hm).mono ?_; rintro e w1 ⟨rfl, k1⟩)
    | (go_at_call 94; refine sure_none.mono ?_; rintro e w2 ⟨rfl, rfl⟩))
  go_ret
  exact ⟨k1, rfl⟩

set_option maxHeartbeats 1000000 in
theorem operate_times_over {B : Nat} {w0 : World} (a b : Int) (ha : ¬ a = 0) (h : ¬ wrap64 ((wrap64 (a * b)).tdiv a) = b) {eb : Addr} {txt : ByteArray} (hg : 3 < B) (hb : eb.block < B) (he : ErrIn w0 3 eb txt) : OperIs B w0 (98, .int .i64 a) ⟨#[42]⟩ (98, .int .i64 b) (.error (strV txt)) := by
  intro w hs hB
  have he' : ErrIn w 3 eb txt := ⟨hs.cell hg he.1, hs.cellA hb he.2⟩
  simp only [iv, Res.Is']
  go_enter Tryz.func183, Tryz.ntmps183
  go_wp2_with (first
    | (go_at_call 228; refine (Multiply_over a b _ he' ha h).mono ?_; rintro e w1 ⟨rfl, k1⟩)
    | (go_at_call 94; refine (sure_err (he'.below k1)).mono ?_; rintro e w2 ⟨k2, bb, hbb, rfl, hc⟩))
  exact ⟨rfl, k1.trans (k2.mono k1.size), bb, Nat.le_trans k1.size hbb, rfl, hc⟩

set_option maxHeartbeats 1000000 in
theorem operate_times_least {B : Nat} {w0 : World}  {eb : Addr} {txt : ByteArray} (hg : 3 < B) (hb : eb.block < B) (he : ErrIn w0 3 eb txt) : OperIs B w0 (98, .int .i64 (-1)) ⟨#[42]⟩ (98, .int .i64 (-9223372036854775808)) (.error (strV txt)) := by
  intro w hs hB
  have he' : ErrIn w 3 eb txt := ⟨hs.cell hg he.1, hs.cellA hb he.2⟩
  simp only [iv, Res.Is']
  go_enter Tryz.func183, Tryz.ntmps183
  go_wp2_with (first
    | (go_at_call 228; refine (Multiply_least _ he').mono ?_; rintro e w1 ⟨rfl, k1⟩)
    | (go_at_call 94; refine (sure_err (he'.below k1)).mono ?_; rintro e w2 ⟨k2, bb, hbb, rfl, hc⟩))
  exact ⟨rfl, k1.trans (k2.mono k1.size), bb, Nat.le_trans k1.size hbb, rfl, hc⟩

set_option maxHeartbeats 1000000 in
theorem operate_over_ok {B : Nat} {w0 : World} (a b : Int) (hb : ¬ b = 0) (hm : ¬ a = -9223372036854775808) : OperIs B w0 (98, .int .i64 a) ⟨#[47]⟩ (98, .int .i64 b) (.ok (98, .int .i64 (wrap64 (a.tdiv b)))) := by
  intro w hs hB
  simp only [iv, Res.Is']
  go_enter Tryz.func183, Tryz.ntmps183
  go_wp2_with (first
    | (go_at_call 229; refine (Divide_ok a b _ hb hm).mono ?_; rintro e w1 ⟨rfl, k1⟩)
    | (go_at_call 94; refine sure_none.mono ?_; rintro e w2 ⟨rfl, rfl⟩))
  go_ret
  exact ⟨k1, rfl⟩

set_option maxHeartbeats 1000000 in
theorem operate_over_least {B : Nat} {w0 : World} (b : Int) (hb : ¬ b = 0) (hm : ¬ b = -1) : OperIs B w0 (98, .int .i64 (-9223372036854775808)) ⟨#[47]⟩ (98, .int .i64 b) (.ok (98, .int .i64 (wrap64 (Int.tdiv (-9223372036854775808) b)))) := by
  intro w hs hB
  simp only [iv, Res.Is']
  go_enter Tryz.func183, Tryz.ntmps183
  go_wp2_with (first
    | (go_at_call 229; refine (Divide_least b _ hb hm).mono ?_; rintro e w1 ⟨rfl, k1⟩)
    | (go_at_call 94; refine sure_none.mono ?_; rintro e w2 ⟨rfl, rfl⟩))
  go_ret
  exact ⟨k1, by simp⟩

set_option maxHeartbeats 1000000 in
theorem operate_over_over {B : Nat} {w0 : World}  {eb : Addr} {txt : ByteArray} (hg : 3 < B) (hb : eb.block < B) (he : ErrIn w0 3 eb txt) : OperIs B w0 (98, .int .i64 (-9223372036854775808)) ⟨#[47]⟩ (98, .int .i64 (-1)) (.error (strV txt)) := by
  intro w hs hB
  have he' : ErrIn w 3 eb txt := ⟨hs.cell hg he.1, hs.cellA hb he.2⟩
  simp only [iv, Res.Is']
  go_enter Tryz.func183, Tryz.ntmps183
  go_wp2_with (first
    | (go_at_call 229; refine (Divide_over _ he').mono ?_; rintro e w1 ⟨rfl, k1⟩)
    | (go_at_call 94; refine (sure_err (he'.below k1)).mono ?_; rintro e w2 ⟨k2, bb, hbb, rfl, hc⟩))
  exact ⟨rfl, k1.trans (k2.mono k1.size), bb, Nat.le_trans k1.size hbb, rfl, hc⟩

set_option maxHeartbeats 1000000 in
theorem operate_over_zero {B : Nat} {w0 : World} (a : Int) {eb : Addr} {txt : ByteArray} (hg : 9 < B) (hb : eb.block < B) (he : ErrIn w0 9 eb txt) : OperIs B w0 (98, .int .i64 a) ⟨#[47]⟩ (98, .int .i64 0) (.error (strV txt)) := by
  intro w hs hB
  have he' : ErrIn w 9 eb txt := ⟨hs.cell hg he.1, hs.cellA hb he.2⟩
  simp only [iv, Res.Is']
  go_enter Tryz.func183, Tryz.ntmps183
  go_wp2_with (first
    | (go_at_call 229; refine (Divide_zero a _ he').mono ?_; rintro e w1 ⟨rfl, k1⟩)
    | (go_at_call 94; refine (sure_err (he'.below k1)).mono ?_; rintro e w2 ⟨k2, bb, hbb, rfl, hc⟩))
  exact ⟨rfl, k1.trans (k2.mono k1.size), bb, Nat.le_trans k1.size hbb, rfl, hc⟩

set_option maxHeartbeats 1000000 in
theorem operate_rest_ok {B : Nat} {w0 : World} (a b : Int) (hb : ¬ b = 0) : OperIs B w0 (98, .int .i64 a) ⟨#[37]⟩ (98, .int .i64 b) (.ok (98, .int .i64 (a.tmod b))) := by
  intro w hs hB
  simp only [iv, Res.Is']
  go_enter Tryz.func183, Tryz.ntmps183
  go_wp2_with (first
    | (go_at_call 230; refine (Rest_ok a b _ hb).mono ?_; rintro e w1 ⟨rfl, k1⟩)
    | (go_at_call 94; refine sure_none.mono ?_; rintro e w2 ⟨rfl, rfl⟩))
  go_ret
  exact ⟨k1, rfl⟩

set_option maxHeartbeats 1000000 in
theorem operate_rest_zero {B : Nat} {w0 : World} (a : Int) {eb : Addr} {txt : ByteArray} (hg : 9 < B) (hb : eb.block < B) (he : ErrIn w0 9 eb txt) : OperIs B w0 (98, .int .i64 a) ⟨#[37]⟩ (98, .int .i64 0) (.error (strV txt)) := by
  intro w hs hB
  have he' : ErrIn w 9 eb txt := ⟨hs.cell hg he.1, hs.cellA hb he.2⟩
  simp only [iv, Res.Is']
  go_enter Tryz.func183, Tryz.ntmps183
  go_wp2_with (first
    | (go_at_call 230; refine (Rest_zero a _ he').mono ?_; rintro e w1 ⟨rfl, k1⟩)
    | (go_at_call 94; refine (sure_err (he'.below k1)).mono ?_; rintro e w2 ⟨k2, bb, hbb, rfl, hc⟩))
  exact ⟨rfl, k1.trans (k2.mono k1.size), bb, Nat.le_trans k1.size hbb, rfl, hc⟩
end Go.Proofs.Tryz

namespace Go.Proofs.Tryz
open Go.RowKit
set_option maxRecDepth 10000

abbrev arrV (g n c : Nat) : Value := .iface 86 (.slice (some ⟨g, 0, none⟩) n c)

set_option maxHeartbeats 1000000 in
theorem holds_ok {g n c : Nat} (i : Int) (w : World) : Calls Tryz.prog 147 #[arrV g n c, numV i] w fun e w' => e = .returned (.bool true) ∧ Below w.heap.size w w' := by
  have m0 := missVNull; have m1 := hitVNumber; have m2 := missVString; have m3 := hitVArray; have m4 := missVObject; have m5 := missVBool
  go_enter Tryz.func147, Tryz.ntmps147
  go_wp2
  go_ret
  exact ⟨rfl, Below.refl _ _⟩
set_option maxHeartbeats 1000000 in
theorem find_ok {g n c : Nat} (i : Nat) (hi : i < n) (hn : n ≤ 1000) (w : World) : Calls Tryz.prog 148 #[.slice (some ⟨g, 0, none⟩) n c, numV i] w fun e w' => e = .returned (.tuple #[.int .i64 i, .bool true]) ∧ Below w.heap.size w w' := by
  have m1 := hitVNumber
  have h1 : ¬ (i : Int) < 0 := by omega
  have h2 : (i : Int) < (n : Int) := by omega
  go_enter Tryz.func148, Tryz.ntmps148
  go_wp2
  go_ret2
  exact ⟨rfl, Below.refl _ _⟩
set_option maxHeartbeats 1000000 in
theorem At_ok {g n c : Nat} (i : Nat) (hi : i < n) (hn : n ≤ 1000) (w : World) {a : Int} (h : w.cell? ⟨g, i, none⟩ = some (numV a)) : Calls Tryz.prog 95 #[arrV g n c, numV i] w fun e w' => e = .returned (.tuple #[numV a, .nilIface]) ∧ Below w.heap.size w w' := by
  have m0 := missVNull; have m1 := hitVNumber; have m2 := missVString; have m3 := hitVArray; have m4 := missVObject; have m5 := missVBool
  have h2 : (i : Int) < (n : Int) := by omega
  have h0 : (0 : Int) ≤ (i : Int) := by omega
  go_enter Tryz.func95, Tryz.ntmps95
  go_wp2_with (first
    | (go_at_call 147; refine (holds_ok _ _).mono ?_; rintro e w1 ⟨rfl, k1⟩)
    | (go_at_call 148; refine (find_ok i hi hn _).mono ?_; rintro e w2 ⟨rfl, k2⟩; have k := k1.trans (k2.mono k1.size); have c2 := (k.cell (lt_cell h)).trans h))
  go_ret2
  exact ⟨rfl, k⟩

theorem atIs {B g n c : Nat} {w0 : World} (i : Nat) (hi : i < n) (hn : n ≤ 1000) (hg : g < B) {a : Int} (h : w0.cell? ⟨g, i, none⟩ = some (numV a)) : AtIs B w0 (86, .slice (some ⟨g, 0, none⟩) n c) (98, .int .i64 i) (98, .int .i64 a) :=
  fun w hs _ => At_ok i hi hn w (hs.cell hg h)

/- The two elements of the array, as filters. -/
/-- How .[0] op .[1] lies, and what it comes to. -/
theorem opens_elem {B g c : Nat} {w0 : World} {a1 : Int} (i : Nat) (hi : i < 2) (hg : g < B) (h : w0.cell? ⟨g, i, none⟩ = some (numV a1)) {v : Value} (hv : Rep (· < B) w0 v (.index .ident (.num i))) :
    Opens B w0 v (86, .slice (some ⟨g, 0, none⟩) 2 c) [(98, .int .i64 a1)] .none := by
  obtain ⟨b9, x9, y9, rfl, hb, c0, c1, h0, h1⟩ := Rep.index_of hv
  obtain ⟨b8, rfl⟩ := Rep.ident_of h0
  obtain ⟨b7, rfl, hb1, c2⟩ := Rep.num_of h1
  exact opens_index hb c0 c1 (opens_ident _) (opens_num _ hb1 c2) (atIs i hi (by omega) hg h)
end Go.Proofs.Tryz

