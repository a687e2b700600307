/-
  What stands ahead of the walk: strconv's contracts as the walk asks for them, and the variables as the program's own text lays them.
-/
import Derived.Test.YtfocepfmpnpaiaaGreatDoorShelf
import Derived.Test.YtfocepfmpnpaiaaGreatDoorRows
import Derived.WalkKit
import Derived.ProofKit
import Derived.OpenShut
import Derived.Lay
import Derived.Stop.Joined
import Derived.Stop.LaidErr
import Derived.Lib.LaidU8
import Derived.Lib.AppendIntMem
import Derived.Lib.ParseIntBCases
import Derived.Deep.MidRow
import Derived.WalkSmall
import Derived.Lib.OthersKept
set_option linter.all false
namespace Go.Proofs.YtfocepfmpnpaiaaGreatDoor.head
open Go.ChangeShapes Go.WideShapes Go.ChangeAt Go.RowKit Go.Shelf

/-- strconv.ParseInt at a text that spells a number. -/
theorem parse_ok (s : ByteArray) (v : Int) (w : World) (hs : s.size ≤ 9223372036854775806) (h : Lib.parseIntB 64 s.data.toList = .ok v) :
    Calls Tryz.prog 137 #[.string s, .int .i64 10, .int .i64 64] w fun e w' => e = .returned (.tuple #[.int .i64 v, .nilIface]) ∧ Below w.heap.size w w' := by
  have c : Calls Tryz.prog 137 #[.string s, .int .i64 10, .int .i64 64] w fun e w' => e = .returned (.tuple #[.int .i64 v, .nilIface]) ∧ (w' = w ∨ ∃ t, w' = Lib.bytesWorld w 5 t) := Any.strconv_ParseInt_10_at64_ok Tryz.laysC174 s hs v h w
  refine c.mono fun e w' ⟨he, hw⟩ => ⟨he, ?_⟩
  rcases hw with rfl | ⟨t, rfl⟩
  · exact Below.refl _ _
  · exact Lib.bytesWorld_below _ _ _

/-- strconv.Itoa. -/
theorem itoa_ok (n : Int) (w : World) (h0 : -9223372036854775808 ≤ n) (h1 : n ≤ 9223372036854775807) (ht : Lib.TabBelow Tryz.prog w.heap.size w "internal/strconv.uint64pow10" .u64 Lib.pow10Tab) :
    Calls Tryz.prog 31 #[.int .i64 n] w fun e w' => e = .returned (.string ⟨(Lib.itoa n).toArray⟩) ∧ Below w.heap.size w w' := by
  have c : Calls Tryz.prog 31 #[.int .i64 n] w fun e w' => e = .returned (.string ⟨(Lib.itoa n).toArray⟩) ∧ ∃ k os, w' = Sort.grow (w.drewN k) os := Any.strconv_Itoa Tryz.laysM171 n h0 h1 w ht.here
  refine c.mono fun e w' ⟨he, k, os, hw⟩ => ⟨he, ?_⟩
  subst hw
  exact Lib.below_grow _ w (Nat.le_refl _) k os

/-- strconv.AppendInt onto a row of one's own. -/
theorem app_ok (B n : Nat) (i : Int) (sv : Value) (xs : List Value) (w : World) (h0 : -9223372036854775808 ≤ i) (h1 : i ≤ 9223372036854775807) (ho : w.ownsRow B 5 1 sv n xs) (hB : B ≤ w.heap.size) (hl : n + 21 ≤ 140737488355328) (ht : Lib.TabBelow Tryz.prog B w "internal/strconv.uint64pow10" .u64 Lib.pow10Tab) :
    Calls Tryz.prog 96 #[sv, .int .i64 i, .int .i64 10] w fun e w' => ∃ v', e = .returned v' ∧ w'.ownsRow B 5 1 v' (n + (Lib.itoa i).length) (xs ++ Lib.byteCells (Lib.itoa i)) ∧ Below B w w' ∧ Lib.OthersKept 5 none w w' :=
  Any.strconv_AppendInt_10 Tryz.laysM176 B n i h0 h1 sv xs w ho hB hl ht

/-- utf8.AppendRune onto a row of one's own. -/
theorem rune_ok (B n : Nat) (r : Int) (sv : Value) (xs : List Value) (w : World) (h0 : -2147483648 ≤ r) (h1 : r ≤ 2147483647) (ho : w.ownsRow B 5 1 sv n xs) (hB : B ≤ w.heap.size) (hl : n + 4 ≤ 140737488355328) :
    Calls Tryz.prog 85 #[sv, .int .i32 r] w fun e w' => ∃ v', e = .returned v' ∧ w'.ownsRow B 5 1 v' (n + (Lib.runeCells r).length) (xs ++ Lib.runeCells r) ∧ Below B w w' := by
  have c : Calls Tryz.prog 85 #[sv, .int .i32 r] w fun e w' => ∃ v', e = .returned v' ∧ w'.ownsRow B 5 1 v' (n + (Lib.runeCells r).length) (xs ++ Lib.runeCells r) ∧ ∃ o, (w.alloc o).grownBy w' sv.ownBlock := Any.utf8_AppendRune_plain Tryz.lays242 (by kernel_rfl) B sv n xs r h0 h1 w ho hl hB
  exact c.mono fun e w' ⟨v', he, hr, o, hg⟩ => ⟨v', he, hr, ((Below.refl B w).alloc hB o).grown hg (by simp; omega) (fun q hq => (ho.lt q hq).1)⟩

/-- Up to eighteen digits spell their number. -/
theorem uint_digits : ∀ (l : List UInt8) (k acc : Nat), l.all (fun c => 48 ≤ c && c ≤ 57) = true → acc < 10 ^ k → k + l.length ≤ 18 →
    ∃ u : Nat, Lib.parseUintM (2 ^ 64 - 1) acc l = .ok u ∧ u < 10 ^ 18 ∧ (u : Int) = l.foldl (fun a c => a * 10 + ((c.toNat : Int) - 48)) (acc : Int)
  | [], k, acc, _, ha, hk => ⟨acc, rfl, Nat.lt_of_lt_of_le ha (Nat.pow_le_pow_right (by omega) (by simp at hk; omega)), rfl⟩
  | c :: r, k, acc, hd, ha, hk => by
    simp only [List.all_cons, Bool.and_eq_true, decide_eq_true_eq] at hd
    obtain ⟨⟨h48, h57⟩, hr⟩ := hd
    have n48 : 48 ≤ c.toNat := by simpa [UInt8.le_iff_toNat_le] using h48
    have n57 : c.toNat ≤ 57 := by simpa [UInt8.le_iff_toNat_le] using h57
    simp only [List.length_cons] at hk
    have hp : 10 ^ k ≤ 10 ^ 17 := Nat.pow_le_pow_right (by omega) (by omega)
    have h17 : (10 : Nat) ^ 17 = 100000000000000000 := by decide
    have ha' : acc * 10 + (c.toNat - 48) < 10 ^ (k + 1) := by rw [Nat.pow_succ]; omega
    obtain ⟨u, e, hu, hf⟩ := uint_digits r (k + 1) (acc * 10 + (c.toNat - 48)) hr ha' (by omega)
    refine ⟨u, ?_, hu, ?_⟩
    · rw [Lib.parseUintM, if_pos ⟨n48, n57⟩, if_neg (by omega), if_neg (by omega)]
      exact e
    · rw [hf, List.foldl_cons]
      congr 1
      omega
theorem int_digits (l : List UInt8) (hne : l ≠ []) (hl : l.length ≤ 18) (hd : l.all (fun c => 48 ≤ c && c ≤ 57) = true) : Lib.parseIntB 64 l = .ok (l.foldl (fun a c => a * 10 + ((c.toNat : Int) - 48)) 0) := by
  obtain ⟨u, e, hu, hf⟩ := uint_digits l 0 0 hd (by decide) (by omega)
  cases l with
  | nil => exact absurd rfl hne
  | cons c r =>
    simp only [List.all_cons, Bool.and_eq_true, decide_eq_true_eq] at hd
    obtain ⟨⟨h48, _⟩, _⟩ := hd
    have n48 : 48 ≤ c.toNat := by simpa [UInt8.le_iff_toNat_le] using h48
    rw [Lib.parseIntB_plain 64 c r (by omega) (by omega), Lib.parseUintB, if_neg (by simp), e]
    have h18 : (10 : Nat) ^ 18 = 1000000000000000000 := by decide
    have h63 : (2 : Nat) ^ (64 - 1) = 9223372036854775808 := by decide
    rw [Lib.signlessC, if_neg (by omega), hf]
    rfl

/-- An array of texts that reads as a list of texts holds them, cell for cell. -/
theorem cells_of_strs {H : Type} {enc : TypeId × Value → H} {P : Program} {w : World} {base : Nat} {sp : Nat → Bool} {held : Bool} {fuel : Nat} {t e : TypeId} {n : Nat} {cs : List Value} {bs : List ByteArray} {p : List MemPlace}
    (ht : P.underlying t = some (.array n e)) (he : P.underlying e = some .string) (hce : P.cellsOf e = 1) (hct : P.cellsOf t = n)
    (h : DataW.trod enc P w base sp held fuel t cs = some (.agg (bs.map fun b => .lit (.string b.data.toList)), p)) : cs = bs.map Value.string := by
  obtain ⟨xs, m, _, ex, hcl, hl, hel⟩ := DataW.trod_array ht h
  have hxs : xs.map (·.1) = bs.map fun b => (DataW.lit (.string b.data.toList) : DataW H) := (DataW.agg.inj (Prod.mk.inj ex).1).symm
  have hbl : bs.length = n := by
    have := congrArg List.length hxs
    simp at this
    omega
  rw [hct] at hcl
  apply List.ext_getElem?
  intro i
  by_cases hi : i < n
  · have h1 := hel i hi
    rw [hce, Nat.mul_one, List.getElem?_eq_getElem (by omega)] at h1
    obtain ⟨s, hc, hx, _⟩ := DataW.trod_string he h1
    have h2 : cs[i]? = some (.string s) := by
      have := congrArg (·[0]?) hc
      simpa [List.getElem?_take, List.getElem?_drop] using this
    have h3 : (xs.map (·.1))[i]? = some (DataW.lit (.string s.data.toList) : DataW H) := by
      rw [List.getElem?_map, List.getElem?_eq_getElem (by omega), hx]; rfl
    rw [hxs, List.getElem?_map] at h3
    obtain ⟨b, hb, hbe⟩ := Option.map_eq_some_iff.1 h3
    simp only [DataW.lit.injEq, Lit.string.injEq] at hbe
    have : b = s := by
      obtain ⟨⟨l1⟩⟩ := b
      obtain ⟨⟨l2⟩⟩ := s
      simp only at hbe
      rw [hbe]
    rw [h2, List.getElem?_map, hb, this]
    rfl
  · rw [List.getElem?_eq_none (by omega), List.getElem?_eq_none (by simp; omega)]

theorem cells9 : Tryz.prog.cellsOf 9 = 1 := by kernel_rfl
theorem cellsSigns : Tryz.prog.cellsOf 82 = 27 := by kernel_rfl
theorem cellsU64 : Tryz.prog.cellsOf 218 = 1 := by kernel_rfl
theorem cellsPow : Tryz.prog.cellsOf 233 = 20 := by kernel_rfl
theorem powData : (Rows.laid_internal_strconv_uint64pow10 : DataW Unit) = Lib.tabData .u64 Lib.pow10Tab := by kernel_rfl

/-- The table of tens. -/
theorem tab_of {W : World} (hL : laidMet Tryz.prog Rows.prettiesRow.laid W) : Lib.TabBelow Tryz.prog W.heap.size W "internal/strconv.uint64pow10" .u64 Lib.pow10Tab := by
  have h := laidMet.tail (laidMet.tail hL)
  rw [powData] at h
  exact Lib.tabBelow_of_tabIs (Lib.tabIs_of_head (g := 1) (t := 233) (by kernel_rfl) (by kernel_rfl) Tryz.underlying233 Tryz.underlying218 cellsU64 cellsPow h)

/-- The signs of the language. -/
theorem signs_of {W : World} (hL : laidMet Tryz.prog Rows.prettiesRow.laid W) (bs : List ByteArray) (hb : (Rows.laid_spigot_syntax_signs : DataW Unit) = .agg (bs.map fun b => .lit (.string b.data.toList))) (hn : bs.length = 27) : W.rangeAt 0 0 (bs.map Value.string) ∧ 0 < W.heap.size := by
  have h := laidMet.tail (laidMet.tail (laidMet.tail (laidMet.tail (laidMet.tail hL))))
  obtain ⟨ps, ⟨g, t, cs, fuel, p, q, hg, ht, hv, hd, _, _⟩, _, _⟩ := h
  obtain rfl : g = 0 := Option.some.inj (hg.symm.trans (by kernel_rfl))
  obtain rfl : t = 82 := Option.some.inj (ht.symm.trans (by kernel_rfl))
  rw [hb] at hd
  have e := cells_of_strs Tryz.underlying82 Tryz.underlying9 cells9 cellsSigns hd
  have hcell : W.rangeAt 0 0 (bs.map Value.string) := by
    intro j v hj
    have := World.var?_cell hg hv j
    rw [Nat.zero_add, this, ← Array.getElem?_toList, e, hj]
  refine ⟨hcell, ?_⟩
  match bs, hn, hcell with
  | b :: r, _, hcell =>
    have h0 := hcell 0 (.string b) rfl
    rcases Nat.lt_or_ge 0 W.heap.size with hlt | hge
    · exact hlt
    · simp [World.cell?, Array.getElem?_eq_none hge] at h0
end Go.Proofs.YtfocepfmpnpaiaaGreatDoor.head
