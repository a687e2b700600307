import Derived.Test.YtndoeeampclfaaaGreatDoorStep13
import Derived.Test.YtndoeeampclfaaaGreatDoorNames7
import Derived.Lib.AppendStr
import Derived.Deep.RegionLaw
import Derived.Lib.ParseIntB
import Derived.Deep.LoopGhost
import Derived.Lib.ItoaMem
set_option linter.all false
namespace Go.Proofs.Tryz
set_option maxHeartbeats 16000000
open Go.RowKit
set_option maxRecDepth 10000
theorem Fr.of_grownBy {w w':World}{r:Option Nat}{D:Nat→Prop}(h:w.grownBy w' r) (hD:∀ k,some k=r→D k):Fr D w w' :=
 ⟨h.os,h.tape,h.output,h.size,fun k hk hd=>h.block k hk (fun e=>hd (hD k e))⟩
theorem heap_news (a:World) (o:Obj) {n:Nat}(h:a.heap.size=n):(a.alloc o).heap[n]? = some o:=by subst h;exact heap_new a o
end Go.Proofs.Tryz
namespace Go.Proofs.Tryz
set_option maxHeartbeats 16000000
open Go.RowKit
set_option maxRecDepth 10000
theorem cells_set {w:World}{g k:Nat}{cs:Array Value}{t:TypeId}{u:Value}(h:w.heap[g]? = some (.cells cs t (0,0))):(w.setCell ⟨g,k,none⟩ u).heap[g]? = some (.cells (cs.setIfInBounds k u) t (0,0)):=by
 have hlt:=lt_of_block h
 have h':w.heap[g] = .cells cs t (0,0):=by simpa [Array.getElem?_eq_getElem hlt] using h
 show (w.heap.modify g _)[g]? = _
 rw [Array.getElem?_eq_getElem (by simpa using hlt),Array.getElem_modify_self,h']
 rfl
theorem cells_cell {w:World}{g k:Nat}{cs:Array Value}{t:TypeId}{v:Value}(h:w.heap[g]? = some (.cells cs t (0,0))) (hv:cs[k]? = some v):w.cell? ⟨g,k,none⟩=some v:=by simp [World.cell?,h,hv]
theorem cells_free {w:World}{g k:Nat}{cs:Array Value}{t:TypeId}(h:w.heap[g]? = some (.cells cs t (0,0))):w.frozen? ⟨g,k,none⟩=false:=by simp [World.frozen?,h]
end Go.Proofs.Tryz
namespace Go.Proofs.Tryz
set_option maxHeartbeats 16000000
open Go.RowKit
set_option maxRecDepth 10000
def VBlk (w:World) (vb:Nat) (s:ByteArray) (a:Nat) (ov:Value):Prop:=w.heap[vb]? = some (.cells #[.string s,.int .i64 a,ov] 47 (0,0))
theorem three_facts' {w:World}{b:Nat}{x y z:Value}{t:TypeId}(h:w.heap[b]? = some (.cells #[x,y,z] t (0,0))):w.cell? ⟨b,0,none⟩=some x∧w.cell? ⟨b,1,none⟩=some y∧w.cell? ⟨b,2,none⟩=some z∧w.frozen? ⟨b,0,none⟩=false∧w.frozen? ⟨b,1,none⟩=false∧w.frozen? ⟨b,2,none⟩=false∧b < w.heap.size:=by
 refine ⟨?_,?_,?_,?_,?_,?_,lt_of_block h⟩ <;> simp [World.cell?,World.frozen?,h]
theorem VBlk.at {w:World}{vb a:Nat}{s:ByteArray}{ov:Value}(h:VBlk w vb s a ov) (hle:a≤s.size) (hm:s.size≤100000):VAt w vb s a:=by
 obtain ⟨c0,c1,c2,f0,f1,f2,hl⟩:=three_facts' h
 exact ⟨c0,c1,f1,hle,hm⟩
theorem VBlk.set {w:World}{vb a b:Nat}{s:ByteArray}{ov:Value}(h:VBlk w vb s a ov):VBlk (w.setCell ⟨vb,1,none⟩ (.int .i64 b)) vb s b ov:=cells_set h
theorem VBlk.drewN {w:World}{vb a:Nat}{s:ByteArray}{ov:Value}(h:VBlk w vb s a ov) (n:Nat):VBlk (w.drewN n) vb s a ov:=h
theorem VBlk.same {w w':World}{vb a:Nat}{s:ByteArray}{ov:Value}(h:VBlk w vb s a ov) (e:w'.heap[vb]? = w.heap[vb]?):VBlk w' vb s a ov:=e.trans h
end Go.Proofs.Tryz
namespace Go.Proofs.Tryz
set_option maxHeartbeats 16000000
open Go.RowKit
set_option maxRecDepth 10000
theorem dec_small {u:Nat}(h:u < 10):Lib.decDigits u=[UInt8.ofNat (48+u)]:=by rw [Lib.decDigits,dif_pos h]
theorem dec_big {u:Nat}(h:¬ u < 10):Lib.decDigits u=Lib.decDigits (u / 10) ++ [UInt8.ofNat (48+u % 10)]:=by rw [Lib.decDigits,dif_neg h]
theorem ofNat_dig {k:Nat}(h:k < 10):(UInt8.ofNat (48+k)).toNat=48+k:=by
 simp [UInt8.toNat_ofNat'];omega
theorem dec_ne (u:Nat):Lib.decDigits u≠[]:=by
 by_cases h:u < 10
 ·rw [dec_small h];simp
 ·rw [dec_big h];simp
theorem dec_all (u:Nat):∀ c∈Lib.decDigits u,48≤c.toNat∧c.toNat≤57:=by
 induction u using Nat.strongRecOn with
 | _ u ih =>
  intro c hc
  by_cases h:u < 10
  ·rw [dec_small h] at hc
   simp only [List.mem_singleton] at hc
   subst hc
   rw [ofNat_dig h];omega
  ·rw [dec_big h,List.mem_append] at hc
   rcases hc with hc | hc
   ·exact ih (u / 10) (by omega) c hc
   ·simp only [List.mem_singleton] at hc
    subst hc
    rw [ofNat_dig (Nat.mod_lt _ (by omega))];omega
theorem dec_lead (u:Nat) (h:1≤u):∀ c r,Lib.decDigits u=c :: r→c.toNat≠48:=by
 induction u using Nat.strongRecOn with
 | _ u ih =>
  intro c r hc
  by_cases h10:u < 10
  ·rw [dec_small h10] at hc
   simp only [List.cons.injEq] at hc
   rw [← hc.1,ofNat_dig h10];omega
  ·rw [dec_big h10] at hc
   cases e:Lib.decDigits (u / 10) with
   | nil=>exact absurd e (dec_ne _)
   | cons c' r' =>
    rw [e,List.cons_append] at hc
    simp only [List.cons.injEq] at hc
    rw [← hc.1]
    exact ih (u / 10) (by omega) (by omega) c' r' e
theorem dec_nought:Lib.decDigits 0=[48]:=by rw [dec_small (by omega)];rfl
theorem parseM_snoc (M:Nat):∀ (l:List UInt8) (acc v:Nat) (c:UInt8),Lib.parseUintM M acc l = .ok v→Lib.parseUintM M acc (l ++ [c])=Lib.parseUintM M v [c]
 | [],acc,v,c,h=>by
  simp only [Lib.parseUintM] at h
  cases h
  rfl
 | d :: l,acc,v,c,h=>by
  simp only [List.cons_append]
  rw [Lib.parseUintM] at h ⊢
  split
  ·rename_i hd
   rw [if_pos hd] at h
   split
   ·rename_i h1;rw [if_pos h1] at h;cases h
   ·rename_i h1
    rw [if_neg h1] at h
    split
    ·rename_i h2;rw [if_pos h2] at h;cases h
    ·rename_i h2
     rw [if_neg h2] at h
     exact parseM_snoc M l _ v c h
  ·rename_i hd
   rw [if_neg hd] at h
   cases h
theorem parse_dec (u:Nat):u≤18446744073709551615→Lib.parseUintM 18446744073709551615 0 (Lib.decDigits u) = .ok u:=by
 induction u using Nat.strongRecOn with
 | _ u ih =>
  intro hu
  by_cases h:u < 10
  ·rw [dec_small h,Lib.parseUintM,if_pos (by rw [ofNat_dig h];omega),if_neg (by omega),if_neg (by rw [ofNat_dig h];omega),Lib.parseUintM,ofNat_dig h]
   congr 1;omega
  ·have hd:=ofNat_dig (Nat.mod_lt u (show 0 < 10 by omega))
   rw [dec_big h,parseM_snoc _ _ _ _ _ (ih (u / 10) (by omega) (by omega)),Lib.parseUintM,if_pos (by rw [hd];omega),if_neg (by omega),if_neg (by rw [hd];omega),Lib.parseUintM,hd]
   congr 1;omega
theorem parse_itoa (n:Int) (h0 : -9223372036854775808≤n) (h1:n≤9223372036854775807):Lib.parseIntB 64 (Lib.itoa n) = .ok n:=by
 by_cases hn:n < 0
 ·have e:Lib.itoa n=45 :: Lib.decDigits n.natAbs:=by unfold Lib.itoa;rw [if_pos hn]
  rw [e]
  have hp:=parse_dec n.natAbs (by omega)
  simp only [Lib.parseIntB,Lib.parseUintB]
  simp [dec_ne,hp]
  rw [if_neg (by omega)]
  congr 1;omega
 ·have e:Lib.itoa n=Lib.decDigits n.toNat:=by unfold Lib.itoa;rw [if_neg hn]
  rw [e]
  have hp:=parse_dec n.toNat (by omega)
  cases hd:Lib.decDigits n.toNat with
  | nil=>exact absurd hd (dec_ne _)
  | cons c r =>
   have hc:=dec_all n.toNat c (by rw [hd];simp)
   rw [hd] at hp
   have q:¬ (c.toNat=43∨c.toNat=45):=by omega
   simp only [Lib.parseIntB,Lib.parseUintB,if_neg q]
   simp [hp]
   rw [if_neg (by omega),if_neg (by omega),if_neg (by omega)]
   congr 1;omega
end Go.Proofs.Tryz
