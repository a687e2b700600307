import Derived.Test.YtndoeeampclfaaaGreatDoorFx9
set_option linter.all false
namespace Go.Proofs.Tryz
set_option maxHeartbeats 16000000
open Go.RowKit
set_option maxRecDepth 10000
def leafK (x:IV):Prop:=x=(95,.agg #[])∨(∃ b,x=(96,.bool b))∨(∃ n:Int,-9223372036854775808≤n∧n≤9223372036854775807∧x=(98,.int .i64 n))∨∃ t:ByteArray,x=(100,.string t)
theorem cmpInt_eq (a:Int) (w:World):Calls Tryz.prog 265 #[.int .i64 a,.int .i64 a] w fun e w'=>e = .returned (.int .i64 0)∧Below w.heap.size w w':=by
 go_enter Tryz.func265,Tryz.ntmps265
 go_wp2
 go_ret
 exact ⟨rfl,Below.refl _ _⟩
theorem cmpInt_id (a:Int) (w:World):Calls Tryz.prog 265 #[.int .i64 a,.int .i64 a] w fun e w'=>e = .returned (.int .i64 0)∧w'=w:=by
 go_enter Tryz.func265,Tryz.ntmps265
 go_wp2
 go_ret
 exact ⟨rfl,rfl⟩
theorem truth_ok (b:Bool) (w:World):Calls Tryz.prog 293 #[.bool b] w fun e w'=>e = .returned (.int .i64 (if b then 1 else 0))∧w'=w:=by
 cases b
 ·go_enter Tryz.func293,Tryz.ntmps293
  go_wp2
  go_ret
  exact ⟨rfl,rfl⟩
 ·go_enter Tryz.func293,Tryz.ntmps293
  go_wp2
  go_ret
  exact ⟨rfl,rfl⟩
theorem kind_null (w:World):Calls Tryz.prog 297 #[.iface 95 (.agg #[])] w fun e w'=>e = .returned (.int .i64 0)∧Below w.heap.size w w':=by
 have m0:=hitVNull;have m1:=missVNumber;have m2:=missVString;have m3:=missVArray;have m4:=missVObject;have m5:=missVBool
 go_enter Tryz.func297,Tryz.ntmps297
 go_wp2
 go_ret
 exact ⟨rfl,Below.refl _ _⟩
theorem kind_arr (r:Value) (w:World):Calls Tryz.prog 297 #[.iface 86 r] w fun e w'=>e = .returned (.int .i64 4)∧Below w.heap.size w w':=by
 have m0:=missVNull;have m1:=missVNumber;have m2:=missVString;have m3:=hitVArray;have m4:=missVObject;have m5:=missVBool
 go_enter Tryz.func297,Tryz.ntmps297
 go_wp2
 go_ret
 exact ⟨rfl,Below.refl _ _⟩
theorem outside_null (w:World):Calls Tryz.prog 263 #[.iface 95 (.agg #[]),.iface 95 (.agg #[])] w fun e w'=>e = .returned (.int .i64 0)∧Below w.heap.size w w':=by
 have m0:=hitVNull;have m1:=missVNumber;have m2:=missVString;have m3:=missVArray;have m4:=missVObject;have m5:=missVBool
 go_enter Tryz.func263,Tryz.ntmps263
 go_wp2_with (first
  | (go_at_call 297;refine (kind_null _).mono ?_;rintro e w1 ⟨rfl,k1⟩;first | (have k3:=k2.trans (k1.mono k2.size);clear k1) | (have k2:=k1;clear k1))
  | (go_at_call 265;refine (cmpInt_eq _ _).mono ?_;rintro e w3 ⟨rfl,k4⟩))
 go_ret
 exact ⟨rfl,k3.trans (k4.mono k3.size)⟩
theorem outside_arr (r r':Value) (w:World):Calls Tryz.prog 263 #[.iface 86 r,.iface 86 r'] w fun e w'=>e = .returned (.int .i64 0)∧Below w.heap.size w w':=by
 have m0:=missVNull;have m1:=missVNumber;have m2:=missVString;have m3:=hitVArray;have m4:=missVObject;have m5:=missVBool
 go_enter Tryz.func263,Tryz.ntmps263
 go_wp2_with (first
  | (go_at_call 297;refine (kind_arr _ _).mono ?_;rintro e w1 ⟨rfl,k1⟩;first | (have k3:=k2.trans (k1.mono k2.size);clear k1) | (have k2:=k1;clear k1))
  | (go_at_call 265;refine (cmpInt_eq _ _).mono ?_;rintro e w3 ⟨rfl,k4⟩))
 go_ret
 exact ⟨rfl,k3.trans (k4.mono k3.size)⟩
theorem outside_bool (b:Bool) (w:World):Calls Tryz.prog 263 #[.iface 96 (.bool b),.iface 96 (.bool b)] w fun e w'=>e = .returned (.int .i64 0)∧Below w.heap.size w w':=by
 have m0:=missVNull;have m1:=missVNumber;have m2:=missVString;have m3:=missVArray;have m4:=missVObject;have m5:=hitVBool
 obtain ⟨t,ht⟩:∃ t:Int,(if b then 1 else 0)=t:=⟨_,rfl⟩
 go_enter Tryz.func263,Tryz.ntmps263
 go_wp2_with (first
  | (go_at_call 293;refine (truth_ok b _).mono ?_;rintro e w1 ⟨rfl,rfl⟩;rw [ht])
  | (go_at_call 265;refine (cmpInt_eq _ _).mono ?_;rintro e w3 ⟨rfl,k4⟩))
 go_ret
 exact ⟨rfl,k4⟩
theorem outside_str (hC:ComparesStr) (t:ByteArray) (w:World):Calls Tryz.prog 263 #[.iface 100 (.string t),.iface 100 (.string t)] w fun e w'=>e = .returned (.int .i64 0)∧Below w.heap.size w w':=by
 have m0:=missVNull;have m1:=missVNumber;have m2:=hitVString;have m3:=missVArray;have m4:=missVObject;have m5:=missVBool
 go_enter Tryz.func263,Tryz.ntmps263
 go_wp2_with (go_at_call 188;refine (hC t t _).mono ?_;rintro e w1 ⟨rfl,rfl⟩;rw [cmp_self])
 go_ret
 exact ⟨rfl,Below.refl _ _⟩
theorem outside_leaf (hC:ComparesStr) {x:IV}(h:leafK x) (w:World):Calls Tryz.prog 263 #[iv x,iv x] w fun e w'=>e = .returned (.int .i64 0)∧Below w.heap.size w w':=by
 rcases h with rfl | ⟨b,rfl⟩ | ⟨n,_,_,rfl⟩ | ⟨t,rfl⟩
 ·exact outside_null w
 ·exact outside_bool b w
 ·have:=outside_ok n n w
  rw [show sgn n n=0 by simp [sgn]] at this
  exact this
 ·exact outside_str hC t w
theorem parts_leaf {x:IV}(h:leafK x) (w:World):Calls Tryz.prog 264 #[iv x] w fun e w'=>e = .returned (.slice none 0 0)∧Below w.heap.size w w':=by
 rcases h with rfl | ⟨b,rfl⟩ | ⟨n,_,_,rfl⟩ | ⟨t,rfl⟩
 ·have m0:=hitVNull;have m1:=missVNumber;have m2:=missVString;have m3:=missVArray;have m4:=missVObject;have m5:=missVBool
  simp only [iv]
  go_enter Tryz.func264,Tryz.ntmps264
  go_wp2
  go_ret
  exact ⟨rfl,Below.refl _ _⟩
 ·have m0:=missVNull;have m1:=missVNumber;have m2:=missVString;have m3:=missVArray;have m4:=missVObject;have m5:=hitVBool
  simp only [iv]
  go_enter Tryz.func264,Tryz.ntmps264
  go_wp2
  go_ret
  exact ⟨rfl,Below.refl _ _⟩
 ·exact parts_ok n w
 ·have m0:=missVNull;have m1:=missVNumber;have m2:=hitVString;have m3:=missVArray;have m4:=missVObject;have m5:=missVBool
  simp only [iv]
  go_enter Tryz.func264,Tryz.ntmps264
  go_wp2
  go_ret
  exact ⟨rfl,Below.refl _ _⟩
theorem parts_arr (p:Option Addr) (n c:Nat) (w:World):Calls Tryz.prog 264 #[.iface 86 (.slice p n c)] w fun e w'=>e = .returned (.slice p n c)∧Below w.heap.size w w':=by
 have m0:=missVNull;have m1:=missVNumber;have m2:=missVString;have m3:=hitVArray;have m4:=missVObject;have m5:=missVBool
 go_enter Tryz.func264,Tryz.ntmps264
 go_wp2
 go_ret
 exact ⟨rfl,Below.refl _ _⟩
end Go.Proofs.Tryz
namespace Go.Proofs.Tryz
set_option maxHeartbeats 16000000
open Go.RowKit
set_option maxRecDepth 10000
def outF:Value:=.func (.func 296) #[] #[]
theorem outC_ok (hC:ComparesStr) (kx:ByteArray) (Tx Ty:Nat) (ux uy:Value) (w:World) :
  Calls Tryz.prog 296 #[.agg #[.string kx,.iface Tx ux],.agg #[.string kx,.iface Ty uy]] w fun e w'=>e = .returned (.int .i64 0)∧Below w.heap.size w w':=by
 go_enter Tryz.func296,Tryz.ntmps296
 go_wp2_with (go_at_call 188;refine (hC _ _ _).mono ?_;rintro e w1 ⟨rfl,rfl⟩;rw [cmp_self])
 go_ret
 exact ⟨rfl,by first | exact below_alloc2 _ _ _ | exact Below.refl _ _ | exact below_alloc _ _⟩
theorem cmpFunc_same (hC:ComparesStr) {w:World}{a b ca cb n C C':Nat}{L L':List El}(hM:Mem w a C L) (hM':Mem w b C' L') (hn:L.length=n) (hn':L'.length=n) (hk:∀ (i:Nat) (x y:El),L[i]? = some x→L'[i]? = some y→x.1=y.1) (hmax:n≤1000000000) :
  Calls Tryz.prog 295 #[.slice (some ⟨a,0,none⟩) n ca,.slice (some ⟨b,0,none⟩) n cb,outF] w fun e w'=>e = .returned (.int .i64 0)∧Below w.heap.size w w':=by
 have hla:=hM.lt
 have hlb:=hM'.lt
 unfold outF
 go_enter Tryz.func295,Tryz.ntmps295
 go_wp2_with fail
 go_loopg [13] n (fun k v wr=>∃ i:Nat,i+k=n∧v = .int .i64 i∧Below w.heap.size w wr)
 case atStart=>exact ⟨0,by omega,rfl,Below.refl _ _⟩
 case round =>
  obtain ⟨i,hi,rfl,hb⟩:=hrel
  match gk,hi with
  | 0,hi =>
   have hz:¬ (i:Int) < (n:Int):=by omega
   go_wp2_with fail
   go_ret
   exact ⟨rfl,hb⟩
  | k+1,hi =>
   have hz:(i:Int) < (n:Int):=by omega
   have hz2:¬ (n:Int)≤(i:Int):=by omega
   obtain ⟨⟨kx,⟨Tx,ux⟩,tx⟩,hx⟩:∃ x,L[i]? = some x:=⟨_,List.getElem?_eq_getElem (by omega)⟩
   obtain ⟨⟨ky,⟨Ty,uy⟩,ty⟩,hy⟩:∃ x,L'[i]? = some x:=⟨_,List.getElem?_eq_getElem (by omega)⟩
   have hkk:=hk i _ _ hx hy
   simp only at hkk
   subst hkk
   obtain ⟨x0,x1⟩:=hM.at hx
   obtain ⟨y0,y1⟩:=hM'.at hy
   simp only [iv] at x0 x1 y0 y1
   have hs:=hb.size
   have f0:=(hb.cell (p:=⟨a,i * 2,none⟩) hla).trans x0
   have f1:=(hb.cell (p:=⟨a,i * 2+1,none⟩) hla).trans x1
   have f2:∀ o,(wr.alloc o).cell? ⟨b,i * 2,none⟩=some (.string kx):=fun o=>((below_alloc wr o).cell (p:=⟨b,i * 2,none⟩) (by simp;omega)).trans ((hb.cell (p:=⟨b,i * 2,none⟩) hlb).trans y0)
   have f3:∀ o,(wr.alloc o).cell? ⟨b,i * 2+1,none⟩=some (.iface Ty uy):=fun o=>((below_alloc wr o).cell (p:=⟨b,i * 2+1,none⟩) (by simp;omega)).trans ((hb.cell (p:=⟨b,i * 2+1,none⟩) hlb).trans y1)
   clear hx hy x0 x1 y0 y1 hk hM hM'
   go_wp2_with (go_at_call 296;refine (outC_ok hC _ _ _ _ _ _).mono ?_;rintro e w1 ⟨rfl,k1⟩)
   go_roundg k
   case measure=>omega
   case rel=>exact ⟨i+1,by omega,by simp,(hb.trans ((below_alloc2 wr _ _).mono hs)).trans (k1.mono (by simp;omega))⟩
theorem cmpFunc_nil (p q:Option Addr) (c d:Nat) (w:World):Calls Tryz.prog 295 #[.slice p 0 c,.slice q 0 d,outF] w fun e w'=>e = .returned (.int .i64 0)∧Below w.heap.size w w':=by
 unfold outF
 go_enter Tryz.func295,Tryz.ntmps295
 go_wp2_with fail
 refine wp_loop_rounds 1 ?_
 rw [rounds_succ]
 go_wp2_with fail
 go_ret
 exact ⟨rfl,Below.refl _ _⟩
theorem outside_obj {r r':Value}{w:World}(h:Calls Tryz.prog 295 #[r,r',outF] w fun e w'=>e = .returned (.int .i64 0)∧Below w.heap.size w w') :
  Calls Tryz.prog 263 #[.iface 102 r,.iface 102 r'] w fun e w'=>e = .returned (.int .i64 0)∧Below w.heap.size w w':=by
 have m0:=missVNull;have m1:=missVNumber;have m2:=missVString;have m3:=missVArray;have m4:=hitVObject;have m5:=missVBool
 have H:Aside _:=h
 clear h
 go_enter Tryz.func263,Tryz.ntmps263
 go_wp2_with (go_at_call 295;refine Calls.mono H.out ?_;rintro e w1 ⟨rfl,k1⟩)
 go_ret
 exact ⟨rfl,k1⟩
end Go.Proofs.Tryz
namespace Go.Proofs.Tryz
set_option maxHeartbeats 16000000
open Go.RowKit
set_option maxRecDepth 10000
theorem parts_obj {w:World}{a ca n C:Nat}{L:List El}(hM:Mem w a C L) (hn:L.length=n) (hmax:n≤1000000000) :
  Calls Tryz.prog 264 #[.iface 102 (.slice (some ⟨a,0,none⟩) n ca)] w fun e w'=>e = .returned (.slice (some ⟨w.heap.size,0,none⟩) n n)∧w'.ownsRow w.heap.size 32 1 (.slice (some ⟨w.heap.size,0,none⟩) n n) n (L.map fun x=>iv x.2.1)∧Below w.heap.size w w':=by
 have m0:=missVNull;have m1:=missVNumber;have m2:=missVString;have m3:=missVArray;have m4:=hitVObject;have m5:=missVBool
 obtain ⟨i0,hi0,hz0,hz1,hz2⟩:=info_parts (show (Tryz.prog.info? 32).map (fun i=>(i.zero,i.size,i.bytes))=some (some .nilIface,1,16) by kernel_rfl)
 have hla:=hM.lt
 go_enter Tryz.func264,Tryz.ntmps264
 go_wp2_with (refine wpList_make_full _ (by rfl) _ _ 85 (by rfl) w.heap.size 32 i0 .nilIface 1 Tryz.underlying85 hi0 hz0 hz1 .i64 .i64 n n n (by rfl) (by rfl) rfl rfl (by rw [hz2];omega) (by unfold maxLen;omega) (Nat.le_refl _) ?_;intro w1 ow1 gr1)
 have kw1:Below w.heap.size w w1:=(Below.refl _ _).grown gr1 (Nat.le_refl _) (fun q hq=>by cases hq)
 have hl1:((madeCells (Value.cells .nilIface) (n * 1)).toList).length=n:=by have:=ow1.1;simpa using this
 go_loopg [22] n (fun k v wr=>∃ (i:Nat) (xs:List Value),i+k=n∧v = .int .i64 i∧Aside (xs.length=n∧(∀ j,j < i→xs[j]? = (L.map fun x=>iv x.2.1)[j]?)∧wr.ownsRow w.heap.size 32 1 (.slice (some ⟨w.heap.size,0,none⟩) n n) n xs∧Below w.heap.size w wr))
 case atStart=>exact ⟨0,_,by omega,rfl,hl1,fun j hj=>by omega,ow1,kw1⟩
 case round =>
  obtain ⟨i,xs,hi,rfl,HR⟩:=hrel
  match gk,hi with
  | 0,hi =>
   have hz:¬ (i:Int) < (n:Int):=by omega
   go_wp2_with fail
   go_ret
   obtain ⟨h1,h2,h3,h4⟩:=HR.out
   have hxs:xs=L.map fun x=>iv x.2.1:=by
    apply List.ext_getElem?
    intro j
    by_cases hj:j < i
    ·exact h2 j hj
    ·rw [List.getElem?_eq_none (by omega),List.getElem?_eq_none (by simp;omega)]
   exact ⟨rfl,hxs ▸ h3,h4⟩
  | k+1,hi =>
   have hz:(i:Int) < (n:Int):=by omega
   obtain ⟨h1,h2,h3,h4⟩:=HR.out
   obtain ⟨⟨kx,⟨Tx,ux⟩,tx⟩,hx⟩:∃ x,L[i]? = some x:=⟨_,List.getElem?_eq_getElem (by omega)⟩
   obtain ⟨x0,x1⟩:=hM.at hx
   simp only [iv] at x0 x1
   have f0:=(h4.cell (p:=⟨a,i * 2,none⟩) hla).trans x0
   have f1:=(h4.cell (p:=⟨a,i * 2+1,none⟩) hla).trans x1
   have hgl:=(h3.lt w.heap.size rfl).2
   obtain ⟨y,hy⟩:∃ y,xs[i]? = some y:=⟨_,List.getElem?_eq_getElem (by omega)⟩
   have c0:∀ o,(wr.alloc o).cell? ⟨w.heap.size,i,none⟩=some y:=fun o=>((below_alloc wr o).cell (p:=⟨w.heap.size,i,none⟩) hgl).trans ((h3.cellAt i (by omega)).trans hy)
   have c1:∀ o,(wr.alloc o).frozen? ⟨w.heap.size,i,none⟩=false:=fun o=>by
    rcases (h3.alloc o).2 with ⟨e,_⟩ | ⟨g',cap',cur,e,_,hb,_⟩
    ·cases e
    ·cases e;exact cells_free hb
   have HX:Hid _:=hx
   clear h1 h2 h3 hx x0 x1 hy
   go_wp2_with fail
   go_roundg k
   case measure=>omega
   case rel =>
    obtain ⟨h1,h2,h3,h4⟩:=HR.out
    refine ⟨i+1,xs.set i (.iface Tx ux),by omega,by simp,by simpa using h1,fun j hj=>?_,(h3.stored i (.iface Tx ux)).1.alloc _,(h4.setCell (p:=⟨w.heap.size,i,none⟩) (Nat.le_refl _) _).alloc (by simp;omega) _⟩
    by_cases hji:j=i
    ·subst hji
     rw [List.getElem?_set_self (by omega),List.getElem?_map,HX.out]
     rfl
    ·rw [List.getElem?_set_ne (by omega)]
     exact h2 j (by omega)
theorem parts_objNil (p:Option Addr) (c:Nat) (w:World) :
  Calls Tryz.prog 264 #[.iface 102 (.slice p 0 c)] w fun e w'=>e = .returned (.slice (some ⟨w.heap.size,0,none⟩) 0 0)∧Below w.heap.size w w':=by
 have m0:=missVNull;have m1:=missVNumber;have m2:=missVString;have m3:=missVArray;have m4:=hitVObject;have m5:=missVBool
 obtain ⟨i0,hi0,hz0,hz1,hz2⟩:=info_parts (show (Tryz.prog.info? 32).map (fun i=>(i.zero,i.size,i.bytes))=some (some .nilIface,1,16) by kernel_rfl)
 go_enter Tryz.func264,Tryz.ntmps264
 go_wp2_with (refine wpList_make_full _ (by rfl) _ _ 85 (by rfl) w.heap.size 32 i0 .nilIface 1 Tryz.underlying85 hi0 hz0 hz1 .i64 .i64 0 0 0 (by rfl) (by rfl) rfl rfl (by rw [hz2];omega) (by unfold maxLen;omega) (Nat.le_refl _) ?_;intro w1 ow1 gr1)
 have kw1:Below w.heap.size w w1:=(Below.refl _ _).grown gr1 (Nat.le_refl _) (fun q hq=>by cases hq)
 refine wp_loop_rounds 1 ?_
 rw [rounds_succ]
 go_wp2_with fail
 go_ret
 exact ⟨rfl,kw1⟩
end Go.Proofs.Tryz
