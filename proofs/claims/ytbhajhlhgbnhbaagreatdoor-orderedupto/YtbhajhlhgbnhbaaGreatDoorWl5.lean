import Derived.Test.YtbhajhlhgbnhbaaGreatDoorWk8
import Derived.Test.YtbhajhlhgbnhbaaGreatDoorWj3
import Derived.Test.YtbhajhlhgbnhbaaGreatDoorOb7
import Derived.Test.YtbhajhlhgbnhbaaGreatDoorFz7
import Derived.Lib.QuietBelow
import Derived.Shelf.SlSortCmp.Whole1
import Derived.Lib.AppendZerosOnto
import Derived.Lib.SliceRun
set_option linter.all false
namespace Go.Proofs.Tryz
set_option maxHeartbeats 16000000
open Go.RowKit
set_option maxRecDepth 100000
theorem up_grow {w w':World} (h:Up w w'):∃ q os',w'=Go.Sort.grow (w.drewN q) os':=by
 obtain ⟨p,rfl⟩:=regrown_of_below h.1
 have hd:w.drawn≤p.d:=h.2
 refine ⟨p.d - w.drawn,p.os,?_⟩
 have:redrawn w p.d=w.drewN (p.d - w.drawn):=by
  unfold redrawn World.drewN
  rw [show w.drawn+(p.d - w.drawn)=p.d by omega]
 rw [this]
abbrev Kn (w0:World):Type:={ t:En // ∃ d,EncV w0 d t.2.2 t.1 t.2.1∧t.2.2≤100000000 }
def knE (w0:World) (a:Kn w0):Value:=.iface a.1.1.1 a.1.1.2
def knC (w0:World) (a b:Kn w0):Int:=lexC a.1.2.1 b.1.2.1
instance (w0:World):Inhabited (Kn w0):=⟨⟨((95,.agg #[]),[0],1),0,⟨Nat.le_refl _,.inl ⟨rfl,rfl⟩⟩,by show 1≤100000000;omega⟩⟩
theorem knC_swo (w0:World):Go.Sort.SWO (ltOf (knC w0)):=by
 refine ⟨fun x=>?_,fun x y z h k=>?_,fun x y z h k=>?_⟩
 ·simp [ltOf,knC,lexC_self]
 ·exact decide_eq_true (lexC_lt_trans (of_decide_eq_true h) (of_decide_eq_true k))
 ·have h:=Int.not_lt.1 (of_decide_eq_false h)
  have k:=Int.not_lt.1 (of_decide_eq_false k)
  unfold knC at h k
  refine decide_eq_false (Int.not_lt.2 ?_)
  unfold knC
  have n1:=lexC_neg x.1.2.1 y.1.2.1
  have n2:=lexC_neg y.1.2.1 z.1.2.1
  have n3:=lexC_neg x.1.2.1 z.1.2.1
  have:=lexC_le_trans (a:=z.1.2.1) (b:=y.1.2.1) (c:=x.1.2.1) (by omega) (by omega)
  omega
theorem below_sortWorld {α:Type} [Inhabited α] {enc:α→Value}{w0 w:World}{blk m:Nat}{dk:Array α}{os:Array Obj} (hw:Below w0.heap.size w0 w) (hblk:w0.heap.size≤blk):Below w0.heap.size w0 (sortWorld enc w blk 0 m dk os):=by
 refine ⟨hw.os,hw.tape,hw.output,?_,fun k hk=>?_⟩
 ·unfold sortWorld
  rw [Go.Sort.size_grow]
  simp only [Go.Sort.size_putRow]
  have:=hw.size
  show w0.heap.size≤w.heap.size+_
  omega
 ·show ((w.heap.modify blk _) ++ os)[k]? = _
  have hs:=hw.size
  rw [Array.getElem?_append_left (by rw [Array.size_modify];omega),Array.getElem?_modify,if_neg (by omega)]
  exact hw.block k hk
theorem kn_cmp (hC:ComparesStr) {w0 w:World}{blk n:Nat} (hw:Below w0.heap.size w0 w) (hblk:w0.heap.size≤blk):CmpLays1 Tryz.prog 223 #[] (knE w0) (knC w0) blk 0 n w:=by
 intro m os dk _ x y
 obtain ⟨⟨⟨Tx,ux⟩,cx,nx⟩,dx,hx,hnx⟩:=x
 obtain ⟨⟨⟨Ty,uy⟩,cy,ny⟩,dy,hy,hny⟩:=y
 have kk:=KeptV.of_below (below_sortWorld (enc:=knE w0) (m:=m) (dk:=dk) (os:=os) hw hblk)
 refine (Compare_cmp hC (x:=(Tx,ux)) (y:=(Ty,uy)) (hx.keep kk) (hy.keep kk) hnx (Nat.le_trans hny (by omega))).mono ?_
 rintro e w' ⟨rfl,hu⟩
 obtain ⟨q,os',e⟩:=up_grow hu
 exact ⟨rfl,q,os',e⟩
def SortsV:Prop:=∀ (w0 w:World) (blk n cap:Nat) (ts:List En),Below w0.heap.size w0 w→(∀ t∈ts,∃ d,EncV w0 d t.2.2 t.1 t.2.1∧t.2.2≤100000000)→n≤100000000→w.ownsRow w0.heap.size 32 1 (.slice (some ⟨blk,0,none⟩) n cap) n (ts.map fun t=>iv t.1)→
 Calls Tryz.prog 260 #[.slice (some ⟨blk,0,none⟩) n cap,.func (.func 223) #[] #[]] w fun e w'=>e = .returned (.tuple #[])∧∃ ts':List En,ts'.Perm ts∧ts'.Pairwise (fun a b=>lexC a.2.1 b.2.1≤0)∧w'.ownsRow w0.heap.size 32 1 (.slice (some ⟨blk,0,none⟩) n cap) n (ts'.map fun t=>iv t.1)∧Below w0.heap.size w0 w'
set_option maxRecDepth 10000
theorem must_arr (r:Value) (w:World):Calls Tryz.prog 154 #[.iface 86 r] w fun e w'=>e = .returned r∧w'=w:=by
 have m3:=hitVArray
 go_enter Tryz.func154,Tryz.ntmps154
 go_wp2
 go_ret
 exact ⟨rfl,rfl⟩
set_option maxRecDepth 100000
theorem sort_row {α:Type} [Inhabited α] {enc:α→Value}{w:World}{N T blk n cap m:Nat}{xs:List Value}{D:Array α}{os:Array Obj} (h:w.ownsRow N T 1 (.slice (some ⟨blk,0,none⟩) n cap) n xs) (hD:D.size=n) :
  (sortWorld enc w blk 0 m D os).ownsRow N T 1 (.slice (some ⟨blk,0,none⟩) n cap) n (D.toList.map enc):=by
 have hlt:=(h.lt blk rfl).2
 refine ⟨by rw [List.length_map,Array.length_toList,hD,Nat.mul_one],.inr ?_⟩
 rcases h.2 with ⟨e,_⟩ | ⟨g,c,cur,e,hg,hb,hn,hm,hs,ht⟩
 ·cases e
 ·cases e
  refine ⟨blk,cap,Go.Sort.putCells enc 0 D cur,rfl,hg,?_,hn,hm,by simpa [Go.Sort.putCells] using hs,?_⟩
  ·show ((w.heap.modify blk (Go.Sort.onCells (Go.Sort.putCells enc 0 D))) ++ os)[blk]? = _
   rw [Array.getElem?_append_left (by rw [Array.size_modify];exact hlt),Array.getElem?_modify,if_pos rfl,hb]
   rfl
  ·rw [Nat.mul_one] at hs ⊢
   apply List.ext_getElem?
   intro j
   by_cases hj:j < n
   ·rw [List.getElem?_take_of_lt hj,List.getElem?_map,Array.getElem?_toList,Array.getElem?_toList,Go.Sort.putCells,Array.getElem?_mapIdx,Array.getElem?_eq_getElem (by omega),Array.getElem?_eq_getElem (by omega)]
    simp only [Option.map_some]
    rw [if_pos (by omega),Nat.sub_zero,getElem!_pos D j (by omega)]
   ·rw [List.getElem?_eq_none (by rw [List.length_take];omega),List.getElem?_eq_none (by rw [List.length_map,Array.length_toList];omega)]
theorem sorts_v (hC:ComparesStr) {ρ:Go.Shelf.Ren} (L:SlLaysF.n14 Tryz.prog ρ) (h14:ρ.f 14=291) (h15:ρ.f 15=292):SortsV:=by
 intro w0 w blk n cap ts hw hts hn hrow
 obtain ⟨l,hl⟩:∃ l:List (Kn w0),l.map (·.1)=ts:=⟨ts.attachWith _ hts,List.attachWith_map_subtype_val _⟩
 have hlt:=hrow.lt blk rfl
 have hlen:l.length=n:=by
  have h1:=hrow.1
  rw [List.length_map,← hl,List.length_map,Nat.mul_one] at h1
  exact h1
 have hsz:l.toArray.size=n:=by simpa using hlen
 have hH:Go.Sort.Holds (knE w0) w blk 0 l.toArray:=by
  intro j hj
  rw [hsz] at hj
  rw [Nat.zero_add]
  refine ⟨?_,?_⟩
  ·rw [hrow.cellAt j (by omega),getElem!_pos l.toArray j (by omega),← hl,List.map_map,List.getElem?_map,List.getElem?_eq_getElem (by omega)]
   rfl
  ·rcases hrow.2 with ⟨e,_⟩ | ⟨g',cap',cur,e,_,hb,_⟩
   ·cases e
   ·cases e;exact cells_free hb
 have hlim:Lib.bitLen n < 4611686018427387904:=Nat.lt_of_le_of_lt (Lib.bitLen_le n 62 (by omega) (by omega)) (by omega)
 have eg:∀ args w,(callFunc 223 args).run Tryz.prog w = .ok (.enter 223 args) w:=enters_of Tryz.func223 (by kernel_rfl) rfl
 have hp:=Any.pdqsortCmpFunc_all (P:=Tryz.prog) (ρ:=ρ) L (knE w0) (knC w0) 223 #[] (knC_swo w0) blk 0 cap l.toArray w eg (by rw [hsz];exact kn_cmp hC hw hlt.1) ⟨fun _=>rfl,hH,hlt.2⟩ (n+1) 0 n (Lib.bitLen n) l.toArray w (by omega) rfl (SW.start hH) (Nat.zero_le _) (by omega) (by omega) hlim (Or.inl rfl)
 have hq:=Go.Sort.pdq_sorts (ltOf (knC w0)) (knC_swo w0) l.toArray 0 n (Lib.bitLen n) true true (Nat.zero_le _) (by omega) (Or.inl rfl)
 have hl15:=Any.bits_Len (SlLaysF0.n15.bits (P:=Tryz.prog) (ρ:=ρ) { L with }) (n:Int) w (by omega) (by omega)
 rw [show ρ.viaSlsf.f 125=ρ.f 15 from rfl,h15,Int.toNat_natCast] at hl15
 rw [h14,hsz] at hp
 obtain ⟨D,hD⟩:∃ D,D=Go.Sort.pdq (ltOf (knC w0)) l.toArray 0 n (Lib.bitLen n) true true:=⟨_,rfl⟩
 rw [← hD] at hp hq
 have hDn:D.size=n:=hq.1.1.trans hsz
 have HP:Aside (Calls Tryz.prog 291 #[.slice (some ⟨blk,0,none⟩) n cap,.int .i64 0,.int .i64 n,.int .i64 (Lib.bitLen n:Nat),.func (.func 223) #[] #[]] w fun e w'=>e = .returned (.tuple #[])∧∃ ts':List En,ts'.Perm ts∧ts'.Pairwise (fun a b=>lexC a.2.1 b.2.1≤0)∧w'.ownsRow w0.heap.size 32 1 (.slice (some ⟨blk,0,none⟩) n cap) n (ts'.map fun t=>iv t.1)∧Below w0.heap.size w0 w'):=by
  refine Calls.mono hp ?_
  rintro e w' ⟨rfl,m,os,rfl⟩
  refine ⟨rfl,D.toList.map (·.1),?_,?_,?_,below_sortWorld hw hlt.1⟩
  ·have h1:=hq.1.2.2
   have e1:(D.extract 0 n).toList=D.toList:=by rw [← hDn,Array.extract_size]
   have e2:(l.toArray.extract 0 n).toList=l:=by rw [← hsz,Array.extract_size]
   rw [e1,e2] at h1
   rw [← hl]
   exact h1.map _
  ·rw [List.pairwise_map,List.pairwise_iff_getElem]
   intro i j hi hj hij
   rw [Array.length_toList,hDn] at hi hj
   have h1:=hq.2 i j (Nat.zero_le _) hij hj
   rw [getElem!_pos D j (by omega),getElem!_pos D i (by omega)] at h1
   have h2:=Int.not_lt.1 (of_decide_eq_false h1)
   unfold knC at h2
   have n1:=lexC_neg D[i].1.2.1 D[j].1.2.1
   simp only [Array.getElem_toList]
   omega
  ·have:=sort_row (enc:=knE w0) (m:=m) (os:=os) hrow hDn
   rw [List.map_map]
   exact this
 have HL:Aside (Calls Tryz.prog 292 #[.int .u64 (n:Int)] w fun e w'=>e = .returned (.int .i64 (Lib.bitLen n:Nat))∧w'=w):=hl15
 have wr:IntKind.u64.wrap (n:Int)=n:=by simp [IntKind.wrap,IntKind.bits,IntKind.signed];omega
 clear hp hl15 hq hH hlim eg hrow hts hl hlen hsz
 go_enter Tryz.func260,Tryz.ntmps260
 go_wp2_with (first
  | (go_at_call 292;refine Calls.mono HL.out ?_;rintro e w' ⟨rfl,rfl⟩)
  | (go_at_call 291;refine Calls.mono HP.out ?_;rintro e w' ⟨rfl,k1⟩))
 go_end0
 exact ⟨rfl,k1⟩
set_option maxRecDepth 10000
theorem rooted_ok {w:World}{x:IV}:Calls Tryz.prog 155 #[iv x] w fun e w'=>∃ q,e = .returned (spv (x,some ⟨q,0,none⟩))∧Below w.heap.size w w'∧w.heap.size≤q∧w'.heap[q]? = some (.cells #[.pointer none,.nilIface,.int .i64 0] 263 (0,0)):=by
 obtain ⟨T,u⟩:=x
 simp only [spv,iv]
 go_enter Tryz.func155,Tryz.ntmps155
 go_wp2_with fail
 exact bodyPost_ret (v:=.agg #[.iface T u,.pointer (some ⟨w.heap.size+1,0,none⟩)]) (by simp [results,Tryz.results155,go_sem]) rfl ⟨w.heap.size+1,rfl,below_alloc2 w _ _,by omega,heap_new2' w _ _⟩
def AloneG (C:Nat→Prop) (w0:World) (name:ByteArray) (x:IV) (R:SP):Prop:=∀ w,SameOn C w0 w→w0.heap.size≤w.heap.size→
 Calls Tryz.prog 165 #[.string name,iv x] w fun e w'=>Below w.heap.size w w'∧∃ z G,e = .returned (iv z)∧HoldsP R G w' (z,none)∧∀ k,G k→C k∨w.heap.size≤k
theorem enters_given4:Enters Tryz.prog 164:=enters_of Tryz.func164 (by kernel_rfl) rfl
theorem out_alone {C:Nat→Prop}{fb sb b:Nat}{w0 w:World}{x:IV}{name:ByteArray}{R:SP} (h:AloneG C w0 name x R) (hf:Box w fb (.pointer (some ⟨b,0,none⟩)) 169) (hx:SpotB w sb (x,none)) (hC:∀ k,C k→k < w0.heap.size) (hb:C b) (c0:w0.cell? ⟨b,0,none⟩=some (.string name)) (hs:SameOn C w0 w) (hl:w0.heap.size≤w.heap.size) :
  OutG (fun k=>C k∨k=fb∨k=sb) w (.func (.func 164) #[] #[.pointer (some ⟨fb,0,none⟩),.pointer (some ⟨sb,0,none⟩)]) R:=by
 have hxl:=hx.lt
 have hfl:=hf.lt
 refine ⟨_,_,rfl,enters_given4,by grind,?_⟩
 intro w' hs' hl'
 have hs0:SameOn C w0 w':=hs.trans (hs'.mono (fun _ h=>.inl h))
 have hx':=hx.same (hs' sb (by simp))
 have hf':=hf.same (hs' fb (by simp))
 have f0:=hf'.cell
 have f2:=hf'.lt
 have n1:=hs0.cell hb c0
 have n2:b < w'.heap.size:=by have:=hC b hb;omega
 have H:∀ w1,Below w'.heap.size w' w1→Calls Tryz.prog 165 #[.string name,iv x] w1 fun e w2=>Below w1.heap.size w1 w2∧∃ z G,e = .returned (iv z)∧HoldsP R G w2 (z,none)∧∀ k,G k→C k∨w1.heap.size≤k:=fun w1 k=>h w1 (hs0.trans (fun j hj=>k.block j (by have:=hC j hj;omega))) (by have:=k.size;omega)
 clear h
 obtain ⟨T,u⟩:=x
 obtain ⟨x0,x1,_,_,x4⟩:=hx'.facts
 simp only [iv] at H ⊢
 have s0:=tri ((Below.refl _ w').drew) x0 f0 n1
 go_enter Tryz.func164,Tryz.ntmps164
 go_wp2_with fail
 go_region_held3 (fun w1=>w1.cell? ⟨sb,0,none⟩=some (.iface T u)∧w1.cell? ⟨fb,0,none⟩=some (.pointer (some ⟨b,0,none⟩))∧w1.cell? ⟨b,0,none⟩=some (.string name)) (first | exact s0 | exact e4 | go_keep)
  (first | (go_at_call 165;refine (H _ (Below.refl _ _).drew).mono ?_;rintro e w1 ⟨k1,⟨T2,u2⟩,G,rfl,hR,hG⟩;have kX:Below w'.heap.size w' w1:=(Below.refl _ _).drew.trans (k1.mono (by simp));have e4:=tri kX x0 f0 n1;have hG':∀ k,G k→C k∨w'.heap.size≤k:=hG))
 all_goals
  go_wp2_with fail
  go_ret
  exact ⟨kX,(T2,u2),G,rfl,hR,by grind⟩
def NotGiven (name:ByteArray):Prop:=(name.toList == [112,97,116,104])=false∧(name.toList == [114,97,110,103,101])=false∧(name.toList == [115,101,116,112,97,116,104])=false
theorem given_alone {C:Nat→Prop}{w0 w:World}{kn:Option Addr}{d:Int}{b:Nat}{name:ByteArray}{x:IV}{R:SP} (hC:∀ k,C k→k < w0.heap.size) (hb:C b) (c0:w0.cell? ⟨b,0,none⟩=some (.string name)) (c1:w0.cell? ⟨b,1,none⟩=some (.slice none 0 0)) (hN:NotGiven name) (hs:SameOn C w0 w) (hl:w0.heap.size≤w.heap.size) (h:AloneG C w0 name x R) :
  Calls Tryz.prog 117 #[.agg #[.pointer kn,.int .i64 d],.pointer (some ⟨b,0,none⟩),.agg #[iv x,.pointer none]] w (MadeC [R] C w):=by
 obtain ⟨o1,o2,o3⟩:=hN
 have n0:=hs.cell hb c0
 have n1:=hs.cell hb c1
 have n3:b < w.heap.size:=by have:=hC b hb;omega
 obtain ⟨T,u⟩:=x
 have kW0:=below_alloc3 w (.cells #[.pointer kn,.int .i64 d] 71) (.cells #[.pointer (some ⟨b,0,none⟩)] 169) (.cells #[.iface T u,.pointer none] 75)
 have wn0:=(kW0.cell (p:=⟨b,0,none⟩) n3).trans n0
 have wn1:=(kW0.cell (p:=⟨b,1,none⟩) n3).trans n1
 clear kW0
 have hw:Calls Tryz.prog 122 #[.func (.func 164) #[] #[.pointer (some ⟨w.heap.size+1,0,none⟩),.pointer (some ⟨w.heap.size+2,0,none⟩)]] (((w.alloc (.cells #[.pointer kn,.int .i64 d] 71)).alloc (.cells #[.pointer (some ⟨b,0,none⟩)] 169)).alloc (.cells #[.iface T u,.pointer none] 75)) (MadeC [R] (fun k=>C k∨w.heap.size≤k) (((w.alloc (.cells #[.pointer kn,.int .i64 d] 71)).alloc (.cells #[.pointer (some ⟨b,0,none⟩)] 169)).alloc (.cells #[.iface T u,.pointer none] 75))):=by
  obtain ⟨wA,hA,kW,wp,wf,wx,wl⟩:=three_boxes w kn d (.pointer (some ⟨b,0,none⟩)) 169 ((T,u),none)
  simp only [iv] at hA
  rw [← hA]
  exact worked_okg (out_alone h wf wx hC hb c0 (hs.trans (fun j hj=>kW.block j (by have:=hC j hj;omega))) (by have:=kW.size;omega)) (by grind)
 simp only [iv]
 clear h
 go_enter Tryz.func117,Tryz.ntmps117
 go_wp2_with (go_at_call 122;refine hw.mono ?_;rintro e w1 ⟨k1,K,cap,rfl,hM⟩)
 go_ret
 exact (MadeC.under (L:=[R]) (C:=fun k=>C k∨w.heap.size≤k) ⟨k1,K,cap,rfl,hM⟩ (below_alloc3 w _ _ _)).more (by grind)
theorem enters_mustParts:Enters Tryz.prog 52:=enters_of Tryz.func52 (by kernel_rfl) rfl
def Plainish (P:SP):Prop:=∀ w v q,P w (v,q)→P w (v,none)
theorem HoldsP.own {Ps:List SP}{G:Nat→Prop}{w:World}{s:Sp}{v:Value} (h:HoldsP (ArrOf Ps) G w s) (e:s.1=(86,v)):∀ g,v.ownBlock=some g→G g:=by
 intro g hg
 refine Classical.byContradiction (fun hn=>?_)
 obtain ⟨_,v0,ss0,e0,ow0,_⟩:=h.here
 rw [e] at e0
 cases e0
 have hgl:=(ow0.lt g hg).2
 obtain ⟨_,v1,ss1,e1,ow1,_⟩:=h.2 (w.putObj g (.deferred none)) (fun k hk=>World.putObj_heap_other (fun e=>hn (e ▸ hk))) (by simp [World.putObj])
 rw [e] at e1
 cases e1
 obtain ⟨c,fz,hk⟩:=own_kind ow1 g hg
 rw [World.putObj_heap_same hgl] at hk
 cases hk
theorem HoldsP.arr {Ps:List SP}{G:Nat→Prop}{w:World}{s:Sp} (h:HoldsP (ArrOf Ps) G w s) (hp:∀ P∈Ps,Plainish P):∃ (v:Value) (xs:List IV),s=((86,v),none)∧w.ownsRow 0 32 1 v xs.length (xs.map iv)∧xs.length=Ps.length∧(∀ g,v.ownBlock=some g→G g)∧∀ (j:Nat) (P:SP),Ps[j]? = some P→∃ x,xs[j]? = some x∧HoldsP P G w (x,none):=by
 obtain ⟨e2,v,ss,e1,ow,hA⟩:=h.here
 have hown:=h.own e1
 obtain ⟨s1,s2⟩:=s
 simp only at e1 e2
 subst e1
 subst e2
 refine ⟨v,ss.map (·.1),rfl,by rw [List.length_map,List.map_map];exact ow,by rw [List.length_map];exact hA.len.symm,hown,fun j P hj=>?_⟩
 obtain ⟨t,ht,hP⟩:=hA.at hj
 refine ⟨t.1,by simp [ht],h.1,fun w' hs hl=>?_⟩
 obtain ⟨_,v',ss',e',ow',hA'⟩:=h.2 w' hs hl
 cases e'
 obtain ⟨t',ht',hP'⟩:=hA'.at hj
 have hlen:ss'.length=ss.length:=hA'.len.symm.trans hA.len
 rw [hlen] at ow'
 have ow2:w'.ownsRow 0 32 1 v ss.length (ss.map fun t=>iv t.1):=owns_same ow (fun g hg=>hs g (hown g hg))
 have hrow:(ss'.map fun t=>iv t.1)=(ss.map fun t=>iv t.1):=by
  rcases ow'.2 with ⟨e,h0⟩ | ⟨g,cap,cur,e,_⟩
  ·have h1:ss=[]:=List.eq_nil_of_length_eq_zero h0
   have h2:ss'=[]:=List.eq_nil_of_length_eq_zero (by omega)
   rw [h1,h2]
  ·subst e
   exact row_one ow' ow2
 have:iv t'.1=iv t.1:=by
  have h1:(ss'.map fun t=>iv t.1)[j]? = some (iv t'.1):=by simp [ht']
  have h2:(ss.map fun t=>iv t.1)[j]? = some (iv t.1):=by simp [ht]
  rw [hrow,h2] at h1
  exact (Option.some.inj h1).symm
 rw [← iv_inj this]
 exact hp P (List.mem_of_getElem? hj) _ _ t'.2 hP'
theorem mustParts_g {C:Nat→Prop}{w:World}{r:Value}{q:Option Addr}{Qs:List SP} (h:∀ w1,Below w.heap.size w w1→Calls Tryz.prog 92 #[spv ((86,r),q)] w1 (MadeC Qs C w1)):Calls Tryz.prog 52 #[spv ((86,r),q)] w (MadeC Qs C w):=by
 have m3:=hitVArray;have m4:=missVObject
 simp only [spv,iv] at h ⊢
 go_enter Tryz.func52,Tryz.ntmps52
 go_wp2_with (go_at_call 92;refine (h _ (below_alloc w _)).mono ?_;rintro e w1 ⟨k1,K,cap,rfl,hM⟩)
 go_ret
 exact MadeC.under ⟨k1,K,cap,rfl,hM⟩ (below_alloc w _)
theorem then_parts {w:World}{Ps:List SP} (hp:∀ P∈Ps,Plainish P) (hl:Ps.length≤100000000):ThenG (fun _=>False) w (.func (.func 52) #[] #[]) (ArrOf Ps) Ps:=by
 refine ⟨_,_,rfl,enters_mustParts,fun _ h=>h.elim,?_⟩
 intro w' s G _ _ hP
 obtain ⟨v,xs,rfl,ow,hlen,hown,hx⟩:=hP.arr hp
 have hPl:=hP.1
 refine mustParts_g (fun w1 k=>?_)
 have hs1:SameOn G w' w1:=fun j hj=>k.block j (hPl j hj)
 refine (parts_arrg (V:=G) (G:=fun _=>False) (C:=fun k=>False∨G k) (o:=none) (xs:=xs) (owns_same ow (fun g hg=>hs1 g (hown g hg))) (by omega) (Nat.zero_le _) hown (fun j hj=>Nat.lt_of_lt_of_le (hPl j hj) k.size) ⟨fun _ h=>h.elim,fun _ _ _=>rfl⟩ ⟨by rw [enumA_len,hlen],fun j Q hj=>?_⟩ (fun _ h=>.inr h) (fun _ h=>h.elim))
 obtain ⟨x,hxj,hQ⟩:=hx j Q hj
 have hjl:j < (enumA 0 xs).length:=by rw [enumA_len];exact (List.getElem?_eq_some_iff.1 hxj).1
 obtain ⟨e1,e2⟩:=enumA_at 0 xs j (s:=(enumA 0 xs)[j].1) (y:=(enumA 0 xs)[j].2) (List.getElem?_eq_getElem hjl)
 refine ⟨(enumA 0 xs)[j],List.getElem?_eq_getElem hjl,fun w2 q2 hs2 hl2 hq2=>?_⟩
 rw [hxj] at e2
 have e3:(enumA 0 xs)[j].2=x:=(Option.some.inj e2).symm
 have hq3:q2=none:=hq2
 rw [e3,hq3]
 exact hQ.2 w2 (hs1.trans hs2) (Nat.le_trans k.size hl2)
theorem opensG_each {C:Nat→Prop}{w0:World}{b T1 b1:Nat}{kn:Option Addr}{d:Int}{s:Sp}{Ps:List SP} (hb:C b) (c0:w0.cell? ⟨b,0,none⟩=some (.iface T1 (.pointer (some ⟨b1,0,none⟩))))
  (hO:OpensG C w0 (.iface T1 (.pointer (some ⟨b1,0,none⟩))) kn d s [ArrOf Ps]) (hp:∀ P∈Ps,Plainish P) (hl1:Ps.length≤100000000) :
  OpensG C w0 (.iface 139 (.pointer (some ⟨b,0,none⟩))) kn d s Ps:=by
 obtain ⟨hC,hO⟩:=hO
 refine ⟨hC,fun w hs hl=>?_⟩
 have n0:=hs.cell hb c0
 have n3:b < w.heap.size:=by have:=hC b hb;omega
 have m0:=missIdentity;have m1:=missDescent;have m2:=missField;have m3:=missIndex;have m4:=hitEach
 obtain ⟨⟨T,u⟩,q⟩:=s
 have HO:∀ w1,Below w.heap.size w w1→Calls Tryz.prog 22 #[.agg #[.pointer kn,.int .i64 d],.iface T1 (.pointer (some ⟨b1,0,none⟩)),.agg #[.iface T u,.pointer q]] w1 (MadeC [ArrOf Ps] C w1):=fun w1 k=>hO _ (hs.trans (fun j hj=>k.block j (Nat.lt_of_lt_of_le (hC j hj) hl))) (Nat.le_trans hl k.size)
 simp only [spv,iv]
 clear hO
 go_enter Tryz.func22,Tryz.ntmps22
 go_wp2_with fail
 obtain ⟨wA,hA,kW,wp,wx,wl⟩:=two_boxes w kn d ((T,u),q)
 simp only [iv] at hA
 obtain ⟨x0,x1,_,_,x4⟩:=wx.facts
 have a0:=wp.c0
 have a1:=wp.c1
 have a2:=(kW.cell (p:=⟨b,0,none⟩) n3).trans n0
 have s0:=six ((Below.refl _ wA).drew) a0 a1 a2 x0 x1 x0
 have HT:∀ w1,∀ y∈[(ArrOf Ps,Ps)],ThenG (fun _=>False) w1 (.func (.func 52) #[] #[]) y.1 y.2:=fun w1 y hy=>by
  rw [List.mem_singleton] at hy
  subst hy
  exact then_parts hp hl1
 rw [← hA]
 clear hA
 go_region_held3 (fun w'=>w'.cell? ⟨w.heap.size,0,none⟩=some (.pointer kn)∧w'.cell? ⟨w.heap.size,1,none⟩=some (.int .i64 d)∧w'.cell? ⟨b,0,none⟩=some (.iface T1 (.pointer (some ⟨b1,0,none⟩)))∧w'.cell? ⟨w.heap.size+1,0,none⟩=some (.iface T u)∧w'.cell? ⟨w.heap.size+1,1,none⟩=some (.pointer q)∧w'.cell? ⟨w.heap.size+1,0,none⟩=some (.iface T u)) (first | exact s0 | exact e4 | exact f4 | go_keep)
   (first
    | (go_at_call 22;refine (HO _ kW.drew).mono ?_;rintro e w1 ⟨k1,K,cap,rfl,F,D,hS,hF,hD⟩;have kX:Below wA.heap.size wA w1:=(Below.refl _ _).drew.trans (k1.mono (by simp));have e4:=six kX a0 a1 a2 x0 x1 x0;have hX:=kX.size;have hF':∀ k,F k→C k∨wA.heap.size≤k:=hF;have hD':∀ k,D k→wA.heap.size≤k:=hD)
    | (go_at_call 48;refine (each_okg (C:=fun _=>False) (Lo:=[(ArrOf Ps,Ps)]) hS ⟨_,_,rfl⟩ (fun _ h=>h.elim) (HT w1) (fun _ h=>h.elim)).mono ?_;rintro e w2 ⟨k2,K2,cap2,F2,D2,rfl,hS2,hF2,hD2⟩;have f4:=six (kX.trans (k2.mono kX.size)) a0 a1 a2 x0 x1 x0))
 all_goals
  go_wp2_with fail
  go_ret
  have e1:[(ArrOf Ps,Ps)].flatMap (·.2)=Ps:=by simp
  rw [e1] at hS2
  exact .mk' (kW.trans ((kX.trans (k2.mono kX.size)).mono kW.size)) hS2 (by grind) (by grind)
def IdxG (C:Nat→Prop) (w0:World) (P Q R:SP):Prop:=∀ w t s G G',SameOn C w0 w→w0.heap.size≤w.heap.size→HoldsP P G w t→HoldsP Q G' w s→
 Calls Tryz.prog 47 #[spv t,iv s.1] w fun e w'=>Below w.heap.size w w'∧∃ y G'',e = .returned (spv y)∧HoldsP R G'' w' y∧∀ k,G'' k→C k∨G k∨G' k∨w.heap.size≤k
theorem to_at {C G:Nat→Prop}{xb:Nat}{w0 w:World}{t:Sp}{P Q R:SP} (h:IdxG C w0 P Q R) (hP:HoldsP P G w t) (hx:SpotB w xb t) (hC:∀ k,C k→k < w0.heap.size) (hs:SameOn C w0 w) (hl:w0.heap.size≤w.heap.size) :
  ToG (fun k=>C k∨G k∨k=xb) w (.func (.func 51) #[] #[.pointer (some ⟨xb,0,none⟩)]) Q R:=by
 have hxl:=hx.lt
 have hPl:=hP.1
 refine ⟨_,_,rfl,enters_open21,by grind,?_⟩
 intro w' s G' hs' hl' hQ
 have hs0:SameOn C w0 w':=hs.trans (hs'.mono (fun _ h=>.inl h))
 have hx':=hx.same (hs' xb (by simp))
 have hP':=hP.move (hs'.mono (fun _ h=>.inr (.inl h))) hl'
 have hQl:=hQ.1
 have H:∀ w1,Below w'.heap.size w' w1→Calls Tryz.prog 47 #[spv t,iv s.1] w1 fun e w2=>Below w1.heap.size w1 w2∧∃ y G'',e = .returned (spv y)∧HoldsP R G'' w2 y∧∀ k,G'' k→C k∨G k∨G' k∨w1.heap.size≤k:=fun w1 k=>h w1 t s G G' (hs0.trans (fun j hj=>k.block j (by have:=hC j hj;omega))) (by have:=k.size;omega) (hP'.move (fun j hj=>k.block j (hP'.1 j hj)) k.size) (hQ.move (fun j hj=>k.block j (hQ.1 j hj)) k.size)
 have hPl':=hP'.1
 clear hP hP' hQ h
 obtain ⟨⟨T,u⟩,q⟩:=t
 obtain ⟨⟨T1,u1⟩,q1⟩:=s
 obtain ⟨x0,x1,_,_,x4⟩:=hx'.facts
 simp only [iv,spv] at H ⊢
 go_enter Tryz.func51,Tryz.ntmps51
 go_wp2_with (go_at_call 47;refine (H _ (below_alloc2 w' _ _)).mono ?_;rintro e w1 ⟨k1,⟨⟨Ty,uy⟩,qy⟩,G'',rfl,hR,hG''⟩;have qb:SpotBox w1 (w'.heap.size+1) .nilIface:=SpotBox.same (heap_new2' w' _ _) (k1.block _ (by simp));obtain ⟨q0,q1',q2,q3,q4⟩:=qb.facts)
 simp only [World.size_alloc] at hG''
 have hl1:w'.heap.size+1+1≤w1.heap.size:=by have:=k1.size;simpa using this
 refine bodyPost_ret (v:=.agg #[.iface Ty uy,.pointer qy]) (by simp [results,Tryz.results51,go_sem,q4,q0,q1']) rfl ⟨?_,((Ty,uy),qy),G'',rfl,hR.after (X:=(· = w'.heap.size+1)) (((Fr.refl (· = w'.heap.size+1) w1).setCell _ (.inl rfl)).setCell _ (.inl rfl)) ?_,by grind⟩
 ·exact ((((below_alloc2 w' _ _).trans (k1.mono (by simp;omega))).setCell (by simp) _).setCell (by simp) _)
 ·have hCl:∀ k,C k→k < w'.heap.size:=fun k hk=>by have:=hC k hk;omega
  grind
theorem then_indexg {C:Nat→Prop}{pb fb sb b T1 b1:Nat}{w0 w:World}{kn:Option Addr}{d:Int}{x:IV}{P Q R:SP} (hp:PlaceBox w pb kn d) (hf:Box w fb (.pointer (some ⟨b,0,none⟩)) 134) (hx:SpotB w sb (x,none)) (hb:C b) (c1:w0.cell? ⟨b,1,none⟩=some (.iface T1 (.pointer (some ⟨b1,0,none⟩)))) (hO:OpensG C w0 (.iface T1 (.pointer (some ⟨b1,0,none⟩))) kn d (x,none) [Q]) (h:IdxG C w0 P Q R) (hs:SameOn C w0 w) (hl:w0.heap.size≤w.heap.size) :
  ThenG (fun k=>C k∨k=pb∨k=fb∨k=sb) w (.func (.func 49) #[] #[.pointer (some ⟨pb,0,none⟩),.pointer (some ⟨fb,0,none⟩),.pointer (some ⟨sb,0,none⟩)]) P [R]:=by
 obtain ⟨hC,hO⟩:=hO
 have hpl:=hp.lt
 have hfl:=hf.lt
 have hxl:=hx.lt
 refine ⟨_,_,rfl,enters_open2,by grind,?_⟩
 intro w' t G hs' hl' hP
 have hs0:SameOn C w0 w':=hs.trans (hs'.mono (fun _ h=>.inl h))
 have hp':=hp.same (hs' pb (by simp))
 have hf':=hf.same (hs' fb (by simp))
 have hx':=hx.same (hs' sb (by simp))
 have p0:=hp'.c0
 have p1:=hp'.c1
 have p2:=hp'.lt
 have f0:=hf'.cell
 have f2:=hf'.lt
 have n2:=hs0.cell hb c1
 have n3:b < w'.heap.size:=by have:=hC b hb;omega
 have hGl:=hP.1
 obtain ⟨⟨Tx,ux⟩,qx⟩:=t
 obtain ⟨wA,hA⟩:∃ wA,wA=w'.alloc (.cells #[.iface Tx ux,.pointer qx] 75):=⟨_,rfl⟩
 have kW:Below w'.heap.size w' wA:=hA ▸ below_alloc w' _
 have wx:SpotB wA w'.heap.size ((Tx,ux),qx):=hA ▸ SpotB.new w' ((Tx,ux),qx)
 have wl:wA.heap.size=w'.heap.size+1:=by rw [hA];simp
 have HO:∀ w1,Below w'.heap.size w' w1→Calls Tryz.prog 22 #[.agg #[.pointer kn,.int .i64 d],.iface T1 (.pointer (some ⟨b1,0,none⟩)),spv (x,none)] w1 (MadeC [Q] C w1):=fun w1 k=>hO _ (hs0.trans (fun j hj=>k.block j (by have:=hC j hj;omega))) (by have:=k.size;omega)
 have HV:∀ w1,Below wA.heap.size wA w1→ToG (fun k=>C k∨G k∨k=w'.heap.size) w1 (.func (.func 51) #[] #[.pointer (some ⟨w'.heap.size,0,none⟩)]) Q R:=fun w1 k=>by
  have k2:=kW.trans (k.mono kW.size)
  exact to_at h (hP.move (fun j hj=>k2.block j (hGl j hj)) k2.size) (wx.same (k.block _ wx.lt)) hC (hs0.trans (fun j hj=>k2.block j (by have:=hC j hj;omega))) (by have:=k2.size;omega)
 obtain ⟨T,u⟩:=x
 obtain ⟨x0,x1,_,_,x4⟩:=(hx'.same (kW.block _ hx'.lt)).facts
 simp only [spv,iv] at HO ⊢
 have a0:=(kW.cell (p:=⟨pb,0,none⟩) p2).trans p0
 have a1:=(kW.cell (p:=⟨pb,1,none⟩) p2).trans p1
 have a2:=(kW.cell (p:=⟨fb,0,none⟩) f2).trans f0
 have a3:=(kW.cell (p:=⟨b,1,none⟩) n3).trans n2
 have s0:=six ((Below.refl _ wA).drew) a0 a1 a2 a3 x0 x1
 clear hO hP h
 go_enter Tryz.func49,Tryz.ntmps49
 go_wp2_with fail
 rw [← hA]
 clear hA
 go_region_held3 (fun w1=>w1.cell? ⟨pb,0,none⟩=some (.pointer kn)∧w1.cell? ⟨pb,1,none⟩=some (.int .i64 d)∧w1.cell? ⟨fb,0,none⟩=some (.pointer (some ⟨b,0,none⟩))∧w1.cell? ⟨b,1,none⟩=some (.iface T1 (.pointer (some ⟨b1,0,none⟩)))∧w1.cell? ⟨sb,0,none⟩=some (.iface T u)∧w1.cell? ⟨sb,1,none⟩=some (.pointer none)) (first | exact s0 | exact d4 | exact e4 | exact f4 | go_keep)
   (first
    | (go_at_call 50;refine plain_ok.mono ?_;rintro e w3 ⟨rfl,k3⟩;have kP:Below wA.heap.size wA w3:=(Below.refl _ _).drew.trans (k3.mono (by simp));have d4:=six kP a0 a1 a2 a3 x0 x1;have kQ:=kW.trans (kP.mono kW.size);have hPs:=kP.size)
    | (go_at_call 22;refine (HO _ kQ).mono ?_;rintro e w1 ⟨k1,K,cap,rfl,F,D,hS,hF,hD⟩;have kX:Below wA.heap.size wA w1:=kP.trans (k1.mono kP.size);have e4:=six kX a0 a1 a2 a3 x0 x1;have hX:=kX.size)
    | (go_at_call 45;refine (mapped_okg (C:=fun k=>C k∨G k∨k=w'.heap.size) (L:=[(Q,R)]) hS ⟨_,_,rfl⟩ (by grind) (fun y hy=>by rw [List.mem_singleton] at hy;subst hy;exact HV w1 kX) (by grind)).mono ?_;rintro e w2 ⟨k2,K2,cap2,F2,rfl,hS2,hF2⟩;have f4:=six (kX.trans (k2.mono kX.size)) a0 a1 a2 a3 x0 x1))
 all_goals
  go_wp2_with fail
  go_ret
  exact .mk' (kW.trans ((kX.trans (k2.mono kX.size)).mono kW.size)) hS2 (by grind) (by grind)
theorem opensG_index {C:Nat→Prop}{w0:World}{b T1 b1 T2 b2:Nat}{kn:Option Addr}{d:Int}{x:IV}{P Q R:SP} (hb:C b) (c0:w0.cell? ⟨b,0,none⟩=some (.iface T1 (.pointer (some ⟨b1,0,none⟩)))) (c1:w0.cell? ⟨b,1,none⟩=some (.iface T2 (.pointer (some ⟨b2,0,none⟩))))
  (hO1:OpensG C w0 (.iface T1 (.pointer (some ⟨b1,0,none⟩))) kn d (x,none) [P]) (hO2:OpensG C w0 (.iface T2 (.pointer (some ⟨b2,0,none⟩))) kn d (x,none) [Q]) (h:IdxG C w0 P Q R) :
  OpensG C w0 (.iface 134 (.pointer (some ⟨b,0,none⟩))) kn d (x,none) [R]:=by
 have hC:=hO1.1
 refine ⟨hC,fun w hs hl=>?_⟩
 have n0:=hs.cell hb c0
 have n3:b < w.heap.size:=by have:=hC b hb;omega
 have m0:=missIdentity;have m1:=missDescent;have m2:=missField;have m3:=hitIndex
 obtain ⟨T,u⟩:=x
 simp only [spv,iv]
 go_enter Tryz.func22,Tryz.ntmps22
 go_wp2_with fail
 obtain ⟨wA,hA,kW,wp,wf,wx,wl⟩:=three_boxes2 w kn d (.pointer (some ⟨b,0,none⟩)) 134 ((T,u),none)
 have HO:∀ w1,Below w.heap.size w w1→Calls Tryz.prog 22 #[.agg #[.pointer kn,.int .i64 d],.iface T1 (.pointer (some ⟨b1,0,none⟩)),.agg #[.iface T u,.pointer none]] w1 (MadeC [P] C w1):=fun w1 k=>hO1.2 _ (hs.trans (fun j hj=>k.block j (Nat.lt_of_lt_of_le (hC j hj) hl))) (Nat.le_trans hl k.size)
 have HT:∀ w1,Below wA.heap.size wA w1→∀ y∈[(P,[R])],ThenG (fun k=>C k∨k=w.heap.size∨k=w.heap.size+2∨k=w.heap.size+1) w1 (.func (.func 49) #[] #[.pointer (some ⟨w.heap.size,0,none⟩),.pointer (some ⟨w.heap.size+2,0,none⟩),.pointer (some ⟨w.heap.size+1,0,none⟩)]) y.1 y.2:=fun w1 k y hy=>by
  rw [List.mem_singleton] at hy
  subst hy
  exact then_indexg (wp.same (k.block _ wp.lt)) (wf.same (k.block _ wf.lt)) (wx.same (k.block _ wx.lt)) hb c1 hO2 h (hs.trans (fun j hj=>(k.block j (by have:=hC j hj;omega)).trans (kW.block j (by have:=hC j hj;omega)))) (by have:=k.size;omega)
 clear hO1 hO2 h
 simp only [iv] at hA
 obtain ⟨x0,x1,_,_,x4⟩:=wx.facts
 have a0:=wp.c0
 have a1:=wp.c1
 have a2:=wf.cell
 have a3:=(kW.cell (p:=⟨b,0,none⟩) n3).trans n0
 have s0:=six ((Below.refl _ wA).drew) a0 a1 a2 a3 x0 x1
 rw [← hA]
 clear hA
 go_region_held3 (fun w'=>w'.cell? ⟨w.heap.size,0,none⟩=some (.pointer kn)∧w'.cell? ⟨w.heap.size,1,none⟩=some (.int .i64 d)∧w'.cell? ⟨w.heap.size+2,0,none⟩=some (.pointer (some ⟨b,0,none⟩))∧w'.cell? ⟨b,0,none⟩=some (.iface T1 (.pointer (some ⟨b1,0,none⟩)))∧w'.cell? ⟨w.heap.size+1,0,none⟩=some (.iface T u)∧w'.cell? ⟨w.heap.size+1,1,none⟩=some (.pointer none)) (first | exact s0 | exact d4 | exact e4 | exact f4 | go_keep)
   (first
    | (go_at_call 22;refine (HO _ kW.drew).mono ?_;rintro e w1 ⟨k1,K,cap,rfl,F,D,hS,hF,hD⟩;have kX:Below wA.heap.size wA w1:=(Below.refl _ _).drew.trans (k1.mono (by simp));have e4:=six kX a0 a1 a2 a3 x0 x1;have hX:=kX.size;have hF':∀ k,F k→C k∨wA.heap.size≤k:=hF;have hD':∀ k,D k→wA.heap.size≤k:=hD)
    | (go_at_call 48;refine (each_okg (Lo:=[(P,[R])]) hS ⟨_,_,rfl⟩ (by grind) (HT w1 kX) (by grind)).mono ?_;rintro e w2 ⟨k2,K2,cap2,F2,D2,rfl,hS2,hF2,hD2⟩;have f4:=six (kX.trans (k2.mono kX.size)) a0 a1 a2 a3 x0 x1))
 all_goals
  go_wp2_with fail
  go_ret
  exact .mk' (kW.trans ((kX.trans (k2.mono kX.size)).mono kW.size)) hS2 (by grind) (by grind)
def boolV (b:Bool):IV:=(96,.bool b)
def BoolP (b:Bool):SP:=Just (boolV b,none)
theorem just_holds (w:World) (s:Sp):HoldsP (Just s) (fun _=>False) w s:=⟨fun _ h=>h.elim,fun _ _ _=>rfl⟩
theorem length_arr (p:Option Addr) (n c:Nat) (w:World):Calls Tryz.prog 212 #[.iface 86 (.slice p n c)] w fun e w'=>e = .returned (.iface 98 (.int .i64 n))∧Below w.heap.size w w':=by
 have m0:=missVNull;have m1:=missVNumber;have m2:=missVString;have m3:=hitVArray
 go_enter Tryz.func212,Tryz.ntmps212
 go_wp2_with fail
 go_ret
 exact ⟨rfl,Below.refl _ _⟩
theorem alone_length {C:Nat→Prop}{w0:World}{p:Option Addr}{n c:Nat}:AloneG C w0 ⟨#[108,101,110,103,116,104]⟩ (86,.slice p n c) (Just (numS n,none)):=by
 intro w hs hl
 simp only [iv]
 go_enter Tryz.func165,Tryz.ntmps165
 go_wp2_with (go_at_call 212;refine (length_arr p n c _).mono ?_;rintro e w1 ⟨rfl,k1⟩)
 go_ret
 exact ⟨k1,numS n,fun _=>False,rfl,just_holds _ _,fun _ h=>h.elim⟩
end Go.Proofs.Tryz
namespace Go.Proofs.Tryz
set_option maxHeartbeats 16000000
open Go.RowKit Go.Lib
set_option maxRecDepth 10000
theorem Grow_ok {w:World}{n:Nat} (h0:0 < n) (hn:n≤1000000000):Calls Tryz.prog 299 #[.slice none 0 0,.int .i64 n] w fun e w'=>∃ g cap,e = .returned (.slice (some ⟨g,0,none⟩) 0 cap)∧w'.ownsRow w.heap.size 32 1 (.slice (some ⟨g,0,none⟩) 0 cap) 0 []∧Below w.heap.size w w':=by
 obtain ⟨i0,hi0,hz0,hz1,hz2⟩:=info_parts (show (Tryz.prog.info? 32).map (fun i=>(i.zero,i.size,i.bytes))=some (some .nilIface,1,16) by kernel_rfl)
 have z1:(0:Int) < (n:Int):=by omega
 have z2:¬ (n:Int) < 0:=by omega
 have hrz:∀ ty,(Builtin.append_ #[86,3] ty #[.slice none 0 0,.int .i64 n]).run Tryz.prog w = .ok (.slice (some ⟨w.heap.size,0,none⟩) n (grownCap w n 0 32)) (w.drew.alloc (.cells (Builtin.zeroCells (Value.cells .nilIface) n ++ Builtin.zeroCells (Value.cells .nilIface) (grownCap w n 0 32 - n)) 32)):=fun ty=>by
  have h:=Lib.run_append_grow_zeros w 86 3 ty 32 i0 .nilIface .i64 .i64 Tryz.underlying86 Tryz.underlying3 hi0 hz0 none 0 0 [] (run_firstCells_none w.drew i0.size 0 0 0) n h0 (by rw [hz1];omega) (by omega) (by omega) (by rw [hz2];omega) (growslice_fits (by omega) (by rw [hz2];omega))
  simpa using h
 have hGn:n≤grownCap w n 0 32:=grownCap_ge w _ _ _
 have hGm:=grownCap_le_maxLen w n 0 32 (by unfold maxLen;omega)
 obtain ⟨G,hG⟩:∃ G,G=grownCap w n 0 32:=⟨_,rfl⟩
 rw [← hG] at hrz hGn hGm
 have hG63:G≤9223372036854775807:=by unfold maxLen at hGm;omega
 clear hG
 go_enter Tryz.func299,Tryz.ntmps299
 go_wp2_with (at_builtin;refine Lib.wpList_append_run _ rfl _ _ _ _ rfl _ _ rfl rfl _ _ (hrz _) ?_)
 go_ret
 refine ⟨w.heap.size,G,rfl,⟨rfl,.inr ⟨w.heap.size,G,_,rfl,Nat.le_refl _,heap_new w _,Nat.zero_le _,hGm,?_,?_⟩⟩,(below_alloc w _).drew⟩
 ·simp [Builtin.zeroCells];omega
 ·simp
theorem Concat_ok {w:World}{a b n m c1 c2 sb:Nat}{xs ys:List IV} (hx:w.ownsRow 0 32 1 (.slice (some ⟨a,0,none⟩) n c1) n (xs.map iv)) (hy:w.ownsRow 0 32 1 (.slice (some ⟨b,0,none⟩) m c2) m (ys.map iv)) (hn:n≤100000000) (hm:m≤100000000) (hn0:0 < n) (hm0:0 < m) (hs:w.heap[sb]? = some (.cells #[.slice (some ⟨a,0,none⟩) n c1,.slice (some ⟨b,0,none⟩) m c2] 86 (0,0))) :
  Calls Tryz.prog 267 #[.slice (some ⟨sb,0,none⟩) 2 2] w fun e w'=>∃ g cap,e = .returned (.slice (some ⟨g,0,none⟩) (n+m) cap)∧w'.ownsRow w.heap.size 32 1 (.slice (some ⟨g,0,none⟩) (n+m) cap) (n+m) ((xs ++ ys).map iv)∧Below w.heap.size w w':=by
 obtain ⟨i0,hi0,hz0,hz1,hz2⟩:=info_parts (show (Tryz.prog.info? 32).map (fun i=>(i.zero,i.size,i.bytes))=some (some .nilIface,1,16) by kernel_rfl)
 have s0:w.cell? ⟨sb,0,none⟩=some (.slice (some ⟨a,0,none⟩) n c1):=by simp [World.cell?,hs]
 have s1:w.cell? ⟨sb,1,none⟩=some (.slice (some ⟨b,0,none⟩) m c2):=by simp [World.cell?,hs]
 have sl:=lt_of_block hs
 have z1:¬ (n:Int) < 0:=by omega
 have z2:¬ (n:Int)+(m:Int) < 0:=by omega
 have hg:Calls Tryz.prog 299 #[.slice none 0 0,.int .i64 ((n:Int)+(m:Int))] w fun e w'=>∃ g cap,e = .returned (.slice (some ⟨g,0,none⟩) 0 cap)∧w'.ownsRow w.heap.size 32 1 (.slice (some ⟨g,0,none⟩) 0 cap) 0 []∧Below w.heap.size w w':=Grow_ok (w:=w) (n:=n+m) (by omega) (by omega)
 have hcx:∀ j v,(xs.map iv)[j]? = some v→w.cell? ⟨a,j,none⟩=some v:=fun j v hj=>by
  have hjl:=(List.getElem?_eq_some_iff.1 hj).1
  have:=hx.1
  rw [hx.cellAt j (by omega)]
  exact hj
 have hcy:∀ j v,(ys.map iv)[j]? = some v→w.cell? ⟨b,j,none⟩=some v:=fun j v hj=>by
  have hjl:=(List.getElem?_eq_some_iff.1 hj).1
  have:=hy.1
  rw [hy.cellAt j (by omega)]
  exact hj
 have hone:∀ (l:List IV) (v:Value),v∈l.map iv→v.oneCell'=true:=fun l v hv=>by
  obtain ⟨x,_,rfl⟩:=List.mem_map.1 hv
  rfl
 have hxl:(xs.map iv).length=n * 1:=hx.1
 have hyl:(ys.map iv).length=m * 1:=hy.1
 have hal:=(hx.lt a rfl).2
 have hbl:=(hy.lt b rfl).2
 clear hs hx hy
 go_enter Tryz.func267,Tryz.ntmps267
 go_wp2_with fail
 refine wp_loop_rounds 3 ?_
 rw [rounds_succ]
 go_wp2_with fail
 rw [rounds_succ]
 go_wp2_with fail
 rw [rounds_succ]
 go_wp2_with (go_at_call 299;refine hg.mono ?_;rintro e w1 ⟨g1,cap1,rfl,ow1,k1⟩;have t0:=(k1.cell (p:=⟨sb,0,none⟩) sl).trans s0;have t1:=(k1.cell (p:=⟨sb,1,none⟩) sl).trans s1;have tl:=Nat.lt_of_lt_of_le sl k1.size)
 refine wp_loop_rounds 3 ?_
 rw [rounds_succ]
 go_wp2_with (refine wpList_append_lies _ (by rfl) _ _ _ (by rfl) w.heap.size 32 i0 _ 1 16 Tryz.underlying86 hi0 hz0 hz1 hz2 rfl (by omega) _ 0 [] (by rfl) ow1 ⟨a,0,none⟩ n c1 (xs.map iv) (by rfl) hxl (fun j v hj=>by rw [add_at];exact (k1.cell (p:=⟨a,j,none⟩) hal).trans (hcx j v hj)) (hone xs) hn0 (by unfold maxLen;omega) (by omega) k1.size w1.heap.size rfl ?_;intro g2 cap2 w2 ow2 gr2 hat2 hlt2)
 have k2:Below w.heap.size w w2:=k1.grown gr2 k1.size (fun q hq=>(ow1.lt q hq).1)
 have ow2':w2.ownsRow w.heap.size 32 1 (.slice (some ⟨g2,0,none⟩) n cap2) n (xs.map iv):=by simpa using ow2
 have u1:=(k2.cell (p:=⟨sb,1,none⟩) sl).trans s1
 have ul:=Nat.lt_of_lt_of_le sl k2.size
 rw [rounds_succ]
 go_wp2_with (refine wpList_append_lies _ (by rfl) _ _ _ (by rfl) w.heap.size 32 i0 _ 1 16 Tryz.underlying86 hi0 hz0 hz1 hz2 rfl (by omega) _ n (xs.map iv) (by rfl) ow2' ⟨b,0,none⟩ m c2 (ys.map iv) (by rfl) hyl (fun j v hj=>by rw [add_at];exact (k2.cell (p:=⟨b,j,none⟩) hbl).trans (hcy j v hj)) (hone ys) hm0 (by unfold maxLen;omega) (by omega) k2.size w2.heap.size rfl ?_;intro g3 cap3 w3 ow3 gr3 hat3 hlt3)
 have k3:Below w.heap.size w w3:=k2.grown gr3 k2.size (fun q hq=>(ow2.lt q hq).1)
 rw [rounds_succ]
 go_wp2_with fail
 go_ret
 refine ⟨g3,cap3,?_,?_,k3⟩
 ·simp
 ·rw [List.map_append]
  simpa using ow3
end Go.Proofs.Tryz
namespace Go.Proofs.Tryz
set_option maxHeartbeats 16000000
open Go.RowKit
set_option maxRecDepth 10000
theorem Add_arr {w:World}{a b n m c1 c2:Nat}{xs ys:List IV} (hx:w.ownsRow 0 32 1 (.slice (some ⟨a,0,none⟩) n c1) n (xs.map iv)) (hy:w.ownsRow 0 32 1 (.slice (some ⟨b,0,none⟩) m c2) m (ys.map iv)) (hn:n≤100000000) (hm:m≤100000000) (hn0:0 < n) (hm0:0 < m) :
  Calls Tryz.prog 227 #[.iface 86 (.slice (some ⟨a,0,none⟩) n c1),.iface 86 (.slice (some ⟨b,0,none⟩) m c2)] w fun e w'=>∃ g cap,e = .returned (.tuple #[.iface 86 (.slice (some ⟨g,0,none⟩) (n+m) cap),.nilIface])∧w'.ownsRow w.heap.size 32 1 (.slice (some ⟨g,0,none⟩) (n+m) cap) (n+m) ((xs ++ ys).map iv)∧Below w.heap.size w w':=by
 have m0:=missVNull;have m1:=missVNumber;have m2:=missVString;have m3:=hitVArray;have m4:=missVObject;have m5:=missVBool
 have k0:=below_alloc2 w (.cells #[] 95) (.cells #[.slice (some ⟨a,0,none⟩) n c1,.slice (some ⟨b,0,none⟩) m c2] 86)
 have hc:=Concat_ok (w:=(w.alloc (.cells #[] 95)).alloc (.cells #[.slice (some ⟨a,0,none⟩) n c1,.slice (some ⟨b,0,none⟩) m c2] 86)) (owns_same hx (fun j hj=>k0.block j (hx.lt j hj).2)) (owns_same hy (fun j hj=>k0.block j (hy.lt j hj).2)) hn hm hn0 hm0 (heap_new2' w _ _)
 clear hx hy
 go_enter Tryz.func227,Tryz.ntmps227
 go_wp2_with (go_at_call 267;refine hc.mono ?_;rintro e w1 ⟨g,cap,rfl,ow,k1⟩)
 refine bodyPost_ret (v:=.tuple #[.iface 86 (.slice (some ⟨g,0,none⟩) (n+m) cap),.nilIface]) (by simp [results,Tryz.results227,go_sem]) rfl ⟨g,cap,rfl,?_,k0.trans (k1.mono k0.size)⟩
 refine ⟨ow.1,?_⟩
 rcases ow.2 with ⟨e,_⟩ | ⟨g',cap',cur,e,hg,h3⟩
 ·cases e
 ·exact .inr ⟨g',cap',cur,e,Nat.le_trans k0.size hg,h3⟩
theorem allp_true {w:World}:∀ {n:Nat}{ss:List Sp},AllP (List.replicate n (BoolP true)) w ss→ss.map (fun t=>iv t.1)=(List.replicate n (boolV true)).map iv∧ss.length=n
 | 0,[],_=>⟨rfl,rfl⟩
 | n+1,s :: ss,h=>by
  have h1:s=(boolV true,none):=h.1
  obtain ⟨h2,h3⟩:=allp_true (n:=n) h.2
  subst h1
  refine ⟨?_,by simp [h3]⟩
  rw [List.map_cons,h2,List.replicate_succ,List.map_cons]
 | 0,_ :: _,h=>h.elim
 | n+1,[],h=>h.elim
end Go.Proofs.Tryz
namespace Go.Proofs.Tryz
set_option maxHeartbeats 16000000
open Go.RowKit Go.Shelf
set_option maxRecDepth 100000
attribute [local go_sem] Oper.semAt_some
end Go.Proofs.Tryz
namespace Go.Proofs.Tryz
set_option maxHeartbeats 16000000
open Go.RowKit
set_option maxRecDepth 10000
theorem Rep.same {p:Nat→Prop}{w w':World}{v:Value}{t:Tr} (h:Rep p w v t) (hs:SameOn p w w'):Rep p w' v t:=h.to (fun b o u hb hu=>⟨hb,hs.cell hb hu⟩)
def Ev (p C:Nat→Prop) (w:World) (kn:Option Addr) (d:Int) (t:Tr) (s:Sp) (Ls:List SP):Prop:=(∀ k,C k→k < w.heap.size)∧∀ v,Rep p w v t→OpensG C w v kn d s Ls
theorem ev_ident {p C G:Nat→Prop}{w:World}{kn:Option Addr}{d:Int}{s:Sp}{P:SP} (hC:∀ k,C k→k < w.heap.size) (hP:HoldsP P G w s) (hG:∀ k,G k→C k):Ev p C w kn d .ident s [P]:=⟨hC,fun v hr=>by
 obtain ⟨b,rfl⟩:=hr.ident_of
 exact opensG_ident hC hP hG⟩
theorem ev_num {p C:Nat→Prop}{w:World}{kn:Option Addr}{d:Int}{x:IV}{n:Int} (hC:∀ k,C k→k < w.heap.size) (hp:∀ k,p k→C k):Ev p C w kn d (.num n) (x,none) [Just ((98,.int .i64 n),none)]:=⟨hC,fun v hr=>by
 obtain ⟨b,rfl,pb,c0⟩:=hr.num_of
 exact opensG_lit hC (hp b pb) c0⟩
theorem ev_bool {p C:Nat→Prop}{w:World}{kn:Option Addr}{d:Int}{x:IV}{n:Bool} (hC:∀ k,C k→k < w.heap.size) (hp:∀ k,p k→C k):Ev p C w kn d (.bool n) (x,none) [BoolP n]:=⟨hC,fun v hr=>by
 obtain ⟨b,rfl,pb,c0⟩:=hr.bool_of
 exact opensG_lit (y:=boolV n) hC (hp b pb) c0⟩
theorem ev_var {p C G:Nat→Prop}{w:World}{kn:Option Addr}{d:Int}{x y:IV}{name nm:ByteArray}{pos u0 ps:Int}{n vb:Nat}{df hd wh ar:Value}{P:SP} (hC:∀ k,C k→k < w.heap.size) (hp:∀ k,p k→C k) (hF:FindIs C w 0 name 0 n kn (some ⟨vb,0,none⟩)) (hv:C vb) (hk:KnB w vb u0 nm ps (iv y) df hd wh ar) (hP:HoldsP P G w (y,none)) (hG:∀ k,G k→C k):Ev p C w kn d (.var name pos) (x,none) [P]:=⟨hC,fun v hr=>by
 obtain ⟨b,rfl,pb,c0,_⟩:=hr.var_of
 exact opensG_var hC (hp b pb) c0 hF hv hk hP hG⟩
theorem ev_collect {p C:Nat→Prop}{w:World}{kn:Option Addr}{d:Int}{x:IV}{t:Tr}{Ls:List SP} (hp:∀ k,p k→C k) (h:Ev p C w kn d t (x,none) Ls) (hl:Ls.length≤100000000):Ev p C w kn d (.collect t) (x,none) [ArrOf Ls]:=⟨h.1,fun v hr=>by
 obtain ⟨b,y,rfl,pb,c0,r⟩:=hr.collect_of
 obtain ⟨T1,b1,rfl⟩:=r.shape
 exact opensG_collect (hp b pb) c0 (h.2 _ r) hl⟩
theorem ev_each {p C:Nat→Prop}{w:World}{kn:Option Addr}{d:Int}{s:Sp}{t:Tr}{Ps:List SP} (hp:∀ k,p k→C k) (h:Ev p C w kn d t s [ArrOf Ps]) (hq:∀ P∈Ps,Plainish P) (hl:Ps.length≤100000000):Ev p C w kn d (.each t) s Ps:=⟨h.1,fun v hr=>by
 obtain ⟨b,y,rfl,pb,c0,r⟩:=hr.each_of
 obtain ⟨T1,b1,rfl⟩:=r.shape
 exact opensG_each (hp b pb) c0 (h.2 _ r) hq hl⟩
theorem ev_index {p C:Nat→Prop}{w:World}{kn:Option Addr}{d:Int}{x:IV}{t1 t2:Tr}{P Q R:SP} (hp:∀ k,p k→C k) (h1:Ev p C w kn d t1 (x,none) [P]) (h2:Ev p C w kn d t2 (x,none) [Q]) (h:IdxG C w P Q R):Ev p C w kn d (.index t1 t2) (x,none) [R]:=⟨h1.1,fun v hr=>by
 obtain ⟨b,y,z,rfl,pb,c0,c1,r1,r2⟩:=hr.index_of
 obtain ⟨T1,b1,rfl⟩:=r1.shape
 obtain ⟨T2,b2,rfl⟩:=r2.shape
 exact opensG_index (hp b pb) c0 c1 (h1.2 _ r1) (h2.2 _ r2) h⟩
theorem ev_oper {p C:Nat→Prop}{w:World}{kn:Option Addr}{d:Int}{x:IV}{t1 t2:Tr}{op:ByteArray}{Lo:List (SP×SP)}{Q:SP} (hop:Plainly op) (hp:∀ k,p k→C k) (h1:Ev p C w kn d t1 (x,none) (Lo.map (·.1))) (h2:Ev p C w kn d t2 (x,none) [Q]) (h:∀ y∈Lo,OperG C w op y.1 Q y.2):Ev p C w kn d (.bin t1 op t2) (x,none) (Lo.map (·.2)):=⟨h1.1,fun v hr=>by
 obtain ⟨b,y,z,rfl,pb,c0,c1,c2,r1,r2⟩:=hr.bin_of
 obtain ⟨T1,b1,rfl⟩:=r1.shape
 obtain ⟨T2,b2,rfl⟩:=r2.shape
 exact opensG_oper hop (hp b pb) c0 c1 c2 (h1.2 _ r1) (h2.2 _ r2) h⟩
theorem ev_pipe {p C:Nat→Prop}{w:World}{kn:Option Addr}{d:Int}{s:Sp}{t1 t2:Tr}{Lo:List (SP×List SP)} (hp:∀ k,p k→C k) (h1:Ev p C w kn d t1 s (Lo.map (·.1))) (h2:∀ y∈Lo,∀ w' t G,SameOn C w w'→w.heap.size≤w'.heap.size→HoldsP y.1 G w' t→Ev p (fun k=>C k∨G k) w' kn d t2 t y.2):Ev p C w kn d (.bin t1 ⟨#[124]⟩ t2) s (Lo.flatMap (·.2)):=⟨h1.1,fun v hr=>by
 obtain ⟨b,y,z,rfl,pb,c0,c1,c2,r1,r2⟩:=hr.bin_of
 obtain ⟨T1,b1,rfl⟩:=r1.shape
 obtain ⟨T2,b2,rfl⟩:=r2.shape
 exact opensG_pipe (hp b pb) c0 c1 (by simp [go_sem]) c2 (h1.2 _ r1) (fun y hy w' t G hs hl hP=>(h2 y hy w' t G hs hl hP).2 _ (r2.same (hs.mono hp)))⟩
theorem ev_bind {p C:Nat→Prop}{w:World}{kn:Option Addr}{d:Int}{x:IV}{name:ByteArray}{t1 t2:Tr}{Lo:List (SP×List SP)} (hp:∀ k,p k→C k) (h1:Ev p C w kn d t1 (x,none) (Lo.map (·.1))) (h2:∀ y∈Lo,∀ w' t G nb,SameOn C w w'→w.heap.size≤w'.heap.size→HoldsP y.1 G w' t→KnB w' nb 0 name 0 (iv t.1) (.pointer none) .nilIface (.pointer none) (.pointer kn)→Ev p (fun k=>C k∨G k∨k=nb) w' (some ⟨nb,0,none⟩) d t2 (x,none) y.2):Ev p C w kn d (.bind t1 name t2) (x,none) (Lo.flatMap (·.2)):=⟨h1.1,fun v hr=>by
 obtain ⟨b,y,z,rfl,pb,c0,c1,c2,r1,r2⟩:=hr.bind_of
 obtain ⟨T1,b1,rfl⟩:=r1.shape
 obtain ⟨T2,b2,rfl⟩:=r2.shape
 exact opensG_bind (hp b pb) c0 c1 c2 (h1.2 _ r1) (fun y hy w' t G nb hs hl hP hk=>(h2 y hy w' t G nb hs hl hP hk).2 _ (r2.same (hs.mono hp)))⟩
theorem ev_alone {p C:Nat→Prop}{w:World}{kn:Option Addr}{d:Int}{x:IV}{name:ByteArray}{pos:Int}{n:Nat}{R:SP} (hC:∀ k,C k→k < w.heap.size) (hp:∀ k,p k→C k) (hF:FindIs C w 2 name 0 n kn none) (hN:NotNamed name) (hN2:NotGiven name) (h:AloneG C w name x R):Ev p C w kn d (.call0 name pos) (x,none) [R]:=⟨hC,fun v hr=>by
 obtain ⟨b,rfl,pb,c0,c1,_⟩:=hr.call0_of
 refine ⟨hC,fun w1 hs1 hl1=>open_callg (fun w2 k2=>?_)⟩
 have hs2:SameOn C w w2:=hs1.trans (fun j hj=>k2.block j (Nat.lt_of_lt_of_le (hC j hj) hl1))
 have hl2:=Nat.le_trans hl1 k2.size
 refine named_g hC (hp b pb) c0 c1 hF hN hs2 hl2 (fun w3 k3=>?_)
 exact given_alone hC (hp b pb) c0 c1 hN2 (hs2.trans (fun j hj=>k3.block j (Nat.lt_of_lt_of_le (hC j hj) hl2))) (Nat.le_trans hl2 k3.size) h⟩
theorem ev_empty {p C:Nat→Prop}{w:World}{kn:Option Addr}{d:Int}{x:IV}{pos:Int}{n:Nat} (hC:∀ k,C k→k < w.heap.size) (hp:∀ k,p k→C k) (hF:FindIs C w 2 ⟨#[101,109,112,116,121]⟩ 0 n kn none):Ev p C w kn d (.call0 ⟨#[101,109,112,116,121]⟩ pos) (x,none) []:=⟨hC,fun v hr=>by
 obtain ⟨b,rfl,pb,c0,c1,_⟩:=hr.call0_of
 refine ⟨hC,fun w1 hs1 hl1=>open_callg (fun w2 k2=>?_)⟩
 exact named_empty hC (hp b pb) c0 c1 hF (by simp [go_sem]) (hs1.trans (fun j hj=>k2.block j (Nat.lt_of_lt_of_le (hC j hj) hl1))) (Nat.le_trans hl1 k2.size)⟩
def noneOf (es:List (ByteArray×Int)) (name:ByteArray):Bool:=es.all fun e=>!(e.1.toList == name.toList)
theorem chain_find {p C:Nat→Prop}{w:World}{base:Option Addr}{name:ByteArray}{na:Int}{n:Nat}{r:Option Addr} (hp:∀ k,p k→C k) (hb:FindIs C w 2 name na n base r):∀ {es:List (ByteArray×Int)}{kn:Option Addr},noneOf es name=true→ChainOn p w base es kn→FindIs C w 2 name na (n+es.length) kn r
 | [],kn,_,h=>by
  have h:kn=base:=h
  rw [h]
  exact hb
 | e :: es,kn,ho,⟨b,db,around,h1,h2,h3,h4⟩=>by
  simp only [noneOf,List.all_cons,Bool.and_eq_true] at ho
  exact ⟨b,2,e.1,e.2,_,_,_,_,around,h1,hp b h2,h3,.inr ⟨.inr (.inl ⟨rfl,by simpa using ho.1⟩),chain_find hp hb ho.2 h4⟩⟩
theorem find_none {p C:Nat→Prop}{w:World}{kn:Option Addr}{name:ByteArray}{na:Int} (hp:∀ k,p k→C k) (h:GivenC p w kn) (h1:noneOf sOthers name=true) (h2:(sMap.toList == name.toList)=false):FindIs C w 2 name na 8 kn none:=by
 obtain ⟨mb,hc,hm,db,pd,po,pc,x,hk,_⟩:=h
 exact chain_find (n:=1) hp ⟨mb,2,sMap,1,_,_,_,_,none,rfl,hp mb hm,hk,.inr ⟨.inr (.inl ⟨rfl,h2⟩),rfl,rfl⟩⟩ h1 hc
theorem FindIs.past {C:Nat→Prop}{w:World}{name vn:ByteArray}{na:Int}{n nb:Nat}{kn r:Option Addr}{val:Value} (h:FindIs C w 2 name na n kn r) (hC:C nb) (hk:KnB w nb 0 vn 0 val (.pointer none) .nilIface (.pointer none) (.pointer kn)):FindIs C w 2 name na (n+1) (some ⟨nb,0,none⟩) r :=
 ⟨nb,0,vn,0,_,_,_,_,kn,rfl,hC,hk,.inr ⟨.inl rfl,h⟩⟩
theorem FindIs.here {C:Nat→Prop}{w:World}{vn:ByteArray}{nb:Nat}{kn:Option Addr}{val:Value} (hC:C nb) (hk:KnB w nb 0 vn 0 val (.pointer none) .nilIface (.pointer none) (.pointer kn)):FindIs C w 0 vn 0 1 (some ⟨nb,0,none⟩) (some ⟨nb,0,none⟩) :=
 ⟨nb,0,vn,0,_,_,_,_,kn,rfl,hC,hk,.inl ⟨⟨rfl,rfl,rfl⟩,rfl⟩⟩
theorem FindIs.next {C:Nat→Prop}{w:World}{name vn:ByteArray}{n nb:Nat}{kn r:Option Addr}{val:Value} (h:FindIs C w 0 name 0 n kn r) (hC:C nb) (hk:KnB w nb 0 vn 0 val (.pointer none) .nilIface (.pointer none) (.pointer kn)) (hn:(vn.toList == name.toList)=false):FindIs C w 0 name 0 (n+1) (some ⟨nb,0,none⟩) r :=
 ⟨nb,0,vn,0,_,_,_,_,kn,rfl,hC,hk,.inr ⟨.inr (.inl ⟨rfl,hn⟩),h⟩⟩
def NoPath (P:SP):Prop:=∀ w s,P w s→s.2=none
theorem NoPath.plainish {P:SP} (h:NoPath P):Plainish P:=fun w v q hP=>by
 have:q=none:=h w (v,q) hP
 rw [← this]
 exact hP
theorem MapB.move {p:Nat→Prop}{w w':World}{mb:Nat} (h:MapB p w mb) (hs:SameOn p w w'):MapB p w' mb:=by
 obtain ⟨h1,db,pd,po,pc,x,h2,h3,h4,h5,h6,h7,h8⟩:=h
 exact ⟨h1,db,pd,po,pc,x,h2.same (hs mb h1),h3,h4,hs.cell h3 h5,hs.cell h4 h6,hs.cell h3 h7,h8.same hs⟩
end Go.Proofs.Tryz
