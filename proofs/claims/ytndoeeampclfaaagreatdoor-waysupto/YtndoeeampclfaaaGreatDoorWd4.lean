import Derived.Test.YtndoeeampclfaaaGreatDoorWc3
import Derived.Test.YtndoeeampclfaaaGreatDoorFz1
import Derived.Lib.OthersKept
import Derived.Lib.SlBuf
set_option linter.all false
namespace Go.Proofs.Tryz
set_option maxHeartbeats 16000000
open Go.RowKit
set_option maxRecDepth 10000
abbrev Tw:=ByteArray×IV×IV×Nat
def twL (t:Tw):El:=(t.1,t.2.1,[])
def twR (t:Tw):El:=(t.1,t.2.2.1,[])
def Eqv (w:World):Nat→Nat→IV→IV→Prop
 | 0,n,x,y=>1≤n∧x=y∧leafK x
 | d+1,n,x,y=>(1≤n∧x=y∧leafK x)∨
   (∃ (r r':Value) (ts:List (IV×IV×Nat)),x=(86,r)∧y=(86,r')∧w.ownsRow 0 32 1 r ts.length (ts.map fun t=>iv t.1)∧w.ownsRow 0 32 1 r' ts.length (ts.map fun t=>iv t.2.1)∧(∀ t∈ts,Eqv w d t.2.2 t.1 t.2.1)∧1+(ts.map (·.2.2)).sum≤n)∨
   (∃ (r r':Value) (ts:List Tw),x=(102,r)∧y=(102,r')∧w.ownsRow 0 107 2 r (ts.map twL).length ((ts.map twL).flatMap elC)∧w.ownsRow 0 107 2 r' (ts.map twR).length ((ts.map twR).flatMap elC)∧(∀ t∈ts,Eqv w d t.2.2.2 t.2.1 t.2.2.1)∧1+(ts.map (·.2.2.2)).sum≤n)
def KeptV (w w':World):Prop:=∀ (b:Nat) (c:Array Value) (fz:Nat×Nat),(w.heap[b]? = some (.cells c 32 fz)∨w.heap[b]? = some (.cells c 107 fz))→w'.heap[b]? = w.heap[b]?
theorem KeptV.refl (w:World):KeptV w w:=fun _ _ _ _=>rfl
theorem KeptV.trans {a b c:World} (h:KeptV a b) (k:KeptV b c):KeptV a c:=fun i x y e=>by
 have h1:=h i x y e
 have h2:=k i x y (by rw [h1];exact e)
 rw [h2,h1]
theorem KeptV.of_below {w w':World} (h:Below w.heap.size w w'):KeptV w w':=fun b c fz e=>h.block b (by
 rcases e with e | e <;> exact lt_of_block e)
theorem KeptV.of_others {w w':World}{T:Nat} (h:Lib.OthersKept T none w w') (h1:T≠32) (h2:T≠107):KeptV w w':=fun b c fz e=>by
 rcases e with e | e
 ·rw [e];exact h b _ e (by simp) (fun c' fz' e'=>by cases e';exact h1 rfl)
 ·rw [e];exact h b _ e (by simp) (fun c' fz' e'=>by cases e';exact h2 rfl)
theorem KeptV.rowV {w w':World} (h:KeptV w w') {N n:Nat}{v:Value}{xs:List Value} (o:w.ownsRow N 32 1 v n xs):w'.ownsRow N 32 1 v n xs :=
 owns_same o (fun k hk=>by
  obtain ⟨c,fz,e⟩:=own_kind o k hk
  exact h k c fz (.inl e))
theorem KeptV.rowM {w w':World} (h:KeptV w w') {N n:Nat}{v:Value}{xs:List Value} (o:w.ownsRow N 107 2 v n xs):w'.ownsRow N 107 2 v n xs :=
 owns_same o (fun k hk=>by
  obtain ⟨c,fz,e⟩:=own_kind o k hk
  exact h k c fz (.inr e))
theorem Eqv.keep {w w':World} (h:KeptV w w'):∀ {d n:Nat}{x y:IV},Eqv w d n x y→Eqv w' d n x y
 | 0,_,_,_,e=>e
 | d+1,n,x,y,e=>by
  rcases e with e | ⟨r,r',ts,e1,e2,o1,o2,ht,hn⟩ | ⟨r,r',ts,e1,e2,o1,o2,ht,hn⟩
  ·exact .inl e
  ·exact .inr (.inl ⟨r,r',ts,e1,e2,h.rowV o1,h.rowV o2,fun t htt=>Eqv.keep h (ht t htt),hn⟩)
  ·exact .inr (.inr ⟨r,r',ts,e1,e2,h.rowM o1,h.rowM o2,fun t htt=>Eqv.keep h (ht t htt),hn⟩)
theorem Eqv.up {w:World}:∀ {d n:Nat}{x y:IV},Eqv w d n x y→Eqv w (d+1) n x y
 | 0,_,_,_,e=>.inl e
 | d+1,n,x,y,e=>by
  rcases e with e | ⟨r,r',ts,e1,e2,o1,o2,ht,hn⟩ | ⟨r,r',ts,e1,e2,o1,o2,ht,hn⟩
  ·exact .inl e
  ·exact .inr (.inl ⟨r,r',ts,e1,e2,o1,o2,fun t htt=>Eqv.up (ht t htt),hn⟩)
  ·exact .inr (.inr ⟨r,r',ts,e1,e2,o1,o2,fun t htt=>Eqv.up (ht t htt),hn⟩)
def Sl (w:World) (v:Value) (xs:List IV):Prop:=∃ p cap,v = .slice p xs.length cap∧xs.length≤cap∧cap≤9223372036854775807∧(xs=[]∨∃ a off c,p=some ⟨a,off,none⟩∧w.heap[a]? = some (.cells c 32 (0,0))∧∀ i x,xs[i]? = some x→c[off+i]? = some (iv x))
theorem Sl.keep {w w':World} (h:KeptV w w') {v:Value}{xs:List IV} (s:Sl w v xs):Sl w' v xs:=by
 obtain ⟨p,cap,e,h1,h2,h3⟩:=s
 refine ⟨p,cap,e,h1,h2,?_⟩
 rcases h3 with h3 | ⟨a,off,c,e1,e2,e3⟩
 ·exact .inl h3
 ·exact .inr ⟨a,off,c,e1,(h a c _ (.inl e2)).trans e2,e3⟩
theorem Sl.of_row {w:World}{N:Nat}{v:Value}{xs:List IV} (h:w.ownsRow N 32 1 v xs.length (xs.map iv)):Sl w v xs:=by
 rcases h.2 with ⟨e,h0⟩ | ⟨g,cap,cur,e,_,hb,hn,hm,hs,ht⟩
 ·have:xs=[]:=List.eq_nil_of_length_eq_zero h0
  subst this
  exact ⟨none,0,e,by simp,by omega,.inl rfl⟩
 ·refine ⟨_,cap,e,hn,by simpa [maxLen] using hm,.inr ⟨g,0,cur,rfl,hb,fun i x hx=>?_⟩⟩
  have hi:=(List.getElem?_eq_some_iff.1 hx).1
  have h2:cur.toList[i]? = some (iv x):=by
   rw [← List.getElem?_take_of_lt (show i < xs.length * 1 by omega),ht,List.getElem?_map,hx];rfl
  rw [Nat.zero_add]
  simpa using h2
theorem eq_step (hC:ComparesStr) {w:World}{d n:Nat}{x y:IV} (h:Eqv w d n x y) (hn:n≤1000000000) :
  (Calls Tryz.prog 263 #[iv x,iv y] w fun e w'=>e = .returned (.int .i64 0)∧Below w.heap.size w w')∧
  ∃ ts:List (IV×IV×Nat),1+(ts.map (·.2.2)).sum≤n∧ts.length≤n∧(∀ t∈ts,Eqv w d t.2.2 t.1 t.2.1)∧
   (∀ w1,Below w.heap.size w w1→Calls Tryz.prog 264 #[iv x] w1 fun e w2=>∃ v,e = .returned v∧Below w1.heap.size w1 w2∧Sl w2 v (ts.map (·.1)))∧
   (∀ w1,Below w.heap.size w w1→Calls Tryz.prog 264 #[iv y] w1 fun e w2=>∃ v,e = .returned v∧Below w1.heap.size w1 w2∧Sl w2 v (ts.map (·.2.1))):=by
 have leaf:∀ x,leafK x→1≤n→(Calls Tryz.prog 263 #[iv x,iv x] w fun e w'=>e = .returned (.int .i64 0)∧Below w.heap.size w w')∧
  ∃ ts:List (IV×IV×Nat),1+(ts.map (·.2.2)).sum≤n∧ts.length≤n∧(∀ t∈ts,Eqv w d t.2.2 t.1 t.2.1)∧
   (∀ w1,Below w.heap.size w w1→Calls Tryz.prog 264 #[iv x] w1 fun e w2=>∃ v,e = .returned v∧Below w1.heap.size w1 w2∧Sl w2 v (ts.map (·.1)))∧
   (∀ w1,Below w.heap.size w w1→Calls Tryz.prog 264 #[iv x] w1 fun e w2=>∃ v,e = .returned v∧Below w1.heap.size w1 w2∧Sl w2 v (ts.map (·.2.1))):=fun x hx h1=>by
  refine ⟨outside_leaf hC hx w,[],by simpa using h1,by simp,by simp,fun w1 _=>?_,fun w1 _=>?_⟩
  ·exact (parts_leaf hx w1).mono fun e w2 ⟨he,k⟩=>⟨_,he,k,none,0,rfl,by simp,by omega,.inl rfl⟩
  ·exact (parts_leaf hx w1).mono fun e w2 ⟨he,k⟩=>⟨_,he,k,none,0,rfl,by simp,by omega,.inl rfl⟩
 cases d with
 | zero =>
  obtain ⟨h1,rfl,hx⟩:=h
  exact leaf x hx h1
 | succ d =>
  rcases h with ⟨h1,rfl,hx⟩ | ⟨r,r',ts,rfl,rfl,o1,o2,ht,hs⟩ | ⟨r,r',ts,rfl,rfl,o1,o2,ht,hs⟩
  ·exact leaf x hx h1
  ·obtain ⟨p1,m1,c1,rfl⟩:=owns_shape o1
   obtain ⟨p2,m2,c2,rfl⟩:=owns_shape o2
   have hl:ts.length≤1+(ts.map (·.2.2)).sum:=by
    have:∀ l:List (IV×IV×Nat),(∀ t∈l,Eqv w d t.2.2 t.1 t.2.1)→l.length≤(l.map (·.2.2)).sum:=by
     intro l hl
     induction l with
     | nil=>simp
     | cons t l ih =>
      have h1:1≤t.2.2:=by
       have:=hl t (by simp)
       cases d with
       | zero=>exact this.1
       | succ d=>rcases this with h | ⟨_,_,_,_,_,_,_,_,h⟩ | ⟨_,_,_,_,_,_,_,_,h⟩ <;> omega
      have:=ih (fun t ht=>hl t (by simp [ht]))
      simp
      omega
    have:=this ts ht
    omega
   refine ⟨outside_arr _ _ w,ts,hs,by omega,fun t htt=>(ht t htt).up,fun w1 k=>?_,fun w1 k=>?_⟩
   ·refine (parts_arr p1 m1 c1 w1).mono fun e w2 ⟨he,k2⟩=>⟨_,he,k2,?_⟩
    refine Sl.of_row (N:=0) ?_
    rw [List.length_map,List.map_map]
    exact (KeptV.of_below (k.trans (k2.mono k.size))).rowV o1
   ·refine (parts_arr p2 m2 c2 w1).mono fun e w2 ⟨he,k2⟩=>⟨_,he,k2,?_⟩
    refine Sl.of_row (N:=0) ?_
    rw [List.length_map,List.map_map]
    exact (KeptV.of_below (k.trans (k2.mono k.size))).rowV o2
  ·have hl:ts.length≤(ts.map (·.2.2.2)).sum:=by
    have:∀ l:List Tw,(∀ t∈l,Eqv w d t.2.2.2 t.2.1 t.2.2.1)→l.length≤(l.map (·.2.2.2)).sum:=by
     intro l hl
     induction l with
     | nil=>simp
     | cons t l ih =>
      have h1:1≤t.2.2.2:=by
       have:=hl t (by simp)
       cases d with
       | zero=>exact this.1
       | succ d=>rcases this with h | ⟨_,_,_,_,_,_,_,_,h⟩ | ⟨_,_,_,_,_,_,_,_,h⟩ <;> omega
      have:=ih (fun t ht=>hl t (by simp [ht]))
      simp
      omega
    exact this ts ht
   have hsum:((ts.map fun t=>(t.2.1,t.2.2.1,t.2.2.2)).map (·.2.2)).sum=(ts.map (·.2.2.2)).sum:=by rw [List.map_map];rfl
   have hE:∀ t∈ts.map (fun t=>(t.2.1,t.2.2.1,t.2.2.2)),Eqv w (d+1) t.2.2 t.1 t.2.1:=fun t htt=>by
    obtain ⟨s,hs,rfl⟩:=List.mem_map.1 htt
    exact (ht s hs).up
   have part:∀ (r:Value) (f:Tw→El) (g:Tw→IV),(∀ t,(f t).2.1=g t)→w.ownsRow 0 107 2 r (ts.map f).length ((ts.map f).flatMap elC)→∀ w1,Below w.heap.size w w1→Calls Tryz.prog 264 #[.iface 102 r] w1 fun e w2=>∃ v,e = .returned v∧Below w1.heap.size w1 w2∧Sl w2 v (ts.map g):=fun r f g hf o w1 k=>by
    have o':=(KeptV.of_below k).rowM o
    rcases o'.2 with ⟨hr,h0⟩ | ⟨gr,cr,cur,hr,_⟩
    ·have:ts=[]:=List.eq_nil_of_length_eq_zero (by simpa using h0)
     subst this
     rw [hr]
     exact (parts_objNil none 0 w1).mono fun e w2 ⟨he,k2⟩=>⟨_,he,k2,_,0,rfl,by simp,by omega,.inl rfl⟩
    ·rw [hr] at o' ⊢
     obtain ⟨hn1,hM,hc,hcm,_⟩:=owns_mem o'
     refine (parts_obj hM rfl (by rw [List.length_map];omega)).mono fun e w2 ⟨he,ow,k2⟩=>⟨_,he,k2,?_⟩
     have:(ts.map f).length=(ts.map g).length:=by simp
     rw [this] at ow ⊢
     refine Sl.of_row (N:=w1.heap.size) ?_
     have e2:((ts.map f).map fun x=>iv x.2.1)=(ts.map g).map iv:=by
      rw [List.map_map,List.map_map]
      apply List.map_congr_left
      intro t _
      simp only [Function.comp]
      rw [hf t]
     rw [← e2]
     exact ow
   refine ⟨outside_obj ?_,ts.map (fun t=>(t.2.1,t.2.2.1,t.2.2.2)),by rw [hsum];exact hs,by rw [List.length_map];omega,hE,fun w1 k=>?_,fun w1 k=>?_⟩
   ·rcases o1.2 with ⟨hr,h0⟩ | ⟨g1,c1,_,hr,_⟩
    ·have:ts=[]:=List.eq_nil_of_length_eq_zero (by simpa using h0)
     subst this
     rw [hr]
     rcases o2.2 with ⟨hr2,_⟩ | ⟨g2,c2,_,hr2,_⟩
     ·rw [hr2];exact cmpFunc_nil _ _ _ _ w
     ·rw [hr2];exact cmpFunc_nil _ _ _ _ w
    ·rcases o2.2 with ⟨hr2,h0⟩ | ⟨g2,c2,_,hr2,_⟩
     ·have:ts=[]:=List.eq_nil_of_length_eq_zero (by simpa using h0)
      subst this
      rw [hr,hr2]
      exact cmpFunc_nil _ _ _ _ w
     ·rw [hr] at o1 ⊢
      rw [hr2] at o2 ⊢
      obtain ⟨_,hM1,_⟩:=owns_mem o1
      obtain ⟨_,hM2,_⟩:=owns_mem o2
      have e1:(ts.map twL).length=ts.length:=by simp
      have e2:(ts.map twR).length=ts.length:=by simp
      rw [e1,e2]
      refine cmpFunc_same hC hM1 hM2 e1 e2 (fun i x y hx hy=>?_) (by omega)
      rw [List.getElem?_map] at hx hy
      cases ht':ts[i]? with
      | none=>rw [ht'] at hx;cases hx
      | some t =>
       rw [ht'] at hx hy
       cases hx
       cases hy
       rfl
   ·have:=part r twL (fun t=>t.2.1) (fun _=>rfl) o1 w1 k
    rw [List.map_map]
    exact this
   ·have:=part r' twR (fun t=>t.2.2.1) (fun _=>rfl) o2 w1 k
    rw [List.map_map]
    exact this
end Go.Proofs.Tryz
namespace Go.Proofs.Tryz
set_option maxHeartbeats 16000000
open Go.RowKit
set_option maxRecDepth 10000
theorem rise_at {L:List El} (h:RiseE L) {i j:Nat}{x y:El} (hx:L[i]? = some x) (hy:L[j]? = some y) (hij:i < j):klt (elKey x) (elKey y):=by
 obtain ⟨hi,rfl⟩:=List.getElem?_eq_some_iff.1 hx
 obtain ⟨hj,rfl⟩:=List.getElem?_eq_some_iff.1 hy
 exact List.pairwise_iff_getElem.1 h i j hi hj hij
theorem rise_cmp {L:List El} (h:RiseE L) {i q:Nat}{x y:El} (hx:L[i]? = some x) (hy:L[q]? = some y):Lib.compareBytes (elKey x) (elKey y) < 0↔i < q:=by
 rcases Nat.lt_trichotomy i q with hlt | rfl | hlt
 ·exact ⟨fun _=>hlt,fun _=>rise_at h hx hy hlt⟩
 ·rw [hx] at hy
  cases hy
  rw [cmp_self]
  omega
 ·have:=rise_at h hy hx hlt
  rw [cmp_neg (elKey y) (elKey x)]
  rw [klt] at this
  omega
def findF:Value:=.func (.func 201) #[] #[]
theorem findC_ok (hC:ComparesStr) (kx k:ByteArray) (T:Nat) (u:Value) (w:World) :
  Calls Tryz.prog 201 #[.agg #[.string kx,.iface T u],.string k] w fun e w'=>e = .returned (.int .i64 (Lib.compareBytes kx.data.toList k.data.toList))∧Below w.heap.size w w':=by
 go_enter Tryz.func201,Tryz.ntmps201
 go_wp2_with (go_at_call 188;refine (hC _ _ _).mono ?_;rintro e w1 ⟨rfl,hw⟩;subst w1)
 go_ret
 exact ⟨rfl,(Below.refl _ _).alloc (Nat.le_refl _) _⟩
theorem bsearch_ok (hC:ComparesStr) {w:World}{a ca n C q:Nat}{L:List El}{k:ByteArray}{T:Nat}{u:Value}{tx:Bys} (hM:Mem w a C L) (hn:L.length=n) (hmax:n≤1000000000) (hr:RiseE L) (hq:L[q]? = some (k,(T,u),tx)) :
  Calls Tryz.prog 200 #[.slice (some ⟨a,0,none⟩) n ca,.string k,findF] w fun e w'=>e = .returned (.tuple #[.int .i64 q,.bool true])∧Below w.heap.size w w':=by
 have hqn:q < n:=by rw [← hn];exact (List.getElem?_eq_some_iff.1 hq).1
 have hla:=hM.lt
 have HM:Aside (Mem w a C L):=hM
 have HR:Aside (RiseE L):=hr
 have HQ:Aside (L[q]? = some (k,(T,u),tx)):=hq
 have HN:Hid (L.length=n):=hn
 clear hM hr hq hn
 unfold findF
 go_enter Tryz.func200,Tryz.ntmps200
 go_wp2_with fail
 go_loopg [9,10] n (fun kk v1 v2 wr=>∃ (i j:Nat),v1 = .int .i64 i∧v2 = .int .i64 j∧i≤q∧q≤j∧j≤n∧j - i≤kk∧Below w.heap.size w wr)
 case atStart=>exact ⟨0,n,rfl,rfl,by omega,by omega,by omega,by omega,Below.refl _ _⟩
 case round =>
  obtain ⟨i,j,rfl,rfl,hiq,hqj,hjn,hk,hb⟩:=hrel
  have hs:=hb.size
  by_cases hlt:i < j
  ·have hlt':(i:Int) < (j:Int):=by omega
   obtain ⟨p,hp⟩:∃ p,(i+j) / 2=p:=⟨_,rfl⟩
   obtain ⟨⟨ky,⟨Ty,uy⟩,ty⟩,hy⟩:∃ y,L[p]? = some y:=⟨_,List.getElem?_eq_getElem (by rw [HN.out];omega)⟩
   obtain ⟨y0,y1⟩:=HM.out.at hy
   simp only [iv] at y0 y1
   have f0:=(hb.cell (p:=⟨a,p * 2,none⟩) hla).trans y0
   have f1:=(hb.cell (p:=⟨a,p * 2+1,none⟩) hla).trans y1
   have hcp:Lib.compareBytes ky.data.toList k.data.toList < 0↔p < q:=rise_cmp HR.out hy HQ.out
   have hpl:(p:Int) < (n:Int):=by omega
   have hp0:(0:Int)≤(p:Int):=by omega
   have eq:((i:Int)+(j:Int)) / 2=(p:Int):=by omega
   have HP:Hid _:=hp
   clear hp hy y0 y1
   obtain ⟨cc,hcc⟩:∃ cc,Lib.compareBytes ky.data.toList k.data.toList=cc:=⟨_,rfl⟩
   rw [hcc] at hcp
   have HCP:Hid _:=hcp
   clear hcp
   have hcm:=findC_ok hC ky k Ty uy
   simp only [hcc] at hcm
   clear hcc
   by_cases hc:cc < 0
   ·go_wp2_with (go_at_call 201;refine (hcm _).mono ?_;rintro e w1 ⟨rfl,k1⟩)
    go_roundg (j - (p+1))
    case measure=>have:=HP.out;omega
    case rel=>exact ⟨p+1,j,by simp,rfl,by have:=HCP.out.1 hc;omega,hqj,hjn,by omega,hb.trans (k1.mono hs)⟩
   ·go_wp2_with (go_at_call 201;refine (hcm _).mono ?_;rintro e w1 ⟨rfl,k1⟩)
    go_roundg (p - i)
    case measure=>have:=HP.out;omega
    case rel=>exact ⟨i,p,rfl,rfl,hiq,by have:=HCP.out.2;omega,by omega,by omega,hb.trans (k1.mono hs)⟩
  ·have hlt':¬ (i:Int) < (j:Int):=by omega
   obtain rfl:i=q:=by omega
   obtain ⟨y0,y1⟩:=HM.out.at HQ.out
   simp only [iv] at y0 y1
   have f0:=(hb.cell (p:=⟨a,i * 2,none⟩) hla).trans y0
   have f1:=(hb.cell (p:=⟨a,i * 2+1,none⟩) hla).trans y1
   have hpl:(i:Int) < (n:Int):=by omega
   clear y0 y1
   have hcm:=findC_ok hC k k T u
   simp only [cmp_self] at hcm
   go_wp2_with (go_at_call 201;refine (hcm _).mono ?_;rintro e w1 ⟨rfl,k1⟩)
   exact bodyPost_ret (v:=.tuple #[.int .i64 i,.bool true]) (by simp [results,Tryz.results200,go_sem]) rfl ⟨rfl,hb.trans (k1.mono hs)⟩
theorem ofind_ok (hC:ComparesStr) {w:World}{a ca n C q:Nat}{L:List El}{k:ByteArray}{T:Nat}{u:Value}{tx:Bys} (hM:Mem w a C L) (hn:L.length=n) (hmax:n≤1000000000) (hr:RiseE L) (hq:L[q]? = some (k,(T,u),tx)) :
  Calls Tryz.prog 149 #[.slice (some ⟨a,0,none⟩) n ca,.iface 100 (.string k)] w fun e w'=>e = .returned (.tuple #[.int .i64 q,.bool true])∧Below w.heap.size w w':=by
 have m2:=hitVString
 have HB:Aside (Calls Tryz.prog 200 #[.slice (some ⟨a,0,none⟩) n ca,.string k,.func (.func 201) #[] #[]] w fun e w'=>e = .returned (.tuple #[.int .i64 q,.bool true])∧Below w.heap.size w w'):=bsearch_ok hC hM hn hmax hr hq
 clear hM hn hr hq
 go_enter Tryz.func149,Tryz.ntmps149
 go_wp2_with (go_at_call 200;refine Calls.mono HB.out ?_;rintro e w1 ⟨rfl,k1⟩)
 exact bodyPost_ret (v:=.tuple #[.int .i64 q,.bool true]) (by simp [results,Tryz.results149,go_sem]) rfl ⟨rfl,k1⟩
theorem afind_ok {w:World}{p:Option Addr}{n c i:Nat} (hi:i < n) (hn:n≤1000000000) :
  Calls Tryz.prog 148 #[.slice p n c,.iface 98 (.int .i64 i)] w fun e w'=>e = .returned (.tuple #[.int .i64 i,.bool true])∧Below w.heap.size w w':=by
 have m1:=hitVNumber
 have z0:¬ (i:Int) < 0:=by omega
 have z1:(0:Int)≤(i:Int):=by omega
 have z2:(i:Int) < (n:Int):=by omega
 go_enter Tryz.func148,Tryz.ntmps148
 go_wp2_with fail
 exact bodyPost_ret (v:=.tuple #[.int .i64 i,.bool true]) (by simp [results,Tryz.results148,go_sem]) rfl ⟨rfl,Below.refl _ _⟩
theorem holds_arr {w:World}{r:Value}{i:Int}:Calls Tryz.prog 147 #[.iface 86 r,.iface 98 (.int .i64 i)] w fun e w'=>e = .returned (.bool true)∧Below w.heap.size w w':=by
 have m0:=missVNull;have m1:=hitVNumber;have m2:=missVString;have m3:=hitVArray;have m4:=missVObject;have m5:=missVBool
 go_enter Tryz.func147,Tryz.ntmps147
 go_wp2_with fail
 go_ret
 exact ⟨rfl,Below.refl _ _⟩
theorem holds_obj {w:World}{r:Value}{k:ByteArray}:Calls Tryz.prog 147 #[.iface 102 r,.iface 100 (.string k)] w fun e w'=>e = .returned (.bool true)∧Below w.heap.size w w':=by
 have m0:=missVNull;have m1:=missVNumber;have m2:=hitVString;have m3:=missVArray;have m4:=hitVObject;have m5:=missVBool
 go_enter Tryz.func147,Tryz.ntmps147
 go_wp2_with fail
 go_ret
 exact ⟨rfl,Below.refl _ _⟩
end Go.Proofs.Tryz
namespace Go.Proofs.Tryz
set_option maxHeartbeats 16000000
open Go.RowKit
set_option maxRecDepth 10000
theorem At_arr {w:World}{a n c i:Nat}{T:Nat}{u:Value} (hi:i < n) (hn:n≤1000000000) (h:w.cell? ⟨a,i,none⟩=some (.iface T u)) :
  Calls Tryz.prog 95 #[.iface 86 (.slice (some ⟨a,0,none⟩) n c),.iface 98 (.int .i64 i)] w fun e w'=>e = .returned (.tuple #[.iface T u,.nilIface])∧Below w.heap.size w w':=by
 have m0:=missVNull;have m1:=hitVNumber;have m2:=missVString;have m3:=hitVArray;have m4:=missVObject;have m5:=missVBool
 have z2:(i:Int) < (n:Int):=by omega
 have z3:(0:Int)≤(i:Int):=by omega
 have hl:=lt_cell h
 go_enter Tryz.func95,Tryz.ntmps95
 go_wp2_with (first
  | (go_at_call 147;refine holds_arr.mono ?_;rintro e w1 ⟨rfl,k1⟩)
  | (go_at_call 148;refine (afind_ok hi hn).mono ?_;rintro e w2 ⟨rfl,k2⟩;have k12:=k1.trans (k2.mono k1.size);have f0:=(k12.cell (p:=⟨a,i,none⟩) hl).trans h))
 exact bodyPost_ret (v:=.tuple #[.iface T u,.nilIface]) (by simp [results,Tryz.results95,go_sem]) rfl ⟨rfl,k12⟩
theorem At_obj (hC:ComparesStr) {w:World}{a ca n C q:Nat}{L:List El}{k:ByteArray}{T:Nat}{u:Value}{tx:Bys} (hM:Mem w a C L) (hn:L.length=n) (hmax:n≤1000000000) (hr:RiseE L) (hq:L[q]? = some (k,(T,u),tx)) :
  Calls Tryz.prog 95 #[.iface 102 (.slice (some ⟨a,0,none⟩) n ca),.iface 100 (.string k)] w fun e w'=>e = .returned (.tuple #[.iface T u,.nilIface])∧Below w.heap.size w w':=by
 have m0:=missVNull;have m1:=missVNumber;have m2:=hitVString;have m3:=missVArray;have m4:=hitVObject;have m5:=missVBool
 have hqn:q < n:=by rw [← hn];exact (List.getElem?_eq_some_iff.1 hq).1
 have z2:(q:Int) < (n:Int):=by omega
 have z3:(0:Int)≤(q:Int):=by omega
 have hla:=hM.lt
 obtain ⟨_,h⟩:=hM.at hq
 simp only [iv] at h
 have HF:Aside (∀ w1,Below w.heap.size w w1→Calls Tryz.prog 149 #[.slice (some ⟨a,0,none⟩) n ca,.iface 100 (.string k)] w1 fun e w'=>e = .returned (.tuple #[.int .i64 q,.bool true])∧Below w1.heap.size w1 w'):=fun w1 k1=>ofind_ok hC (hM.same (k1.block a hla)) hn hmax hr hq
 clear hM hn hr hq
 go_enter Tryz.func95,Tryz.ntmps95
 go_wp2_with (first
  | (go_at_call 147;refine holds_obj.mono ?_;rintro e w1 ⟨rfl,k1⟩)
  | (go_at_call 149;refine (HF.out _ k1).mono ?_;rintro e w2 ⟨rfl,k2⟩;have k12:=k1.trans (k2.mono k1.size);have f0:=(k12.cell (p:=⟨a,q * 2+1,none⟩) hla).trans h))
 exact bodyPost_ret (v:=.tuple #[.iface T u,.nilIface]) (by simp [results,Tryz.results95,go_sem]) rfl ⟨rfl,k12⟩
def At1 (w:World) (x s y:IV):Prop :=
 (∃ (a n c i:Nat) (xs:List IV),x=(86,.slice (some ⟨a,0,none⟩) n c)∧s=(98,.int .i64 i)∧i < n∧n≤10000∧w.ownsRow 0 32 1 (.slice (some ⟨a,0,none⟩) n c) n (xs.map iv)∧xs[i]? = some y)∨
 (∃ (a n c q:Nat) (k:ByteArray) (tx:Bys) (L:List El),x=(102,.slice (some ⟨a,0,none⟩) n c)∧s=(100,.string k)∧n≤10000∧RiseE L∧w.ownsRow 0 107 2 (.slice (some ⟨a,0,none⟩) n c) L.length (L.flatMap elC)∧L[q]? = some (k,y,tx))
theorem At1.keep {w w':World} (h:KeptV w w') {x s y:IV} (o:At1 w x s y):At1 w' x s y:=by
 rcases o with ⟨a,n,c,i,xs,e1,e2,e3,e4,e5,e6⟩ | ⟨a,n,c,q,k,tx,L,e1,e2,e3,e4,e5,e6⟩
 ·exact .inl ⟨a,n,c,i,xs,e1,e2,e3,e4,h.rowV e5,e6⟩
 ·exact .inr ⟨a,n,c,q,k,tx,L,e1,e2,e3,e4,h.rowM e5,e6⟩
theorem At_ok1 (hC:ComparesStr) {w:World}{x s y:IV} (h:At1 w x s y):Calls Tryz.prog 95 #[iv x,iv s] w fun e w'=>e = .returned (.tuple #[iv y,.nilIface])∧Below w.heap.size w w':=by
 obtain ⟨T,u⟩:=y
 rcases h with ⟨a,n,c,i,xs,rfl,rfl,e3,e4,e5,e6⟩ | ⟨a,n,c,q,k,tx,L,rfl,rfl,e3,e4,e5,e6⟩
 ·refine At_arr e3 (by omega) ?_
  rw [e5.cellAt i (by omega),List.getElem?_map,e6]
  rfl
 ·obtain ⟨hn,hM,_⟩:=owns_mem e5
  exact At_obj hC hM hn.symm (by omega) e4 e6
def AtP (w:World):IV→List IV→IV→Prop
 | x,[],y=>x=y
 | x,s :: ss,y=>∃ z,At1 w x s z∧AtP w z ss y
theorem AtP.keep {w w':World} (h:KeptV w w'):∀ {ss:List IV}{x y:IV},AtP w x ss y→AtP w' x ss y
 | [],_,_,o=>o
 | s :: ss,x,y,⟨z,h1,h2⟩=>⟨z,h1.keep h,AtP.keep h h2⟩
end Go.Proofs.Tryz
namespace Go.Proofs.Tryz
set_option maxHeartbeats 16000000
open Go.RowKit
set_option maxRecDepth 10000
theorem Sl.shape {w:World}{v:Value}{xs:List IV} (h:Sl w v xs):∃ p c,v = .slice p xs.length c:=by
 obtain ⟨p,c,e,_⟩:=h
 exact ⟨p,c,e⟩
theorem Sl.at {w:World}{p:Option Addr}{n c i:Nat}{xs:List IV}{x:IV} (h:Sl w (.slice p n c) xs) (hi:xs[i]? = some x):∃ a o,p=some ⟨a,o,none⟩∧a < w.heap.size∧w.cell? ⟨a,o+i,none⟩=some (iv x):=by
 obtain ⟨p',c',e,_,_,h0 | ⟨a,o,cs,e1,e2,e3⟩⟩:=h
 ·rw [h0] at hi;simp at hi
 ·cases e
  exact ⟨a,o,e1,lt_of_block e2,cells_cell e2 (e3 i x hi)⟩
theorem Get_ok (hC:ComparesStr) {w:World}{x y:IV}{p:Option Addr}{n c:Nat}{ss:List IV} (h:AtP w x ss y) (hp:Sl w (.slice p n c) ss) (hn:ss.length=n) (hl:n≤100000) :
  Calls Tryz.prog 224 #[iv x,.slice p n c] w fun e w'=>e = .returned (.tuple #[iv y,.nilIface])∧Below w.heap.size w w':=by
 obtain ⟨T,u⟩:=x
 obtain ⟨Ty,uy⟩:=y
 have HN:Hid (ss.length=n):=hn
 have HP:Aside (Sl w (.slice p n c) ss):=hp
 have H:Aside (AtP w (T,u) ss (Ty,uy)):=h
 clear hn hp h
 simp only [iv]
 go_enter Tryz.func224,Tryz.ntmps224
 go_wp2_with fail
 go_loopg [0,12] n (fun k v0 v12 wr=>∃ (i T:Nat) (u:Value),i+k=n∧v12 = .int .i64 i∧v0 = .iface T u∧Below w.heap.size w wr∧Aside (AtP wr (T,u) (ss.drop i) (Ty,uy)))
 case atStart=>exact ⟨0,T,u,by omega,rfl,rfl,Below.refl _ _,H⟩
 case round =>
  obtain ⟨i,T,u,hi,rfl,rfl,hb,HA⟩:=hrel
  match gk,hi with
  | 0,hi =>
   have hz:¬ (i:Int) < (n:Int):=by omega
   have e0:(T,u)=(Ty,uy):=by
    have:=HA.out
    rw [List.drop_of_length_le (by rw [HN.out];omega)] at this
    exact this
   cases e0
   go_wp2_with fail
   exact bodyPost_ret (v:=.tuple #[.iface Ty uy,.nilIface]) (by simp [results,Tryz.results224,go_sem]) rfl ⟨rfl,hb⟩
  | k+1,hi =>
   have hz:(i:Int) < (n:Int):=by omega
   have hlt:i < ss.length:=by rw [HN.out];omega
   obtain ⟨⟨Ts,us⟩,hs⟩:∃ s,ss[i]? = some s:=⟨_,List.getElem?_eq_getElem hlt⟩
   obtain ⟨a,o,rfl,hla,hc⟩:=HP.out.at hs
   simp only [iv] at hc
   have f0:=(hb.cell (p:=⟨a,o+i,none⟩) hla).trans hc
   have hA:=HA.out
   rw [List.drop_eq_getElem_cons hlt,(List.getElem?_eq_some_iff.1 hs).2] at hA
   obtain ⟨⟨Tz,uz⟩,h1,h2⟩:=hA
   have HAT:Aside (Calls Tryz.prog 95 #[.iface T u,.iface Ts us] wr fun e w'=>e = .returned (.tuple #[.iface Tz uz,.nilIface])∧Below wr.heap.size wr w'):=At_ok1 hC h1
   have H2:Aside (AtP wr (Tz,uz) (ss.drop (i+1)) (Ty,uy)):=h2
   clear h1 h2 hs hc
   go_wp2_with (go_at_call 95;refine Calls.mono HAT.out ?_;rintro e w1 ⟨rfl,k1⟩)
   go_roundg k
   case measure=>omega
   case rel=>exact ⟨i+1,Tz,uz,by omega,by simp,rfl,hb.trans (k1.mono hb.size),H2.out.keep (KeptV.of_below k1)⟩
end Go.Proofs.Tryz
namespace Go.Proofs.Tryz
set_option maxHeartbeats 16000000
open Go.RowKit
set_option maxRecDepth 10000
def setFrom:List Value→Nat→List Value→List Value
 | xs,_,[]=>xs
 | xs,o,v :: r=>setFrom (xs.set o v) (o+1) r
theorem setFrom_eq:∀ (vs xs:List Value) (o:Nat),o+vs.length≤xs.length→setFrom xs o vs=xs.take o ++ vs ++ xs.drop (o+vs.length)
 | [],xs,o,_=>by simp [setFrom]
 | v :: r,xs,o,h=>by
  rw [List.length_cons] at h
  rw [setFrom,setFrom_eq r _ _ (by rw [List.length_set];omega)]
  rw [List.take_set,List.take_succ_eq_append_getElem (by omega),List.set_append_right _ _ (by rw [List.length_take];omega),List.length_take,Nat.min_eq_left (by omega),Nat.sub_self,List.drop_set_of_lt (by omega),List.length_cons,show o+1+r.length=o+(r.length+1) by omega]
  simp
theorem setCells_row {B e g n c:Nat}:∀ (vs:List Value) (o:Nat) (w:World) (xs:List Value),w.ownsRow B e 1 (.slice (some ⟨g,0,none⟩) n c) n xs→(w.setCells g o vs).ownsRow B e 1 (.slice (some ⟨g,0,none⟩) n c) n (setFrom xs o vs)
 | [],_,_,_,h=>h
 | v :: r,o,w,xs,h=>setCells_row r (o+1) _ _ (h.stored o v).1
theorem awith_ok {w:World}{a n c i T:Nat}{u:Value}{xs:List IV} (hrow:w.ownsRow 0 32 1 (.slice (some ⟨a,0,none⟩) n c) n (xs.map iv)) (hi:i < n) (hn:n≤10000) :
  Calls Tryz.prog 252 #[.slice (some ⟨a,0,none⟩) n c,.iface 98 (.int .i64 i),.iface T u] w fun e w'=>∃ g,e = .returned (.slice (some ⟨g,0,none⟩) n n)∧w.heap.size≤g∧w'.ownsRow w.heap.size 32 1 (.slice (some ⟨g,0,none⟩) n n) n ((xs.set i (T,u)).map iv)∧Below w.heap.size w w':=by
 obtain ⟨i0,hi0,hz0,hz1,hz2⟩:=info_parts (show (Tryz.prog.info? 32).map (fun i=>(i.zero,i.size,i.bytes))=some (some .nilIface,1,16) by kernel_rfl)
 have hxl:xs.length=n:=by have:=hrow.1;simpa using this
 have z1:(i:Int)+1≤(n:Int):=by omega
 have z2:max (n:Int) ((i:Int)+1)=(n:Int):=by omega
 have HROW:Aside (w.ownsRow 0 32 1 (.slice (some ⟨a,0,none⟩) n c) n (xs.map iv)):=hrow
 have hal:a < w.heap.size:=(hrow.lt a rfl).2
 have hcpy:∀ w1 w2,Below w.heap.size w w1→w2.ownsRow w.heap.size 32 1 (.slice (some ⟨w1.heap.size,0,none⟩) n n) n (madeCells (Value.cells .nilIface) (n * 1)).toList→w1.grownBy w2 none→∃ w3,Sem.run Tryz.prog (Builtin.copy_ #[86,86] 3 #[.slice (some ⟨w1.heap.size,0,none⟩) n n,.slice (some ⟨a,0,none⟩) n c]) w2 = .ok (.int .i64 n) w3∧w3.ownsRow w.heap.size 32 1 (.slice (some ⟨w1.heap.size,0,none⟩) n n) n (xs.map iv)∧Below w.heap.size w w3∧(∃ y,w3.cell? ⟨w1.heap.size,i,none⟩=some y)∧w3.frozen? ⟨w1.heap.size,i,none⟩=false:=fun w1 w2 k1 ow2 gr2=>by
  have k2:Below w.heap.size w w2:=k1.trans (((Below.refl _ _).grown gr2 (Nat.le_refl _) (fun q hq=>by cases hq)).mono k1.size)
  have hl2:((madeCells (Value.cells .nilIface) (n * 1)).toList).length=n:=by have:=ow2.1;simpa using this
  have hr2:=owns_same hrow (fun b hb=>k2.block b (hrow.lt b hb).2)
  have hvl:(xs.map iv).length=n:=by simpa using hxl
  have hrun:=run_copy_cells (P:=Tryz.prog) w2 86 86 3 32 w1.heap.size 0 n n ⟨a,0,none⟩ n c (xs.map iv) Tryz.underlying86 (by rw [hi0];simp [hz1]) (by rw [hvl];simp) (fun j v hj=>?_) (fun j hj=>?_) (fun j hj=>?_) (fun v hv=>?_)
  ·rw [hvl] at hrun
   have ow3:=setCells_row (xs.map iv) 0 w2 _ ow2
   rw [setFrom_eq _ _ _ (by omega),hvl,Nat.zero_add,List.drop_of_length_le (by omega)] at ow3
   simp only [List.take_zero,List.nil_append,List.append_nil] at ow3
   refine ⟨_,hrun,ow3,Lib.below_setCells _ k1.size _ _ k2,?_,?_⟩
   ·obtain ⟨x,hx⟩:∃ x,(xs.map iv)[i]? = some x:=⟨_,List.getElem?_eq_getElem (by omega)⟩
    exact ⟨x,(ow3.cellAt i (by omega)).trans hx⟩
   ·rcases ow3.2 with ⟨e,_⟩ | ⟨g',cap',cur,e,_,hb,_⟩
    ·cases e
    ·cases e;exact cells_free hb
  ·have hjn:j < n:=by have:=(List.getElem?_eq_some_iff.1 hj).1;omega
   have:=(hr2.cellAt j (by omega)).trans hj
   have e:(⟨a,0,none⟩:Addr).add j=⟨a,j,none⟩:=by
    unfold Addr.add
    split
    ·rename_i h0
     have:j=0:=by simpa using h0
     rw [this]
    ·simp
   rw [e]
   exact this
  ·rw [Nat.zero_add,ow2.cellAt j (by omega),List.getElem?_eq_getElem (by omega)]
   rfl
  ·rcases ow2.2 with ⟨e,_⟩ | ⟨g',cap',cur,e,_,hb,_⟩
   ·cases e
   ·cases e;exact cells_free hb
  ·obtain ⟨x,_,rfl⟩:=List.mem_map.1 hv
   rfl
 have HCP:Aside (∀ w1 w2,Below w.heap.size w w1→w2.ownsRow w.heap.size 32 1 (.slice (some ⟨w1.heap.size,0,none⟩) n n) n (madeCells (Value.cells .nilIface) (n * 1)).toList→w1.grownBy w2 none→∃ w3,Sem.run Tryz.prog (Builtin.copy_ #[86,86] 3 #[.slice (some ⟨w1.heap.size,0,none⟩) n n,.slice (some ⟨a,0,none⟩) n c]) w2 = .ok (.int .i64 n) w3∧w3.ownsRow w.heap.size 32 1 (.slice (some ⟨w1.heap.size,0,none⟩) n n) n (xs.map iv)∧Below w.heap.size w w3∧(∃ y,w3.cell? ⟨w1.heap.size,i,none⟩=some y)∧w3.frozen? ⟨w1.heap.size,i,none⟩=false):=hcpy
 clear hrow hcpy
 go_enter Tryz.func252,Tryz.ntmps252
 go_wp2_with (first
  | (go_at_call 148;refine (afind_ok hi (by omega)).mono ?_;rintro e w1 ⟨rfl,k1⟩)
  | (refine wpList_make_full _ (by rfl) _ _ 86 (by rfl) w.heap.size 32 i0 .nilIface 1 Tryz.underlying86 hi0 hz0 hz1 .i64 .i64 n n n (by rfl) (by rfl) rfl rfl (by rw [hz2];omega) (by unfold maxLen;omega) k1.size ?_;intro w2 ow2 gr2;obtain ⟨w3,hcp,ow3,k3,⟨y0,d0⟩,d1⟩:=HCP.out w1 w2 k1 ow2 gr2))
 refine wp_loop_rounds 1 ?_
 rw [rounds_succ]
 go_wp2_with fail
 go_ret
 refine ⟨w1.heap.size,rfl,k1.size,?_,k3.setCell (p:=⟨w1.heap.size,i,none⟩) k1.size _⟩
 rw [List.map_set]
 exact (ow3.stored i (.iface T u)).1
end Go.Proofs.Tryz
