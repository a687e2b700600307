import Derived.Test.YtndoeeampclfaaaGreatDoorWd4
import Derived.Test.YtndoeeampclfaaaGreatDoorFl5
set_option linter.all false
namespace Go.Proofs.Tryz
set_option maxHeartbeats 16000000
open Go.RowKit
set_option maxRecDepth 10000
theorem leafK_of {x:IV}{c:Bys} (h:leafV x c):leafK x∧1≤c.length:=by
 rcases h with ⟨rfl,rfl⟩ | ⟨b,rfl,rfl⟩ | ⟨n,h0,h1,rfl,rfl⟩ | ⟨t,_,rfl,rfl⟩
 ·exact ⟨.inl rfl,by simp⟩
 ·exact ⟨.inr (.inl ⟨b,rfl⟩),by cases b <;> simp [boolT]⟩
 ·obtain ⟨b,r,e,_⟩:=leaf_first (.inr (.inr (.inr ⟨n,h0,h1,rfl⟩)))
  exact ⟨.inr (.inr (.inl ⟨n,h0,h1,rfl⟩)),by rw [e];simp⟩
 ·exact ⟨.inr (.inr (.inr ⟨t,rfl⟩)),by simp [quoteL]⟩
theorem lens_ge (ts:List Bys):(ts.map List.length).sum≤lens ts:=by
 induction ts with
 | nil=>simp [lens]
 | cons t ts ih=>simp [lens] at ih ⊢;omega
theorem arr_ge (ts:List Bys):1+(ts.map List.length).sum≤(arrT ts).length:=by
 cases ts with
 | nil=>simp [arrT,joinT]
 | cons t r =>
  have h1:=join_len t r
  have h2:=lens_ge (t :: r)
  simp only [arrT,List.length_cons,List.length_append,List.length_nil]
  omega
theorem eqv_self {w:World}{P:Nat→Prop}:∀ {d:Nat}{x:IV}{c:Bys},RepV w P d x c→Eqv w d c.length x x
 | 0,x,c,h=>⟨(leafK_of h).2,rfl,(leafK_of h).1⟩
 | d+1,x,c,h=>by
  rcases h with h | ⟨r,its,rfl,ow,_,hi,rfl⟩ | ⟨r,ms,rfl,ow,_,hi,rfl,_⟩
  ·exact .inl ⟨(leafK_of h).2,rfl,(leafK_of h).1⟩
  ·refine .inr (.inl ⟨r,r,its.map (fun x=>(x.1,x.1,x.2.length)),rfl,rfl,?_,?_,fun t ht=>?_,?_⟩)
   ·rw [List.length_map,List.map_map];exact ow
   ·rw [List.length_map,List.map_map];exact ow
   ·obtain ⟨s,hs,rfl⟩:=List.mem_map.1 ht
    exact eqv_self (hi s hs)
   ·have:=arr_ge (its.map (·.2))
    rw [List.map_map] at this ⊢
    exact this
  ·refine .inr (.inr ⟨r,r,ms.map (fun x=>(x.1,x.2.1,x.2.1,x.2.2.length)),rfl,rfl,?_,?_,fun t ht=>?_,?_⟩)
   ·have:∀ l:List El,((l.map (fun x:El=>((x.1,x.2.1,x.2.1,x.2.2.length):Tw))).map twL).flatMap elC=l.flatMap elC:=fun l=>by
     induction l with
     | nil=>rfl
     | cons x l ih=>simp only [List.map_cons,List.flatMap_cons,ih];rfl
    rw [this,List.length_map,List.length_map];exact ow
   ·have:∀ l:List El,((l.map (fun x:El=>((x.1,x.2.1,x.2.1,x.2.2.length):Tw))).map twR).flatMap elC=l.flatMap elC:=fun l=>by
     induction l with
     | nil=>rfl
     | cons x l ih=>simp only [List.map_cons,List.flatMap_cons,ih];rfl
    rw [this,List.length_map,List.length_map];exact ow
   ·obtain ⟨s,hs,rfl⟩:=List.mem_map.1 ht
    exact eqv_self (hi s hs)
   ·have h1:1+(((ms.map fun x=>(elKey x,x.2.2)).map memT).map List.length).sum≤(objT (ms.map fun x=>(elKey x,x.2.2))).length:=by
     cases hm:ms.map (fun x=>(elKey x,x.2.2)) with
     | nil=>simp [objT,joinT]
     | cons m r =>
      have h1:=join_len (memT m) (r.map memT)
      have h2:=lens_ge ((m :: r).map memT)
      simp only [objT,List.map_cons,List.length_cons,List.length_append,List.length_nil] at h1 h2 ⊢
      omega
    have h2:∀ l:List El,((l.map (fun x:El=>((x.1,x.2.1,x.2.1,x.2.2.length):Tw))).map (·.2.2.2)).sum≤(((l.map fun x=>(elKey x,x.2.2)).map memT).map List.length).sum:=fun l=>by
     induction l with
     | nil=>simp
     | cons x l ih =>
      simp only [List.map_cons,List.sum_cons]
      have:x.2.2.length≤(memT (elKey x,x.2.2)).length:=by simp [memT];omega
      omega
    exact Nat.le_trans (Nat.add_le_add_left (h2 ms) 1) h1
end Go.Proofs.Tryz
namespace Go.Proofs.Tryz
set_option maxHeartbeats 16000000
open Go.RowKit
set_option maxRecDepth 10000
def numS (i:Nat):IV:=(98,.int .i64 i)
def strS (k:ByteArray):IV:=(100,.string k)
def enumA:Nat→List IV→List (IV×IV)
 | _,[]=>[]
 | i,x :: xs=>(numS i,x) :: enumA (i+1) xs
theorem enumA_at:∀ (i:Nat) (xs:List IV) (j:Nat) {s y:IV},(enumA i xs)[j]? = some (s,y)→s=numS (i+j)∧xs[j]? = some y
 | _,[],_,_,_,h=>by simp [enumA] at h
 | i,x :: xs,0,s,y,h=>by
  simp only [enumA,List.getElem?_cons_zero,Option.some.injEq,Prod.mk.injEq] at h
  obtain ⟨rfl,rfl⟩:=h
  exact ⟨rfl,rfl⟩
 | i,x :: xs,j+1,s,y,h=>by
  simp only [enumA,List.getElem?_cons_succ] at h
  obtain ⟨h1,h2⟩:=enumA_at (i+1) xs j h
  exact ⟨by rw [h1];congr 1;omega,by simpa using h2⟩
def KidsR (V:Nat→Prop) (w:World) (x:IV) (ks:List (IV×IV)):Prop :=
 (leafK x∧ks=[])∨
 (∃ (r:Value) (xs:List IV),x=(86,r)∧w.ownsRow 0 32 1 r xs.length (xs.map iv)∧xs.length≤10000∧(∀ g,r.ownBlock=some g→V g)∧ks=enumA 0 xs)∨
 (∃ (r:Value) (L:List El),x=(102,r)∧w.ownsRow 0 107 2 r L.length (L.flatMap elC)∧RiseE L∧L.length≤10000∧(∀ g,r.ownBlock=some g→V g)∧ks=L.map fun e=>(strS e.1,e.2.1))
theorem KidsR.move {V:Nat→Prop}{w w':World}{x:IV}{ks:List (IV×IV)} (h:KidsR V w x ks) (hs:SameOn V w w'):KidsR V w' x ks:=by
 rcases h with h | ⟨r,xs,e1,o,e2,hV,e3⟩ | ⟨r,L,e1,o,e2,e3,hV,e4⟩
 ·exact .inl h
 ·exact .inr (.inl ⟨r,xs,e1,owns_same o (fun q hq=>hs q (hV q hq)),e2,hV,e3⟩)
 ·exact .inr (.inr ⟨r,L,e1,owns_same o (fun q hq=>hs q (hV q hq)),e2,e3,hV,e4⟩)
abbrev Node:=IV×List IV
def TourL (R:Node→List Node→Prop) (rs:List IV):List (IV×IV)→List (List Node)→Prop
 | [],[]=>True
 | k :: ks,L :: Ls=>R (k.2,k.1 :: rs) L∧TourL R rs ks Ls
 | [],_ :: _=>False
 | _ :: _,[]=>False
def Tour (V:Nat→Prop) (w:World):Nat→Node→List Node→Prop
 | 0,n,L=>leafK n.1∧L=[n]
 | d+1,n,L=>∃ ks,KidsR V w n.1 ks∧∃ Ls,TourL (Tour V w d) n.2 ks Ls∧L=n :: Ls.flatten
theorem TourL.to {R R':Node→List Node→Prop}{rs:List IV} (h:∀ n L,R n L→R' n L):∀ {ks:List (IV×IV)}{Ls:List (List Node)},TourL R rs ks Ls→TourL R' rs ks Ls
 | [],[],_=>trivial
 | _ :: _,_ :: _,o=>⟨h _ _ o.1,TourL.to h o.2⟩
 | [],_ :: _,o=>o.elim
 | _ :: _,[],o=>o.elim
theorem Tour.move {V:Nat→Prop}{w w':World} (hs:SameOn V w w'):∀ {d:Nat}{n:Node}{L:List Node},Tour V w d n L→Tour V w' d n L
 | 0,_,_,h=>h
 | d+1,n,L,⟨ks,hk,Ls,hL,e⟩=>⟨ks,hk.move hs,Ls,hL.to (fun _ _ h=>Tour.move hs h),e⟩
def Tours (V:Nat→Prop) (w:World) (es:List (Node×List Node)):Prop:=∀ e∈es,∃ d,Tour V w d e.1 e.2
theorem Tours.move {V:Nat→Prop}{w w':World} (hs:SameOn V w w') {es:List (Node×List Node)} (h:Tours V w es):Tours V w' es:=fun e he=>by
 obtain ⟨d,h⟩:=h e he
 exact ⟨d,h.move hs⟩
theorem tourL_open {V:Nat→Prop}{w:World}{d:Nat}{rs:List IV}:∀ {ks:List (IV×IV)}{Ls:List (List Node)},TourL (Tour V w d) rs ks Ls→∃ es:List (Node×List Node),es.map (·.1)=ks.map (fun k=>(k.2,k.1 :: rs))∧Ls.flatten=es.flatMap (·.2)∧Tours V w es
 | [],[],_=>⟨[],rfl,rfl,fun _ h=>by simp at h⟩
 | k :: ks,L :: Ls,o=>by
  obtain ⟨es,h1,h2,h3⟩:=tourL_open o.2
  refine ⟨((k.2,k.1 :: rs),L) :: es,by simp [h1],by simp [h2],fun e he=>?_⟩
  rcases List.mem_cons.1 he with rfl | he
  ·exact ⟨d,o.1⟩
  ·exact h3 e he
 | [],_ :: _,o=>o.elim
 | _ :: _,[],o=>o.elim
theorem tour_open {V:Nat→Prop}{w:World}{d:Nat}{n:Node}{L:List Node} (h:Tour V w d n L):∃ ks es,KidsR V w n.1 ks∧es.map (·.1)=ks.map (fun k=>(k.2,k.1 :: n.2))∧L=n :: es.flatMap (·.2)∧Tours V w es:=by
 cases d with
 | zero=>exact ⟨[],[],.inl ⟨h.1,rfl⟩,rfl,by simpa using h.2,fun _ h=>by simp at h⟩
 | succ d =>
  obtain ⟨ks,hk,Ls,hL,e⟩:=h
  obtain ⟨es,h1,h2,h3⟩:=tourL_open hL
  exact ⟨ks,es,hk,h1,by rw [e,h2],h3⟩
def Within (w:World) (P:Nat→Prop) (x:IV) (m:Nat) (rs:List IV) (n:Node):Prop:=∃ ss,n.2=ss.reverse ++ rs∧AtP w x ss n.1∧ss.length≤m∧∃ d' c',RepV w P d' n.1 c'∧c'.length≤m
theorem tourL_of {w:World}{P:Nat→Prop}{d:Nat} (ih:∀ {x:IV}{c:Bys} (rs:List IV),RepV w P d x c→c.length≤10000→∃ L,Tour P w d (x,rs) L∧L.length≤c.length∧∀ n∈L,Within w P x c.length rs n) (rs:List IV):∀ (kids:List (IV×IV×Bys)),(∀ k∈kids,RepV w P d k.2.1 k.2.2∧k.2.2.length≤10000)→
  ∃ Ls,TourL (Tour P w d) rs (kids.map fun k=>(k.1,k.2.1)) Ls∧Ls.flatten.length≤(kids.map (·.2.2.length)).sum∧∀ n∈Ls.flatten,∃ k∈kids,Within w P k.2.1 k.2.2.length (k.1 :: rs) n
 | [],_=>⟨[],trivial,by simp,fun n h=>by simp at h⟩
 | k :: kids,h=>by
  obtain ⟨Ls,h1,h2,h3⟩:=tourL_of ih rs kids (fun x hx=>h x (.tail _ hx))
  obtain ⟨L,g1,g2,g3⟩:=ih (k.1 :: rs) (h k (.head _)).1 (h k (.head _)).2
  refine ⟨L :: Ls,⟨g1,h1⟩,?_,fun n hn=>?_⟩
  ·simp only [List.flatten_cons,List.length_append,List.map_cons,List.sum_cons]
   omega
  ·simp only [List.flatten_cons,List.mem_append] at hn
   rcases hn with hn | hn
   ·exact ⟨k,.head _,g3 n hn⟩
   ·obtain ⟨k',hk',hw⟩:=h3 n hn
    exact ⟨k',.tail _ hk',hw⟩
theorem within_up {w:World}{P:Nat→Prop}{x s y:IV}{m m':Nat}{rs:List IV}{n:Node} (h:Within w P y m (s :: rs) n) (ha:At1 w x s y) (hm:m+1≤m'):Within w P x m' rs n:=by
 obtain ⟨ss,h1,h2,h3,d',c',h4,h5⟩:=h
 exact ⟨s :: ss,by rw [h1];simp,⟨y,ha,h2⟩,by simp;omega,d',c',h4,by omega⟩
theorem sum_ge_mem {α:Type} (f:α→Nat):∀ {l:List α}{x:α},x∈l→f x≤(l.map f).sum
 | y :: l,x,h=>by
  rcases List.mem_cons.1 h with rfl | h
  ·simp
  ·have:=sum_ge_mem f h
   simp
   omega
theorem sum_ge_len {α:Type} (f:α→Nat):∀ {l:List α},(∀ x∈l,1≤f x)→l.length≤(l.map f).sum
 | [],_=>by simp
 | y :: l,h=>by
  have:=sum_ge_len f (fun x hx=>h x (.tail _ hx))
  have:=h y (.head _)
  simp
  omega
def enumT:Nat→List (IV×Bys)→List (IV×IV×Bys)
 | _,[]=>[]
 | i,x :: xs=>(numS i,x.1,x.2) :: enumT (i+1) xs
theorem enumT_map:∀ (i:Nat) (its:List (IV×Bys)),(enumT i its).map (fun k=>(k.1,k.2.1))=enumA i (its.map (·.1))
 | _,[]=>rfl
 | i,x :: xs=>by simp [enumT,enumA,enumT_map (i+1) xs]
theorem enumT_sum:∀ (i:Nat) (its:List (IV×Bys)),((enumT i its).map (·.2.2.length)).sum=(its.map (·.2.length)).sum
 | _,[]=>rfl
 | i,x :: xs=>by simp [enumT,enumT_sum (i+1) xs]
theorem enumT_mem:∀ (i:Nat) (its:List (IV×Bys)) {k:IV×IV×Bys},k∈enumT i its→∃ j,k.1=numS (i+j)∧its[j]? = some k.2
 | _,[],_,h=>by simp [enumT] at h
 | i,x :: xs,k,h=>by
  rcases List.mem_cons.1 h with rfl | h
  ·exact ⟨0,rfl,rfl⟩
  ·obtain ⟨j,h1,h2⟩:=enumT_mem (i+1) xs h
   exact ⟨j+1,by rw [h1];congr 1;omega,by simpa using h2⟩
theorem obj_ge (ms:List El):1+(ms.map (·.2.2.length)).sum≤(objT (ms.map fun x=>(elKey x,x.2.2))).length:=by
 have h1:1+(((ms.map fun x=>(elKey x,x.2.2)).map memT).map List.length).sum≤(objT (ms.map fun x=>(elKey x,x.2.2))).length:=by
  cases hm:ms.map (fun x=>(elKey x,x.2.2)) with
  | nil=>simp [objT,joinT]
  | cons m r =>
   have h1:=join_len (memT m) (r.map memT)
   have h2:=lens_ge ((m :: r).map memT)
   simp only [objT,List.map_cons,List.length_cons,List.length_append,List.length_nil] at h1 h2 ⊢
   omega
 have h2:∀ l:List El,(l.map (·.2.2.length)).sum≤(((l.map fun x=>(elKey x,x.2.2)).map memT).map List.length).sum:=fun l=>by
  induction l with
  | nil=>simp
  | cons x l ih =>
   simp only [List.map_cons,List.sum_cons]
   have:x.2.2.length≤(memT (elKey x,x.2.2)).length:=by simp [memT];omega
   omega
 exact Nat.le_trans (Nat.add_le_add_left (h2 ms) 1) h1
theorem repV_pos {w:World}{P:Nat→Prop}:∀ {d:Nat}{x:IV}{c:Bys},RepV w P d x c→1≤c.length
 | 0,_,_,h=>(leafK_of h).2
 | d+1,_,_,h=>by
  rcases h with h | ⟨r,its,rfl,ow,_,hi,rfl⟩ | ⟨r,ms,rfl,ow,_,hi,rfl,_⟩
  ·exact (leafK_of h).2
  ·have:=arr_ge (its.map (·.2));omega
  ·have:=obj_ge ms;omega
theorem tour_of {w:World}{P:Nat→Prop}:∀ {d:Nat}{x:IV}{c:Bys} (rs:List IV),RepV w P d x c→c.length≤10000→∃ L,Tour P w d (x,rs) L∧L.length≤c.length∧∀ n∈L,Within w P x c.length rs n
 | 0,x,c,rs,h,_=>by
  obtain ⟨h1,h2⟩:=leafK_of h
  refine ⟨[(x,rs)],⟨h1,rfl⟩,by simpa using h2,fun n hn=>?_⟩
  rw [List.mem_singleton] at hn
  subst hn
  exact ⟨[],rfl,rfl,by simp,0,c,h,Nat.le_refl _⟩
 | d+1,x,c,rs,h,hc=>by
  have self:Within w P x c.length rs (x,rs):=⟨[],rfl,rfl,by simp,d+1,c,h,Nat.le_refl _⟩
  rcases h with h | ⟨r,its,rfl,ow,hP,hi,rfl⟩ | ⟨r,ms,rfl,ow,hP,hi,rfl,hr⟩
  ·obtain ⟨h1,h2⟩:=leafK_of h
   refine ⟨[(x,rs)],⟨[],.inl ⟨h1,rfl⟩,[],trivial,rfl⟩,by simpa using h2,fun n hn=>?_⟩
   rw [List.mem_singleton] at hn
   subst hn
   exact self
  ·have hge:=arr_ge (its.map (·.2))
   rw [List.map_map] at hge
   have hge':1+(its.map (·.2.length)).sum≤(arrT (its.map (·.2))).length:=hge
   have hlen:its.length≤(its.map (·.2.length)).sum:=sum_ge_len (fun t:IV×Bys=>t.2.length) (fun t ht=>repV_pos (hi t ht))
   have ow':w.ownsRow 0 32 1 r (its.map (·.1)).length ((its.map (·.1)).map iv):=by
    rw [List.length_map,List.map_map];exact ow
   obtain ⟨Ls,h1,h2,h3⟩:=tourL_of (fun rs h hc=>tour_of rs h hc) rs (enumT 0 its) (fun k hk=>by
    obtain ⟨j,_,hj⟩:=enumT_mem 0 its hk
    have hm:=List.mem_of_getElem? hj
    have:=sum_ge_mem (fun t:IV×Bys=>t.2.length) hm
    exact ⟨hi _ hm,by omega⟩)
   rw [enumT_map] at h1
   rw [enumT_sum] at h2
   refine ⟨_,⟨_,.inr (.inl ⟨r,its.map (·.1),rfl,ow',by simp;omega,hP,rfl⟩),Ls,h1,rfl⟩,by rw [List.length_cons];omega,fun n hn=>?_⟩
   rcases List.mem_cons.1 hn with rfl | hn
   ·exact self
   ·obtain ⟨k,hk,hw⟩:=h3 n hn
    obtain ⟨j,hj1,hj⟩:=enumT_mem 0 its hk
    have hm:=List.mem_of_getElem? hj
    have:=sum_ge_mem (fun t:IV×Bys=>t.2.length) hm
    have hjl:=(List.getElem?_eq_some_iff.1 hj).1
    refine within_up hw ?_ (by omega)
    rcases ow'.2 with ⟨rfl,h0⟩ | ⟨g,cap,cur,rfl,_⟩
    ·simp at h0;subst h0;simp at hj
    ·simp only [List.length_map] at ow' ⊢
     refine .inl ⟨g,its.length,cap,j,its.map (·.1),rfl,by rw [hj1];simp [numS],hjl,by omega,ow',by simp [hj]⟩
  ·have hge:=obj_ge ms
   have hlen:ms.length≤(ms.map (·.2.2.length)).sum:=sum_ge_len (fun t:El=>t.2.2.length) (fun t ht=>repV_pos (hi t ht))
   obtain ⟨Ls,h1,h2,h3⟩:=tourL_of (fun rs h hc=>tour_of rs h hc) rs (ms.map fun e=>(strS e.1,e.2.1,e.2.2)) (fun k hk=>by
    obtain ⟨e,he,rfl⟩:=List.mem_map.1 hk
    have:=sum_ge_mem (fun t:El=>t.2.2.length) he
    exact ⟨hi _ he,by show e.2.2.length≤10000;omega⟩)
   rw [List.map_map] at h1 h2
   have h2':Ls.flatten.length≤(ms.map (·.2.2.length)).sum:=h2
   refine ⟨_,⟨_,.inr (.inr ⟨r,ms,rfl,ow,hr,by omega,hP,rfl⟩),Ls,h1,rfl⟩,by rw [List.length_cons];omega,fun n hn=>?_⟩
   rcases List.mem_cons.1 hn with rfl | hn
   ·exact self
   ·obtain ⟨k,hk,hw⟩:=h3 n hn
    obtain ⟨e,he,rfl⟩:=List.mem_map.1 hk
    have:=sum_ge_mem (fun t:El=>t.2.2.length) he
    obtain ⟨j,hj⟩:=List.getElem?_of_mem he
    refine within_up hw ?_ (by show e.2.2.length+1≤_;omega)
    rcases ow.2 with ⟨rfl,h0⟩ | ⟨g,cap,cur,rfl,_⟩
    ·have:ms=[]:=List.eq_nil_of_length_eq_zero h0
     subst this;simp at hj
    ·exact .inr ⟨g,ms.length,cap,j,e.1,e.2.2,ms,rfl,rfl,by omega,hr,ow,hj⟩
end Go.Proofs.Tryz
