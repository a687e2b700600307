import Derived.Test.YtndoeeampclfaaaGreatDoorWp5
import Derived.Test.YtndoeeampclfaaaGreatDoorWq3
set_option linter.all false
namespace Go.Proofs.Tryz
set_option maxHeartbeats 16000000
open Go.RowKit
set_option maxRecDepth 100000
def TopF (w:World) (t:Tr) (c:Bys) (P:SP):Prop:=∀ (w0:World) (v:Value) (x:IV),Below w.heap.size w w0→Vl w0 (· < w0.heap.size) x c→Rep (· < w0.heap.size) w0 v t→∃ L,OpenTop w0.heap.size w0 v x (P :: L)
theorem run_firstg {w:World} (h:Asks w) {f s:ByteArray}{t:Tr}{c:Bys}{p:Nat}{P:SP}{out:ByteArray} (hf:readAs f=some t) (hfs:f.size≤2000) (hm:s.size≤10000000) (hr:readL s=(some c,p)) (hO:TopF w t c P) (hc:TextIs w P out) :
  Calls Tryz.prog 6 #[.string f,.string s,.int .i64 1,.int .i64 50] w fun e w'=>Below w.heap.size w w'∧∃ g cap,e = .returned (resV 1 (.slice (some ⟨g,0,none⟩) 1 cap) ⟨#[]⟩)∧w'.cell? ⟨g,0,none⟩=some (.string out):=by
 obtain ⟨i0,hi0,hz0,hz1,hz2⟩:=info_parts (show (Tryz.prog.info? 9).map (fun i=>(i.zero,i.size,i.bytes))=some (some (.string ⟨#[]⟩),1,16) by kernel_rfl)
 have hrd:∀ w1,Below w.heap.size w w1→Calls Tryz.prog 7 #[.string s] w1 fun e w'=>(∃ T u,e = .returned (.tuple #[.iface T u,.int .i64 0,.bool true])∧Vl w' (· < w'.heap.size) (T,u) c)∧Below w1.heap.size w1 w':=fun w1 k=>read_some (h.below k) hm hr
 have hI:=h.int
 have hS:=h.signs
 have hsg:=hS.2
 have HRD:Aside _:=hrd
 have HO:Aside (TopF w t c P):=hO
 have HC:Aside (TextIs w P out):=hc
 have HF:Hid (readAs f=some t):=hf
 clear hrd hO hc h hr hm hf
 go_enter Tryz.func6,Tryz.ntmps6
 go_wp2_with (first
  | (go_at_call 9;refine (readAs_ok hI HF.out _ hfs (hS.below (below_alloc _ _))).mono ?_;rintro e w1 ⟨T1,bb,rfl,k1,r1⟩;have kA:Below w.heap.size w w1:=(below_alloc _ _).trans (k1.mono (by simp)))
  | (go_at_call 7;refine (HRD.out w1 kA).mono ?_;rintro e w2 ⟨⟨T,u,rfl,hv⟩,k2⟩;have kB:Below w.heap.size w w2:=kA.trans (k2.mono kA.size);have r2:Rep (· < w2.heap.size) w2 _ t:=(r1.upon k2).to (fun _ _ _ _ hv=>⟨cell_lt hv,hv⟩);obtain ⟨L,hT0⟩:=HO.out w2 _ (T,u) kB hv r2;have HT:Aside (OpenTop w2.heap.size w2 _ (T,u) (P :: L)):=hT0;clear hv hT0)
  | (go_at_call 10;refine (Start_g hI HT.out (hS.below kB) (Nat.lt_of_lt_of_le hsg kB.size) (SameOn.refl _ _) (Nat.le_refl _)).mono ?_;rintro e w3 ⟨k3,sb,fv,F,D,rfl,hsb,hsk,hF,hD,hnF,hsbl⟩))
 have kC:Below w.heap.size w w3:=kB.trans (k3.mono kB.size)
 have nD:¬ D sb:=fun e=>hnF (hsk.sub _ e)
 have hDw:∀ k,D k→w.heap.size≤k:=fun k hk=>Nat.le_trans kB.size (hD k hk)
 have hsl:=lt_of_block hsb
 have hw1:w.heap.size < w1.heap.size:=by have:=k1.size;simp at this;omega
 have hw2:w.heap.size < w2.heap.size:=by have:=k2.size;omega
 have hR3:=(k3.block w.heap.size hw2).trans ((k2.block w.heap.size hw1).trans ((k1.block w.heap.size (by simp)).trans (heap_new w _)))
 have hN:=next_someg hsb hsk nD (out:=out) (fun w' s G fr hP=>HC.out w' s G (fr.belowN hDw kC kC.size) hP)
 have HN:Aside _:=hN
 clear hN
 refine wp_loop_rounds 2 ?_
 rw [rounds_succ]
 go_wp2_with (first
  | (go_at_call 11;refine Calls.mono HN.out ?_;rintro e w4 ⟨fr4,rfl,hsb4,F',D',hF',hD',hS4⟩;simp only [ansV];have hs4:=fr4.size)
  | (refine wpList_append_lies _ (by rfl) _ _ _ (by rfl) w.heap.size 9 i0 _ 1 16 Tryz.underlying26 hi0 hz0 hz1 hz2 rfl (by omega) _ 0 [] (by rfl) (World.ownsRow_nil _ _ _ _) ⟨w4.heap.size+1,0,none⟩ 1 1 [.string out] (by rfl) (by rfl) (World.news_of_block (cs:=#[.string out]) (t:=9) (fr:=(0,0)) (heap_new2' w4 _ _)) (by simp [Value.oneCell']) (by omega) (by unfold maxLen;omega) (by omega) (by have:=kC.size;simp;omega) (w4.heap.size+2) (by simp) ?_;intro g5 cap5 w5 ow5 hgr5 hat5 hlt5))
 rw [rounds_succ]
 have b5:Below w4.heap.size w4 w5:=(below_alloc2 w4 _ _).trans ((Below.of_grown hgr5).mono (by simp;omega))
 have hR5:=(b5.block w.heap.size (by have:=k3.size;omega)).trans ((fr4.block w.heap.size (by have:=k3.size;omega) (fun e=>by have:=hD _ e;omega)).trans hR3)
 have hb5:=b5.size
 have hk3s:=k3.size
 have hsb5:StreamBox w5 sb fv:=hsb4.same (b5.block sb (by omega))
 have hS5:StG L F' D' w5 fv:=hS4.move (fun k hk=>b5.block k (hS4.lt k hk)) b5.size
 have nD':¬ D' sb:=fun e=>by
  rcases hD' _ e with h | h
  ·exact nD h
  ·omega
 obtain ⟨⟨m0,m1,m2,m3⟩,⟨p0,p1,p2,p3⟩,ml⟩:=four_facts hR5
 go_wp2_with fail
 obtain rfl:g5=w4.heap.size+2:=by
  rcases hat5 with e | e
  ·simp [Value.ownBlock] at e
  ·exact e
 have kD:Below w.heap.size w w4:=fr4.belowN hDw kC kC.size
 have kE:Below w.heap.size w w5:=kD.trans (b5.mono kD.size)
 have kF:=kE
 have c5:w5.cell? ⟨w4.heap.size+2,0,none⟩=some (.string out):=by
  rcases ow5.2 with ⟨e,_⟩ | ⟨g',cap',cur,e,_,hb,_,_,_,ht⟩
  ·cases e
  ·cases e
   have e0:cur.toList[0]? = some (.string out):=by rw [← List.getElem?_take_of_lt (show 0 < (0+1) * 1 by omega),ht];rfl
   exact cells_cell hb (by simpa using e0)
 have c6:=c5
 refine bodyPost_ret (v:=resV 1 (.slice (some ⟨w4.heap.size+2,0,none⟩) 1 cap5) ⟨#[]⟩) (by simp [results,Tryz.results6,go_sem,m0,m1,m2,m3,ml,resV]) rfl ⟨((((kF.setCell (p:=⟨w.heap.size,0,none⟩) (Nat.le_refl _) _).setCell (p:=⟨w.heap.size,1,none⟩) (Nat.le_refl _) _).setCell (p:=⟨w.heap.size,2,none⟩) (Nat.le_refl _) _).setCell (p:=⟨w.heap.size,3,none⟩) (Nat.le_refl _) _),_,cap5,rfl,?_⟩
 have c6l:=lt_cell c6
 simp only at c6l
 rw [World.cell?_setCell_far _ _ _ _ (by simp;omega),World.cell?_setCell_far _ _ _ _ (by simp;omega),World.cell?_setCell_far _ _ _ _ (by simp;omega),World.cell?_setCell_far _ _ _ _ (by simp;omega)]
 exact c6
end Go.Proofs.Tryz
namespace Go.Proofs.Tryz
set_option maxHeartbeats 16000000
open Go.RowKit
set_option maxRecDepth 100000
theorem top_about {B n:Nat}{w0 w:World}{kn:Option Addr}{x:IV}{L:List Node} (hI:Inp (· < B) w0 x L) (hs:SameOn (· < B) w0 w) (hl:w0.heap.size≤w.heap.size) (hB:B≤w.heap.size) (hg:GivenC (fun k=>n≤k∧k < w.heap.size) w kn) :
  About (fun k=>k < B∨n≤k∧k < w.heap.size) (fun k=>k < B∨n≤k∧k < w.heap.size) (· < B) w kn x L :=
 ⟨fun k hk=>by rcases hk with h | h <;> omega,fun _ h=>h,fun _ h=>.inl h,hI.move hs hl,hg.to (fun _ h _=>.inr h)⟩
theorem top_of {w0:World}{v:Value}{x:IV}{t:Tr}{L:List Node}{Ls:List SP} (hI:Inp (· < w0.heap.size) w0 x L) (hr:Rep (· < w0.heap.size) w0 v t)
  (hE:∀ (p C V:Nat→Prop) (w:World) (kn:Option Addr),About p C V w kn x L→Ev p C w kn 50 t (x,none) Ls):OpenTop w0.heap.size w0 v x Ls:=by
 intro n w kn hs hB hn hg
 have hl:=Nat.le_trans hB hn
 have hA:=top_about hI hs hl hl hg
 exact ((hE _ _ _ _ _ hA).2 v ((hr.same hs).to (fun b o u hb hu=>⟨.inl hb,hu⟩))).2 w (SameOn.refl _ _) (Nat.le_refl _)
theorem topF_of {w:World}{t:Tr}{c:Bys} (hc:c.length≤500) (hE:∀ (p C V:Nat→Prop) (w:World) (kn:Option Addr) (x:IV) (L:List Node),About p C V w kn x L→Ev p C w kn 50 t (x,none) [BoolP true]):TopF w t c (BoolP true):=by
 intro w0 v x _ hv hr
 obtain ⟨d,hv⟩:=hv
 obtain ⟨L,hL⟩:=inp_of hv hc (fun _ h=>h)
 exact ⟨[],top_of hL hr (fun p C V w kn h=>hE p C V w kn x L h)⟩
theorem topF_W6 {w:World}{c:Bys} (hc:c.length≤500):TopF w tW6 c (BoolP true):=by
 intro w0 v x _ hv hr
 obtain ⟨d,hv⟩:=hv
 obtain ⟨L,hL⟩:=inp_of hv hc (fun _ h=>h)
 have hp:=hL.pos
 match L,hp,hL with
 | n :: L,_,hL=>exact ⟨_,top_of hL hr (fun p C V w kn h=>ev_W6 h)⟩
 | [],hp,_=>simp at hp
def sTrue:ByteArray:=⟨#[116,114,117,101]⟩
theorem text_true {w:World} (h:Asks w):TextIs w (BoolP true) sTrue:=by
 intro w' s G k hP
 have e:s=(boolV true,none):=hP.here
 subst e
 exact ⟨rfl,canon_at (c:=[116,114,117,101]) (h.below k) (Vl.leaf (.inr (.inl ⟨true,rfl,rfl⟩))) (by decide) (by simp)⟩
theorem row_lt {w:World}{B e s n:Nat}{v:Value}{xs:List Value} (h:w.ownsRow B e s v n xs):∀ k,v.ownBlock=some k→k < w.heap.size:=fun k hk=>by
 obtain ⟨c,fz,h⟩:=own_kind h k hk
 exact lt_of_block h
theorem path_vl {w:World}{n:Nat}{s:Sp} (h:PathA (List.replicate n (numS 0)) w s):Vl w (· < w.heap.size) s.1 (arrT (List.replicate n [48])):=by
 obtain ⟨h1,v,h2,h3⟩:=h
 rw [h2]
 have e:arrT (List.replicate n [48])=arrT ((List.replicate n (numS 0,[48])).map (·.2)):=by rw [List.map_replicate]
 rw [e]
 refine Vl.arr (N:=0) ?_ (row_lt h3) ?_
 ·rw [List.length_replicate] at h3 ⊢
  rw [List.map_replicate] at h3 ⊢
  exact h3
 ·intro x hx
  rw [(List.mem_replicate.1 hx).2]
  exact Vl.leaf (.inr (.inr (.inl ⟨0,by decide,by decide,rfl,by decide +kernel⟩)))
def sPaths:ByteArray:=⟨#[91,91,93,44,91,48,93,44,91,48,44,48,93,93]⟩
theorem text_paths {w:World} (h:Asks w):TextIs w (ArrOf [PathA [],PathA [numS 0],PathA [numS 0,numS 0]]) sPaths:=by
 intro w' s G k hP
 obtain ⟨h1,v,ss,h2,h3,h4⟩:=hP.here
 refine ⟨h1,?_⟩
 match ss,h3,h4 with
 | [a,b,c],h3,⟨pa,pb,pc,_⟩ =>
  have ha:=path_vl (n:=0) pa
  have hb:=path_vl (n:=1) pb
  have hc:=path_vl (n:=2) pc
  rw [h2]
  have hv:Vl w' (· < w'.heap.size) (86,v) (arrT ([(a.1,arrT []),(b.1,arrT [[48]]),(c.1,arrT [[48],[48]])].map (·.2))):=by
   refine Vl.arr (N:=0) h3 (row_lt h3) ?_
   intro x hx
   simp only [List.mem_cons,List.not_mem_nil,or_false] at hx
   rcases hx with rfl | rfl | rfl
   ·exact ha
   ·exact hb
   ·exact hc
  exact canon_at (c:=[91,91,93,44,91,48,93,44,91,48,44,48,93,93]) (h.below k) hv (by decide) (by simp)
 | [],_,h4=>exact h4.elim
 | [_],_,h4=>exact h4.2.elim
 | [_,_],_,h4=>exact h4.2.2.elim
 | _ :: _ :: _ :: _ :: _,_,h4=>exact h4.2.2.2.elim
def sOne:ByteArray:=⟨#[91,91,49,93,93]⟩
theorem read_one:readL sOne=(some [91,91,49,93,93],5):=by decide +kernel
theorem leaf_head {v:IV}{c:Bys} (h:leafV v c):∀ r,c≠91 :: r:=by
 intro r e
 rcases h with ⟨_,rfl⟩ | ⟨b,_,rfl⟩ | ⟨n,h0,h1,_,rfl⟩ | ⟨t,_,_,rfl⟩
 ·simp at e
 ·cases b <;> simp [boolT] at e
 ·by_cases hneg:n < 0
  ·rw [Lib.itoa,if_pos hneg] at e
   simp at e
  ·rw [Lib.itoa,if_neg hneg] at e
   have:=dec_all n.toNat 91 (by rw [e];simp)
   simp at this
 ·simp [quoteL] at e
theorem arr_one {w:World}{P:Nat→Prop}{d:Nat}{x:IV}{t:Bys} (h:RepV w P d x (91 :: (t ++ [93]))) (h44:(44:UInt8) ∉ t) (hne:t≠[]):∃ d' r y,x=(86,r)∧w.ownsRow 0 32 1 r 1 [iv y]∧(∀ g,r.ownBlock=some g→P g)∧RepV w P d' y t:=by
 cases d with
 | zero=>exact absurd rfl (leaf_head h _)
 | succ d =>
  rcases h with h | ⟨r,its,e1,o,hp,hi,e2⟩ | ⟨r,ms,e1,o,hp,hi,e2,_⟩
  ·exact absurd rfl (leaf_head h _)
  ·have e3:joinT (its.map (·.2))=t:=by
    simp only [arrT,List.cons.injEq,true_and] at e2
    exact (List.append_cancel_right e2).symm
   match its,o,hi,e3 with
   | [],_,_,e3=>exact absurd e3.symm hne
   | [i],o,hi,e3 =>
    have e4:i.2=t:=e3
    exact ⟨d,r,i.1,e1,o,hp,e4 ▸ hi i (by simp)⟩
   | i :: j :: l,o,hi,e3=>exact absurd (by rw [← e3];simp [joinT]) h44
  ·simp [objT] at e2
theorem leaf_one {w:World}{P:Nat→Prop}{d:Nat}{x:IV}{b:UInt8} (h:RepV w P d x [b]) (h1:b≠91) (h2:b≠123):leafK x:=by
 have hl:leafV x [b]→leafK x:=by
  rintro (⟨rfl,_⟩ | ⟨b,rfl,_⟩ | ⟨n,h0,h1,rfl,_⟩ | ⟨t,_,rfl,_⟩)
  ·exact .inl rfl
  ·exact .inr (.inl ⟨b,rfl⟩)
  ·exact .inr (.inr (.inl ⟨n,h0,h1,rfl⟩))
  ·exact .inr (.inr (.inr ⟨t,rfl⟩))
 cases d with
 | zero=>exact hl h
 | succ d =>
  rcases h with h | ⟨r,its,e1,o,hp,hi,e2⟩ | ⟨r,ms,e1,o,hp,hi,e2,_⟩
  ·exact hl h
  ·simp only [arrT,List.cons.injEq] at e2
   exact absurd e2.1 h1
  ·simp only [objT,List.cons.injEq] at e2
   exact absurd e2.1 h2
theorem tour_leaf {V:Nat→Prop}{w:World}{d:Nat}{x:IV}{rs:List IV}{L:List Node} (h:Tour V w d (x,rs) L) (hx:leafK x):L=[(x,rs)]:=by
 obtain ⟨ks,es,hk,h1,h2,h3⟩:=tour_open h
 have:ks=[]:=by
  rcases hk with h | ⟨r,xs,e1,_⟩ | ⟨r,L,e1,_⟩
  ·exact h.2
  ·rcases hx with e | ⟨b,e⟩ | ⟨n,_,_,e⟩ | ⟨t,e⟩ <;> simp_all
  ·rcases hx with e | ⟨b,e⟩ | ⟨n,_,_,e⟩ | ⟨t,e⟩ <;> simp_all
 subst this
 simp only [List.map_nil,List.map_eq_nil_iff] at h1
 subst h1
 simpa using h2
theorem tour_one {V:Nat→Prop}{w:World}{d:Nat}{r:Value}{y:IV}{rs:List IV}{L:List Node} (h:Tour V w d ((86,r),rs) L) (ho:w.ownsRow 0 32 1 r 1 [iv y]):∃ d' L',L=((86,r),rs) :: L'∧Tour V w d' (y,numS 0 :: rs) L':=by
 obtain ⟨ks,es,hk,h1,h2,h3⟩:=tour_open h
 have hks:ks=[(numS 0,y)]:=by
  rcases hk with ⟨hx,_⟩ | ⟨r',xs,e1,o',_,_,e2⟩ | ⟨r',L,e1,_⟩
  ·rcases hx with e | ⟨b,e⟩ | ⟨n,_,_,e⟩ | ⟨t,e⟩ <;> simp at e
  ·simp only [Prod.mk.injEq,true_and] at e1
   subst e1
   rcases ho.2 with ⟨_,e⟩ | ⟨g,cap,cur,rfl,_,hb,_,_,_,ht⟩
   ·simp at e
   ·rcases o'.2 with ⟨e,_⟩ | ⟨g',cap',cur',e,_,hb',_,_,_,ht'⟩
    ·simp at e
    ·simp only [Value.slice.injEq,Option.some.injEq,Addr.mk.injEq] at e
     obtain ⟨⟨rfl,_,_⟩,e3,rfl⟩:=e
     rw [hb] at hb'
     simp only [Option.some.injEq,Obj.cells.injEq] at hb'
     obtain ⟨rfl,_⟩:=hb'
     rw [← e3,ht] at ht'
     match xs,ht' with
     | [z],ht' =>
      simp only [List.map_cons,List.map_nil,List.cons.injEq,and_true] at ht'
      have:y=z:=by
       obtain ⟨a,b⟩:=y
       obtain ⟨a',b'⟩:=z
       simp only [iv,Value.iface.injEq] at ht'
       rw [ht'.1,ht'.2]
      subst this
      exact e2
     | [],ht'=>simp at ht'
     | _ :: _ :: _,ht'=>simp at ht'
  ·simp at e1
 subst hks
 simp only [List.map_cons,List.map_nil] at h1
 match es,h1 with
 | [e],h1 =>
  simp only [List.map_cons,List.map_nil,List.cons.injEq,and_true] at h1
  obtain ⟨d',h4⟩:=h3 e (by simp)
  refine ⟨d',e.2,by simpa using h2,?_⟩
  rw [h1] at h4
  exact h4
 | [],h1=>simp at h1
 | _ :: _ :: _,h1=>simp at h1
theorem tour_ones {w:World}{P:Nat→Prop}{d d':Nat}{x:IV}{L:List Node} (h:RepV w P d x [91,91,49,93,93]) (hT:Tour P w d' (x,[]) L):L.map (fun n=>PathA n.2.reverse)=[PathA [],PathA [numS 0],PathA [numS 0,numS 0]]:=by
 obtain ⟨_,r,y,rfl,o,_,h1⟩:=arr_one (t:=[91,49,93]) h (by decide) (by simp)
 obtain ⟨_,r2,z,rfl,o2,_,h2⟩:=arr_one (t:=[49]) h1 (by decide) (by simp)
 have h3:=leaf_one h2 (by decide) (by decide)
 obtain ⟨_,L1,rfl,hT1⟩:=tour_one hT o
 obtain ⟨_,L2,rfl,hT2⟩:=tour_one hT1 o2
 rw [tour_leaf hT2 h3]
 rfl
theorem top_paths {w:World}:TopIs w tWP [91,91,49,93,93] [ArrOf [PathA [],PathA [numS 0],PathA [numS 0,numS 0]]]:=by
 intro w0 v x _ hv hr
 obtain ⟨d,hv⟩:=hv
 obtain ⟨L,hL⟩:=inp_of hv (by decide) (fun _ h=>h)
 obtain ⟨d',hT⟩:=hL.tour
 have e:=tour_ones hv hT
 rw [← e]
 refine top_of hL hr (fun p C V w kn h=>?_)
 exact ev_collect h.hp (ev_path (n:=8) h.hC h.hp (h.none (by kernel_rfl) (by kernel_rfl)) h.inp h.hVC) (by have:=h.inp.len;rw [List.length_map];omega)
end Go.Proofs.Tryz
namespace Go.Proofs.Tryz
set_option maxHeartbeats 16000000
open Go.RowKit
set_option maxRecDepth 100000
theorem gives_paths {w:World} (h:Asks w) :
  Calls Tryz.prog 4 #[.string fWP,.string sOne,.string sPaths] w fun e w'=>e = .returned (.bool true)∧Below w.heap.size w w':=by
 have hrun:=run_oneg h readsWP (by decide) (by decide) read_one top_paths (text_paths h)
 obtain ⟨want,hw⟩:∃ want:ByteArray,sPaths=want:=⟨_,rfl⟩
 rw [hw] at hrun ⊢
 have HRUN:Aside _:=hrun
 clear hrun h hw
 go_enter Tryz.func4,Tryz.ntmps4
 go_wp2_with (go_at_call 6;refine Calls.mono HRUN.out ?_;rintro e w1 ⟨k1,g,c,rfl,cA⟩;simp only [resV];have hgl:g < w1.heap.size:=lt_cell cA)
 go_ret
 exact ⟨rfl,k1.alloc k1.size _⟩
def RunsTrue (w:World) (f s:ByteArray):Prop:=∀ w1,Below w.heap.size w w1→Calls Tryz.prog 6 #[.string f,.string s,.int .i64 1,.int .i64 50] w1 fun e w'=>Below w1.heap.size w1 w'∧∃ g cap,e = .returned (resV 1 (.slice (some ⟨g,0,none⟩) 1 cap) ⟨#[]⟩)∧w'.cell? ⟨g,0,none⟩=some (.string sTrue)
theorem runs_true {w:World} (h:Asks w) {f s:ByteArray}{t:Tr}{c:Bys}{p:Nat} (hf:readAs f=some t) (hfs:f.size≤2000) (hm:s.size≤10000000) (hr:readL s=(some c,p)) (hT:∀ w,TopF w t c (BoolP true)):RunsTrue w f s:=fun w1 k =>
 run_firstg (h.below k) hf hfs hm hr (hT w1) (text_true (h.below k))
theorem Ways_none {w:World} (h:Asks w) {s:ByteArray}{p:Nat} (hm:s.size≤1600000) (hr:readL s=(none,p)) :
  Calls Tryz.prog 3 #[.string s] w fun e w'=>e = .returned (.bool true)∧Below w.heap.size w w':=by
 have g0:=gives_paths h
 have g1:∀ w1,Below w.heap.size w w1→_:=fun w1 k=>Canon_none (h.below k) (by omega) hr
 have G0:Aside _:=g0
 have G1:Aside _:=g1
 clear g0 g1 h hr
 go_enter Tryz.func3,Tryz.ntmps3
 go_wp2_with (first
  | (go_at_call 4;refine Calls.mono G0.out ?_;rintro e w1 ⟨rfl,k1⟩)
  | (go_at_call 5;refine Calls.mono (G1.out w1 k1) ?_;rintro e w2 ⟨rfl,k2⟩;have kB:Below w.heap.size w w2:=k1.trans (k2.mono k1.size)))
 go_ret
 exact ⟨rfl,kB⟩
theorem Ways_big {w:World} (h:Asks w) {s:ByteArray}{c:Bys}{p:Nat} (hm:s.size≤1600000) (hr:readL s=(some c,p)) (hc:500 < c.length) :
  Calls Tryz.prog 3 #[.string s] w fun e w'=>e = .returned (.bool true)∧Below w.heap.size w w':=by
 have g0:=gives_paths h
 have g1:∀ w1,Below w.heap.size w w1→_:=fun w1 k=>Canon_some (h.below k) (by omega) hr
 obtain ⟨out,hout⟩:∃ out:ByteArray,(⟨c.toArray⟩:ByteArray)=out:=⟨_,rfl⟩
 have hsz:(500:Int) < (out.size:Int):=by
  rw [← hout]
  simp only [ByteArray.size,List.size_toArray]
  omega
 simp only [hout] at g1
 have G0:Aside _:=g0
 have G1:Aside _:=g1
 clear g0 g1 h hr hout
 go_enter Tryz.func3,Tryz.ntmps3
 go_wp2_with (first
  | (go_at_call 4;refine Calls.mono G0.out ?_;rintro e w1 ⟨rfl,k1⟩)
  | (go_at_call 5;refine Calls.mono (G1.out w1 k1) ?_;rintro e w2 ⟨rfl,k2⟩;have kB:Below w.heap.size w w2:=k1.trans (k2.mono k1.size)))
 go_ret
 exact ⟨rfl,kB⟩
end Go.Proofs.Tryz
namespace Go.Proofs.Tryz
set_option maxHeartbeats 16000000
open Go.RowKit
set_option maxRecDepth 100000
def fAll:List ByteArray:=[fW1,fW2,fW3,fW4,fW5,fW6]
theorem fAll_cells {w:World}:∀ j f,fAll[j]? = some f→(w.alloc (.cells #[.string fW1,.string fW2,.string fW3,.string fW4,.string fW5,.string fW6] 9)).cell? ⟨w.heap.size,j,none⟩=some (.string f):=by
 intro j f h
 have hb:=heap_new w (.cells #[.string fW1,.string fW2,.string fW3,.string fW4,.string fW5,.string fW6] 9)
 match j,h with
 | 0,h=>cases h;exact cells_cell hb rfl
 | 1,h=>cases h;exact cells_cell hb rfl
 | 2,h=>cases h;exact cells_cell hb rfl
 | 3,h=>cases h;exact cells_cell hb rfl
 | 4,h=>cases h;exact cells_cell hb rfl
 | 5,h=>cases h;exact cells_cell hb rfl
 | j+6,h=>simp [fAll] at h
theorem Ways_small (hT:SortsTrue) {w:World} (h:Asks w) {s:ByteArray}{c:Bys}{p:Nat} (hm:s.size≤1600000) (hr:readL s=(some c,p)) (hc:c.length≤500) :
  Calls Tryz.prog 3 #[.string s] w fun e w'=>e = .returned (.bool true)∧Below w.heap.size w w':=by
 have g0:=gives_paths h
 have g1:∀ w1,Below w.heap.size w w1→_:=fun w1 k=>Canon_some (h.below k) (by omega) hr
 have htw:=read_twice hr
 obtain ⟨out,hout⟩:∃ out:ByteArray,(⟨c.toArray⟩:ByteArray)=out:=⟨_,rfl⟩
 have hsz:(out.size:Int)≤500:=by
  rw [← hout]
  simp only [ByteArray.size,List.size_toArray]
  omega
 have hso:out.size≤10000000:=by omega
 simp only [hout] at g1 htw
 have R:Aside (∀ f∈fAll,RunsTrue w f out):=by
  intro f hf
  simp only [fAll,List.mem_cons,List.not_mem_nil,or_false] at hf
  rcases hf with rfl | rfl | rfl | rfl | rfl | rfl
  ·exact runs_true h readsW1 (by decide) hso htw (fun _=>topF_of hc (fun p C V w kn x L a=>ev_W1 h.cmp a))
  ·exact runs_true h readsW2 (by decide) hso htw (fun _=>topF_of hc (fun p C V w kn x L a=>ev_W2 h.cmp hT a (by decide) (by decide)))
  ·exact runs_true h readsW3 (by decide) hso htw (fun _=>topF_of hc (fun p C V w kn x L a=>ev_W3 h.cmp hT a (by decide) (by decide)))
  ·exact runs_true h readsW4 (by decide) hso htw (fun _=>topF_of hc (fun p C V w kn x L a=>ev_W4 h.cmp a))
  ·exact runs_true h readsW5 (by decide) hso htw (fun _=>topF_of hc (fun p C V w kn x L a=>ev_W5 h.cmp a))
  ·exact runs_true h readsW6 (by decide) hso htw (fun _=>topF_W6 hc)
 have G0:Aside _:=g0
 have G1:Aside _:=g1
 clear g0 g1 h hr hout htw hso hT
 go_enter Tryz.func3,Tryz.ntmps3
 go_wp2_with (first
  | (go_at_call 4;refine Calls.mono G0.out ?_;rintro e w1 ⟨rfl,k1⟩)
  | (go_at_call 5;refine Calls.mono (G1.out w1 k1) ?_;rintro e w2 ⟨rfl,k2⟩;have kB:Below w.heap.size w w2:=k1.trans (k2.mono k1.size)))
 have HB:Aside (Below w.heap.size w w2):=kB
 have hl:=kB.size
 clear kB k1 k2
 go_loopg [8] 6 (fun k v8 wr=>∃ i:Nat,i+k=6∧v8 = .int .i64 i∧Aside (Below w.heap.size w wr)∧w2.heap.size < wr.heap.size∧Aside (∀ j f,fAll[j]? = some f→wr.cell? ⟨w2.heap.size,j,none⟩=some (.string f)))
 case atStart=>exact ⟨0,by omega,rfl,HB.out.alloc hl _,by simp,fun j f h=>fAll_cells j f h⟩
 case round =>
  obtain ⟨i,hi,rfl,HBR,hlr,HC⟩:=hrel
  match gk,hi with
  | 0,hi =>
   have hz:¬ (i:Int) < 6:=by omega
   go_wp2_with fail
   go_ret
   exact ⟨rfl,HBR.out⟩
  | k+1,hi =>
   have hz:(i:Int) < 6:=by omega
   have hz2:i < 6:=by omega
   obtain ⟨f,hf⟩:∃ f,fAll[i]? = some f:=⟨_,List.getElem?_eq_getElem (show i < fAll.length from hz2)⟩
   have c0:=HC.out i f hf
   have HR:Aside (Calls Tryz.prog 6 #[.string f,.string out,.int .i64 1,.int .i64 50] wr fun e w'=>Below wr.heap.size wr w'∧∃ g cap,e = .returned (resV 1 (.slice (some ⟨g,0,none⟩) 1 cap) ⟨#[]⟩)∧w'.cell? ⟨g,0,none⟩=some (.string sTrue)):=R.out f (List.mem_of_getElem? hf) wr HBR.out
   clear hf
   go_wp2_with (go_at_call 6;refine Calls.mono HR.out ?_;rintro e w3 ⟨k3,g,cap,rfl,cA⟩;simp only [resV,sTrue] at cA ⊢;have hgl:g < w3.heap.size:=lt_cell cA)
   go_roundg k
   case measure=>omega
   case rel =>
    refine ⟨i+1,by omega,by simp,(HBR.out.trans (k3.mono HBR.out.size)).alloc (by have:=HBR.out.size;have:=k3.size;omega) _,by have:=k3.size;simp;omega,fun j f h=>?_⟩
    exact ((k3.alloc k3.size _).cell (p:=⟨w2.heap.size,j,none⟩) hlr).trans (HC.out j f h)
theorem Ways_ok (hT:SortsTrue) {w:World} (h:Asks w) {s:ByteArray} (hm:s.size≤1600000) :
  Calls Tryz.prog 3 #[.string s] w fun e w'=>e = .returned (.bool true)∧Below w.heap.size w w':=by
 cases hr:readL s with
 | mk o p =>
  cases o with
  | none=>exact Ways_none h hm hr
  | some c =>
   by_cases hc:c.length≤500
   ·exact Ways_small hT h hm hr hc
   ·exact Ways_big h hm hr (by omega)
end Go.Proofs.Tryz
