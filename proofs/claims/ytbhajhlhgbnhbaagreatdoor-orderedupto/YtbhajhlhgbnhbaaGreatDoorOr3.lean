import Derived.Test.YtbhajhlhgbnhbaaGreatDoorOn2
import Derived.Test.YtbhajhlhgbnhbaaGreatDoorWq3
set_option linter.all false
namespace Go.Proofs.Tryz
set_option maxHeartbeats 16000000
open Go.RowKit
set_option maxRecDepth 100000
def TopIs (w:World) (t:Tr) (c:Bys) (Ls:List SP):Prop:=∀ (w0:World) (v:Value) (x:IV),Below w.heap.size w w0→Vl w0 (· < w0.heap.size) x c→Rep (· < w0.heap.size) w0 v t→OpenTop w0.heap.size w0 v x Ls
def TextIs (w:World) (P:SP) (out:ByteArray):Prop:=∀ (w':World) (s:Sp) (G:Nat→Prop),Below w.heap.size w w'→HoldsP P G w' s→s.2=none∧CanonAt w' s.1 out
theorem run_oneg {w:World} (h:Asks w) {f s:ByteArray}{t:Tr}{c:Bys}{p:Nat}{P:SP}{out:ByteArray} (hf:readAs f=some t) (hfs:f.size≤2000) (hm:s.size≤10000000) (hr:readL s=(some c,p)) (hO:TopIs w t c (P :: [])) (hc:TextIs w P out) :
  Calls Tryz.prog 6 #[.string f,.string s,.int .i64 2,.int .i64 50] w fun e w'=>Below w.heap.size w w'∧∃ g cap,e = .returned (resV 0 (.slice (some ⟨g,0,none⟩) 1 cap) ⟨#[]⟩)∧w'.cell? ⟨g,0,none⟩=some (.string out):=by
 obtain ⟨i0,hi0,hz0,hz1,hz2⟩:=info_parts (show (Tryz.prog.info? 9).map (fun i=>(i.zero,i.size,i.bytes))=some (some (.string ⟨#[]⟩),1,16) by kernel_rfl)
 have hrd:∀ w1,Below w.heap.size w w1→Calls Tryz.prog 7 #[.string s] w1 fun e w'=>(∃ T u,e = .returned (.tuple #[.iface T u,.int .i64 0,.bool true])∧Vl w' (· < w'.heap.size) (T,u) c)∧Below w1.heap.size w1 w':=fun w1 k=>read_some (h.below k) hm hr
 have hI:=h.int
 have hS:=h.signs
 have hsg:=hS.2
 have HRD:Aside _:=hrd
 have HO:Aside (TopIs w t c (P :: [])):=hO
 have HC:Aside (TextIs w P out):=hc
 have HF:Hid (readAs f=some t):=hf
 clear hrd hO hc h hr hm hf
 go_enter Tryz.func6,Tryz.ntmps6
 go_wp2_with (first
  | (go_at_call 9;refine (readAs_ok hI HF.out _ hfs (hS.below (below_alloc _ _))).mono ?_;rintro e w1 ⟨T1,bb,rfl,k1,r1⟩;have kA:Below w.heap.size w w1:=(below_alloc _ _).trans (k1.mono (by simp)))
  | (go_at_call 7;refine (HRD.out w1 kA).mono ?_;rintro e w2 ⟨⟨T,u,rfl,hv⟩,k2⟩;have kB:Below w.heap.size w w2:=kA.trans (k2.mono kA.size);have r2:Rep (· < w2.heap.size) w2 _ t:=(r1.upon k2).to (fun _ _ _ _ hv=>⟨cell_lt hv,hv⟩);have HT:Aside (OpenTop w2.heap.size w2 _ (T,u) (P :: [])):=HO.out w2 _ (T,u) kB hv r2;clear hv)
  | (go_at_call 10;refine (Start_g hI HT.out (hS.below kB) (Nat.lt_of_lt_of_le hsg kB.size) (SameOn.refl _ _) (Nat.le_refl _)).mono ?_;rintro e w3 ⟨k3,sb,fv,F,D,rfl,hsb,hsk,hF,hD,hnF,hsbl⟩))
 have kC:Below w.heap.size w w3:=kB.trans (k3.mono kB.size)
 have nD:¬ D sb:=fun e=>hnF (hsk.sub _ e)
 have hDw:∀ k,D k→w.heap.size≤k:=fun k hk=>Nat.le_trans kB.size (hD k hk)
 have hsl:=lt_of_block hsb
 have hw1:w.heap.size < w1.heap.size:=by have:=k1.size;simp at this;omega
 have hw2:w.heap.size < w2.heap.size:=by have:=k2.size;omega
 have hR3:=(k3.block w.heap.size hw2).trans ((k2.block w.heap.size hw1).trans ((k1.block w.heap.size (by simp)).trans (heap_new w _)))
 have hN:=next_someg hsb hsk nD (out:=out) (fun w' s G fr hP=>HC.out w' s G (fr.belowN hDw kC kC.size) hP)
 have HN:Aside _:=hN
 clear hN
 refine wp_loop_rounds 2 ?_
 rw [rounds_succ]
 go_wp2_with (first
  | (go_at_call 11;refine Calls.mono HN.out ?_;rintro e w4 ⟨fr4,rfl,hsb4,F',D',hF',hD',hS4⟩;simp only [ansV];have hs4:=fr4.size)
  | (refine wpList_append_lies _ (by rfl) _ _ _ (by rfl) w.heap.size 9 i0 _ 1 16 Tryz.underlying27 hi0 hz0 hz1 hz2 rfl (by omega) _ 0 [] (by rfl) (World.ownsRow_nil _ _ _ _) ⟨w4.heap.size+1,0,none⟩ 1 1 [.string out] (by rfl) (by rfl) (World.news_of_block (cs:=#[.string out]) (t:=9) (fr:=(0,0)) (heap_new2' w4 _ _)) (by simp [Value.oneCell']) (by omega) (by unfold maxLen;omega) (by omega) (by have:=kC.size;simp;omega) (w4.heap.size+2) (by simp) ?_;intro g5 cap5 w5 ow5 hgr5 hat5 hlt5))
 rw [rounds_succ]
 have b5:Below w4.heap.size w4 w5:=(below_alloc2 w4 _ _).trans ((Below.of_grown hgr5).mono (by simp;omega))
 have hR5:=(b5.block w.heap.size (by have:=k3.size;omega)).trans ((fr4.block w.heap.size (by have:=k3.size;omega) (fun e=>by have:=hD _ e;omega)).trans hR3)
 have hb5:=b5.size
 have hk3s:=k3.size
 have hsb5:StreamBox w5 sb fv:=hsb4.same (b5.block sb (by omega))
 have hS5:StG [] F' D' w5 fv:=hS4.move (fun k hk=>b5.block k (hS4.lt k hk)) b5.size
 have nD':¬ D' sb:=fun e=>by
  rcases hD' _ e with h | h
  ·exact nD h
  ·omega
 go_wp2_with (go_at_call 11;refine (next_done hsb5 hS5.toNone nD').mono ?_;rintro e w6 ⟨fr6,rfl⟩;simp only [ansV];obtain ⟨⟨m0,m1,m2,m3⟩,⟨p0,p1,p2,p3⟩,ml⟩:=four_facts ((fr6.block w.heap.size (by omega) (fun e=>e.elim (fun e=>(hD' _ e).elim (fun e=>by have:=hD _ e;omega) (fun e=>by omega)) (fun e=>by omega))).trans hR5))
 obtain rfl:g5=w4.heap.size+2:=by
  rcases hat5 with e | e
  ·simp [Value.ownBlock] at e
  ·exact e
 have hD'w:∀ k,D' k∨k=sb→w.heap.size≤k:=by
  rintro k (e | e)
  ·rcases hD' k e with h | h
   ·exact hDw k h
   ·omega
  ·omega
 have kD:Below w.heap.size w w4:=fr4.belowN hDw kC kC.size
 have kE:Below w.heap.size w w5:=kD.trans (b5.mono kD.size)
 have kF:Below w.heap.size w w6:=fr6.belowN hD'w kE kE.size
 have c5:w5.cell? ⟨w4.heap.size+2,0,none⟩=some (.string out):=by
  rcases ow5.2 with ⟨e,_⟩ | ⟨g',cap',cur,e,_,hb,_,_,_,ht⟩
  ·cases e
  ·cases e
   have e0:cur.toList[0]? = some (.string out):=by rw [← List.getElem?_take_of_lt (show 0 < (0+1) * 1 by omega),ht];rfl
   exact cells_cell hb (by simpa using e0)
 have c6:w6.cell? ⟨w4.heap.size+2,0,none⟩=some (.string out):=(World.cell?_of_block (w:=w5) (fr6.block (w4.heap.size+2) hlt5 (fun e=>e.elim (fun e=>by have:=hS4.lt _ (hS4.sub _ e);omega) (fun e=>by omega)))).trans c5
 refine bodyPost_ret (v:=resV 0 (.slice (some ⟨w4.heap.size+2,0,none⟩) 1 cap5) ⟨#[]⟩) (by simp [results,Tryz.results6,go_sem,m0,m1,m2,m3,ml,resV]) rfl ⟨((((kF.setCell (p:=⟨w.heap.size,0,none⟩) (Nat.le_refl _) _).setCell (p:=⟨w.heap.size,1,none⟩) (Nat.le_refl _) _).setCell (p:=⟨w.heap.size,2,none⟩) (Nat.le_refl _) _).setCell (p:=⟨w.heap.size,3,none⟩) (Nat.le_refl _) _).alloc (by simp;omega) _,_,cap5,rfl,?_⟩
 have c6l:=lt_cell c6
 simp only at c6l
 rw [(below_alloc _ _).cell (p:=⟨w4.heap.size+2,0,none⟩) (by simpa using c6l)]
 rw [World.cell?_setCell_far _ _ _ _ (by simp;omega),World.cell?_setCell_far _ _ _ _ (by simp;omega),World.cell?_setCell_far _ _ _ _ (by simp;omega),World.cell?_setCell_far _ _ _ _ (by simp;omega)]
 exact c6
def sTrue:ByteArray:=⟨#[116,114,117,101]⟩
theorem text_true {w:World} (h:Asks w):TextIs w (BoolP true) sTrue:=by
 intro w' s G k hP
 have e:s=(boolV true,none):=hP.here
 subst e
 exact ⟨rfl,canon_at (c:=[116,114,117,101]) (h.below k) (Vl.leaf (.inr (.inl ⟨true,rfl,rfl⟩))) (by decide) (by simp)⟩
theorem row_lt {w:World}{B e s n:Nat}{v:Value}{xs:List Value} (h:w.ownsRow B e s v n xs):∀ k,v.ownBlock=some k→k < w.heap.size:=fun k hk=>by
 obtain ⟨c,fz,h⟩:=own_kind h k hk
 exact lt_of_block h
theorem leaf_head {v:IV}{c:Bys} (h:leafV v c):∀ r,c≠91 :: r:=by
 intro r e
 rcases h with ⟨_,rfl⟩ | ⟨b,_,rfl⟩ | ⟨n,h0,h1,_,rfl⟩ | ⟨t,_,_,rfl⟩
 ·simp at e
 ·cases b <;> simp [boolT] at e
 ·by_cases hneg:n < 0
  ·rw [Lib.itoa,if_pos hneg] at e
   simp at e
  ·rw [Lib.itoa,if_neg hneg] at e
   have:=dec_all n.toNat 91 (by rw [e];simp)
   simp at this
 ·simp [quoteL] at e
set_option maxRecDepth 10000
def Bottom:List HL→Prop
 | []=>False
 | [l]=>l.obj=false
 | _ :: l :: st=>Bottom (l :: st)
theorem add_obj_same (l:HL) (t:Bys):(l.add t).obj=l.obj:=by
 unfold HL.add
 split <;> rfl
theorem Bottom.top {l l':HL}{st:List HL} (h:Bottom (l :: st)) (e:l'.obj=l.obj):Bottom (l' :: st):=by
 cases st with
 | nil=>exact e.trans h
 | cons x st=>exact h
theorem Bottom.push {l:HL}{st:List HL} (h:Bottom st):Bottom (l :: st):=by
 cases st with
 | nil=>exact h.elim
 | cons x st=>exact h
theorem run_arr {s:ByteArray}:∀ (k:Nat) (hand:Option Bys) (a:Nat) (st:List HL) (c:Bys) (p:Nat),(Bottom st∨(st=[]∧∃ ts,hand=some (arrT ts)))→runL s k hand a st=(some c,p)→∃ ts,c=arrT ts
 | 0,_,a,_,c,p,_,h=>by cases h
 | k+1,none,a,st,c,p,hb,h=>by
  have hb:Bottom st:=by
   rcases hb with hb | ⟨_,ts,e⟩
   ·exact hb
   ·cases e
  rw [runL] at h
  cases hR:begL s a st.length with
  | mk q x =>
   rw [hR] at h
   cases x with
   | none=>cases h
   | some x =>
    cases x with
    | inl t=>exact run_arr k _ _ _ _ _ (.inl hb) h
    | inr l=>exact run_arr k _ _ _ _ _ (.inl hb.push) h
 | k+1,some t,a,[],c,p,hb,h=>by
  rw [runL] at h
  rcases hb with hb | ⟨_,ts,e⟩
  ·exact hb.elim
  ·cases e
   simp only [Prod.mk.injEq] at h
   have h1:=h.1
   split at h1
   ·exact ⟨ts,(Option.some.inj h1).symm⟩
   ·cases h1
 | k+1,some t,a,l :: st,c,p,hb,h=>by
  have hb:Bottom (l :: st):=by
   rcases hb with hb | ⟨e,_⟩
   ·exact hb
   ·cases e
  rw [runL] at h
  split at h
  ·split at h
   ·split at h
    ·exact run_arr k _ _ _ _ _ (.inl (hb.top (l':={ l.add t with key:=(keyAt s (blk s a+1)).1 }) (add_obj_same l t))) h
    ·cases h
   ·exact run_arr k _ _ _ _ _ (.inl (hb.top (add_obj_same l t))) h
  ·split at h
   ·refine run_arr k _ _ _ _ _ ?_ h
    cases st with
    | nil =>
     refine .inr ⟨rfl,(l.add t).its,?_⟩
     have e:(l.add t).obj=false:=(add_obj_same l t).trans hb
     rw [HL.text,e]
     rfl
    | cons x st=>exact .inl hb
   ·cases h
theorem read_arr {s:ByteArray}{c:Bys}{p:Nat} (h0:byteAt s 0=91) (h:readL s=(some c,p)):∃ ts,c=arrT ts:=by
 unfold readL at h
 have hb:blk s 0=0:=blk_none (by rw [h0];decide)
 have hbeg:begL s 0 0=bhL s 0 0 false:=by
  unfold begL begC
  rw [hb,h0]
  rfl
 have hbeg':begL s 0 ([]:List HL).length=bhL s 0 0 false:=hbeg
 rw [runL,hbeg'] at h
 unfold bhL at h
 simp only [show ¬ (0=64) by decide,if_false,Bool.false_eq_true] at h
 split at h
 ·rename_i q x e
  split at e <;> cases e
 ·rename_i q t e
  split at e
  ·cases e
   exact run_arr _ _ _ _ _ _ (.inr ⟨rfl,[],rfl⟩) h
  ·cases e
 ·rename_i q l e
  split at e
  ·cases e
  ·cases e
   exact run_arr _ none _ [newL false []] _ _ (.inl (show Bottom [newL false []] from (rfl:(newL false []).obj=false))) h
theorem arr_of_rep {w:World}{P:Nat→Prop}{d:Nat}{x:IV}{ts:List Bys} (h:RepV w P d x (arrT ts)):∃ (r:Value) (its:List (IV×Bys)) (d':Nat),x=(86,r)∧w.ownsRow 0 32 1 r its.length (its.map itC)∧(∀ g,r.ownBlock=some g→P g)∧(∀ y∈its,RepV w P d' y.1 y.2)∧arrT ts=arrT (its.map (·.2)):=by
 cases d with
 | zero=>exact absurd rfl (leaf_head h _)
 | succ d =>
  rcases h with h | ⟨r,its,e1,o,hp,hi,e2⟩ | ⟨r,ms,e1,o,hp,hi,e2,_⟩
  ·exact absurd rfl (leaf_head h _)
  ·exact ⟨r,its,d,e1,o,hp,hi,e2⟩
  ·simp [objT,arrT] at e2
theorem lens_item {ts:List Bys}{t:Bys} (h:t∈ts):t.length+2≤(arrT ts).length:=by
 have h1:∀ (l:List Bys) (x:Bys),(∀ t∈x :: l,t.length≤(joinT (x :: l)).length):=fun l=>by
  induction l with
  | nil=>intro x t ht;rw [List.mem_singleton.1 ht];exact Nat.le_refl _
  | cons y l ih =>
   intro x t ht
   rw [joinT,List.length_append,List.length_cons]
   rcases List.mem_cons.1 ht with rfl | ht
   ·omega
   ·have:=ih y t ht
    omega
 cases ts with
 | nil=>cases h
 | cons x l =>
  have:=h1 l x t h
  simp only [arrT,List.length_cons,List.length_append,List.length_nil]
  omega
theorem lens_count (ts:List Bys):ts.length≤(arrT ts).length:=by
 have h1:∀ (l:List Bys) (x:Bys),l.length≤(joinT (x :: l)).length:=fun l=>by
  induction l with
  | nil=>intro x;simp
  | cons y l ih =>
   intro x
   have:=ih y
   rw [joinT,List.length_append,List.length_cons,List.length_cons]
   omega
 cases ts with
 | nil=>simp
 | cons x l =>
  have:=h1 l x
  simp only [arrT,List.length_cons,List.length_append,List.length_nil]
  omega
structure Amb (C:Nat→Prop) (w:World):Prop where
 asks:∀ w',SameOn C w w'→w.heap.size≤w'.heap.size→Asks w'
 dec:∀ w',SameOn C w w'→w.heap.size≤w'.heap.size→DecodesAt w'
 join:JoinsStr
theorem Amb.next {C C':Nat→Prop}{w w1:World} (h:Amb C w) (hs:SameOn C w w1) (hl:w.heap.size≤w1.heap.size) (hC:∀ k,C k→C' k):Amb C' w1 :=
 ⟨fun w' a b=>h.asks w' (hs.trans (a.mono hC)) (Nat.le_trans hl b),fun w' a b=>h.dec w' (hs.trans (a.mono hC)) (Nat.le_trans hl b),h.join⟩
def RowP (vs:List Value):SP:=fun w s=>s.2=none∧∃ r,s.1=(86,r)∧w.ownsRow 0 32 1 r vs.length vs
theorem row_holds {w:World}{N:Nat}{v:Value}{vs:List Value} (ow:w.ownsRow N 32 1 v vs.length vs):HoldsP (RowP vs) (fun k=>v.ownBlock=some k) w ((86,v),none) :=
 ⟨fun k hk=>(ow.lt k hk).2,fun _ hs' _=>⟨rfl,v,rfl,own_base (owns_same ow (fun g hg=>hs' g hg)) (Nat.zero_le _)⟩⟩
theorem alone_explode {C:Nat→Prop}{w0:World}{t:ByteArray}{cl:List Bys} (ht:t.data.toList=cl.flatten) (hc:∀ c∈cl,Chunk c) (hn:t.size≤100000000):AloneG C w0 ⟨#[101,120,112,108,111,100,101]⟩ (strI t) (RowP (cl.map rnV)):=by
 intro w hs hl
 have HE:∀ w1,Calls Tryz.prog 219 #[.string t] w1 fun e w'=>Below w1.heap.size w1 w'∧∃ v,e = .returned v∧w'.ownsRow w1.heap.size 32 1 v (cl.map rnV).length (cl.map rnV):=fun w1=>by rw [List.length_map];exact explode_ok ht hc hn
 simp only [iv,strI]
 go_enter Tryz.func165,Tryz.ntmps165
 go_wp2_with (first
  | (go_at_call 170;refine (must_str _ _).mono ?_;rintro e w1 ⟨rfl,hw1⟩;subst hw1)
  | (go_at_call 219;refine (HE _).mono ?_;rintro e w2 ⟨k2,v,rfl,ow⟩))
 go_ret
 exact ⟨k2,(86,v),_,rfl,row_holds ow,fun k hk=>.inr (ow.lt k hk).1⟩
theorem alone_implode (hA:AppendsRune) {C:Nat→Prop}{w0:World}{x:IV}{cl:List Bys} (hx:HoldsP (RowP (cl.map rnV)) C w0 (x,none)) (hc:∀ c∈cl,Chunk c) (hn:cl.length≤100000000):AloneG C w0 ⟨#[105,109,112,108,111,100,101]⟩ x (Just (strI ⟨cl.flatten.toArray⟩,none)):=by
 intro w hs hl
 obtain ⟨_,r,e1,ow⟩:=hx.2 w hs hl
 simp only at e1
 subst e1
 rw [List.length_map] at ow
 have HE:Aside (Calls Tryz.prog 220 #[r] w fun e w'=>e = .returned (.string ⟨cl.flatten.toArray⟩)∧Below w.heap.size w w'):=implode_ok hA ow hc hn
 have HM:∀ w1,Calls Tryz.prog 154 #[.iface 86 r] w1 fun e w'=>e = .returned r∧w'=w1:=fun w1=>must_arr _ w1
 obtain ⟨R,hR⟩:∃ R:ByteArray,R=⟨cl.flatten.toArray⟩:=⟨_,rfl⟩
 rw [← hR] at HE ⊢
 clear hR ow hx
 simp only [iv]
 go_enter Tryz.func165,Tryz.ntmps165
 go_wp2_with (first
  | (go_at_call 154;refine (HM _).mono ?_;rintro e w1 ⟨rfl,hw1⟩;subst hw1)
  | (go_at_call 220;refine Calls.mono HE.out ?_;rintro e w2 ⟨rfl,k2⟩))
 go_ret
 exact ⟨k2,strI R,fun _=>False,rfl,just_holds _ _,fun _ h=>h.elim⟩
theorem quote_len (t:Bys):(quoteL t).length≤6 * t.length+2:=by
 have:=flat_six t
 simp only [quoteL,List.length_cons,List.length_append,List.length_nil]
 omega
theorem quote_inj {t u:Bys} (ht:UStr t) (hu:UStr u) (h:quoteL t=quoteL u):t=u:=by
 have h1:=strAt_quote (s:=⟨(quoteL t).toArray⟩) (a:=0) ht ⟨[],by simp⟩
 have h2:=strAt_quote (s:=⟨(quoteL t).toArray⟩) (a:=0) hu ⟨[],by rw [← h];simp⟩
 rw [h1] at h2
 exact (Prod.mk.inj h2).1
theorem leaf_quote {x:IV}{t:ByteArray} (ht:UStr t.data.toList) (h:leafV x (quoteL t.data.toList)):x=strI t:=by
 rcases h with ⟨_,e⟩ | ⟨b,_,e⟩ | ⟨n,h0,h1,_,e⟩ | ⟨u,⟨_,hu⟩,e1,e⟩
 ·simp [quoteL] at e
 ·cases b <;> simp [boolT,quoteL] at e
 ·exfalso
  by_cases hneg:n < 0
  ·rw [Lib.itoa,if_pos hneg] at e
   simp [quoteL] at e
  ·rw [Lib.itoa,if_neg hneg] at e
   have:=dec_all n.toNat 34 (by rw [← e];simp [quoteL])
   simp at this
 ·have e2:=quote_inj ht hu e
  have:t=u:=by
   obtain ⟨⟨l1⟩⟩:=t
   obtain ⟨⟨l2⟩⟩:=u
   simp only at e2
   rw [e2]
  rw [e1,this]
  rfl
theorem rep_quote {w:World}{P:Nat→Prop}{d:Nat}{x:IV}{t:ByteArray} (ht:UStr t.data.toList) (h:RepV w P d x (quoteL t.data.toList)):x=strI t:=by
 cases d with
 | zero=>exact leaf_quote ht h
 | succ d =>
  rcases h with h | ⟨r,its,_,_,_,_,e⟩ | ⟨r,ms,_,_,_,_,e,_⟩
  ·exact leaf_quote ht h
  ·simp [quoteL,arrT] at e
  ·simp [quoteL,objT] at e
theorem alone_tojson {C:Nat→Prop}{w0:World}{t:ByteArray} (h:Amb C w0) (hn:t.size≤50000000) (hu:UStr t.data.toList):AloneG C w0 ⟨#[116,111,106,115,111,110]⟩ (strI t) (Just (strI ⟨(quoteL t.data.toList).toArray⟩,none)):=by
 intro w hs hl
 have ha:=h.asks w hs hl
 have hq:=quote_len t.data.toList
 have e0:t.data.toList.length=t.size:=rfl
 have HE:Aside (Calls Tryz.prog 8 #[.iface 100 (.string t)] w fun e w'=>e = .returned (.string ⟨(quoteL t.data.toList).toArray⟩)∧Below w.heap.size w w'):=Canonical_any (v:=strI t) ha.app (Vl.leaf (.inr (.inr (.inr ⟨t,⟨hn,hu⟩,rfl,rfl⟩)))) (by omega) (by simp [quoteL]) ha.tab
 obtain ⟨R,hR⟩:∃ R:ByteArray,R=⟨(quoteL t.data.toList).toArray⟩:=⟨_,rfl⟩
 rw [← hR] at HE ⊢
 clear hR ha
 simp only [iv,strI]
 go_enter Tryz.func165,Tryz.ntmps165
 go_wp2_with (go_at_call 8;refine Calls.mono HE.out ?_;rintro e w2 ⟨rfl,k2⟩)
 go_ret
 exact ⟨k2,strI R,fun _=>False,rfl,just_holds _ _,fun _ h=>h.elim⟩
theorem read_quote {w:World} (h:Asks w) {t:ByteArray} (hn:(quoteL t.data.toList).length≤10000000) (hu:UStr t.data.toList):Calls Tryz.prog 216 #[.string ⟨(quoteL t.data.toList).toArray⟩] w fun e w'=>e = .returned (iv (strI t))∧Below w.heap.size w w':=by
 have hr:=read_back (c:=quoteL t.data.toList) (Cn.leaf (.inr (.inr (.inl ⟨_,hu,rfl⟩))))
 have HR:Aside (Calls Tryz.prog 7 #[.string ⟨(quoteL t.data.toList).toArray⟩] w fun e w'=>e = .returned (.tuple #[iv (strI t),.int .i64 0,.bool true])∧Below w.heap.size w w'):=by
  refine (read_some h (by simpa [ByteArray.size] using hn) hr).mono ?_
  rintro e w' ⟨⟨T,u,rfl,d,hv⟩,k⟩
  have e:=rep_quote hu hv
  rw [Prod.ext_iff] at e
  obtain ⟨e1,e2⟩:=e
  simp only at e1 e2
  subst e1
  subst e2
  exact ⟨rfl,k⟩
 obtain ⟨R,hR⟩:∃ R:ByteArray,R=⟨(quoteL t.data.toList).toArray⟩:=⟨_,rfl⟩
 rw [← hR] at HR ⊢
 clear hR hr h
 simp only [iv,strI] at HR ⊢
 go_enter Tryz.func216,Tryz.ntmps216
 go_wp2_with (go_at_call 7;refine Calls.mono HR.out ?_;rintro e w2 ⟨rfl,k2⟩)
 go_ret
 exact ⟨rfl,k2⟩
theorem alone_fromjson {C:Nat→Prop}{w0:World}{t:ByteArray} (h:Amb C w0) (hn:(quoteL t.data.toList).length≤10000000) (hu:UStr t.data.toList):AloneG C w0 ⟨#[102,114,111,109,106,115,111,110]⟩ (strI ⟨(quoteL t.data.toList).toArray⟩) (Just (strI t,none)):=by
 intro w hs hl
 have HE:Aside (Calls Tryz.prog 216 #[.string ⟨(quoteL t.data.toList).toArray⟩] w fun e w'=>e = .returned (iv (strI t))∧Below w.heap.size w w'):=read_quote (h.asks w hs hl) hn hu
 obtain ⟨R,hR⟩:∃ R:ByteArray,R=⟨(quoteL t.data.toList).toArray⟩:=⟨_,rfl⟩
 rw [← hR] at HE ⊢
 clear hR
 simp only [iv,strI] at HE ⊢
 go_enter Tryz.func165,Tryz.ntmps165
 go_wp2_with (first
  | (go_at_call 170;refine (must_str _ _).mono ?_;rintro e w1 ⟨rfl,hw1⟩;subst hw1)
  | (go_at_call 216;refine Calls.mono HE.out ?_;rintro e w2 ⟨rfl,k2⟩))
 go_ret
 exact ⟨k2,strI t,fun _=>False,rfl,just_holds _ _,fun _ h=>h.elim⟩
theorem with_split {C:Nat→Prop}{w0:World}{t:ByteArray}{cl:List Bys} (h:Amb C w0) (hC:∀ k,C k→k < w0.heap.size) (ht:t=⟨cl.flatten.toArray⟩) (hc:∀ c∈cl,Chunk c) (hn:t.size≤100000000):WithG C w0 ⟨#[115,112,108,105,116]⟩ (strI t) (Just (strI ⟨#[]⟩,none)) (RowP (cl.map stV)):=by
 intro w s G hs hl hQ
 have e:s=(strI ⟨#[]⟩,none):=hQ.here
 subst e
 have HE:Aside (Calls Tryz.prog 208 #[.string t,.string ⟨#[]⟩] w fun e w'=>Below w.heap.size w w'∧∃ v,e = .returned v∧w'.ownsRow w.heap.size 32 1 v (cl.map stV).length (cl.map stV)):=by
  rw [List.length_map]
  exact split_ok ht hc hn (fun W k=>h.dec W (hs.trans (fun j hj=>k.block j (Nat.lt_of_lt_of_le (hC j hj) hl))) (Nat.le_trans hl k.size))
 clear ht hQ
 simp only [iv,strI]
 go_enter Tryz.func163,Tryz.ntmps163
 go_wp2_with (first
  | (go_at_call 170;refine (must_str _ _).mono ?_;rintro e w1 ⟨rfl,hw1⟩;subst hw1)
  | (go_at_call 208;refine Calls.mono HE.out ?_;rintro e w2 ⟨k2,v,rfl,ow⟩))
 go_ret
 exact ⟨k2,(86,v),_,rfl,row_holds ow,fun k hk=>.inr (.inr (ow.lt k hk).1)⟩
theorem with_join {C:Nat→Prop}{w0:World}{x:IV}{cl:List Bys} (hJ:JoinsStr) (hx:HoldsP (RowP (cl.map stV)) C w0 (x,none)) (hn:cl.length≤100000000) (hf:cl.flatten.length≤1000000000):WithG C w0 ⟨#[106,111,105,110]⟩ x (Just (strI ⟨#[]⟩,none)) (Just (strI ⟨cl.flatten.toArray⟩,none)):=by
 intro w s G hs hl hQ
 have e:s=(strI ⟨#[]⟩,none):=hQ.here
 subst e
 obtain ⟨_,r,e1,ow⟩:=hx.2 w hs hl
 simp only at e1
 subst e1
 rw [List.length_map] at ow
 have HE:Aside (Calls Tryz.prog 209 #[r,.string ⟨#[]⟩] w fun e w'=>e = .returned (.string ⟨cl.flatten.toArray⟩)∧Below w.heap.size w w'):=by
  obtain ⟨p,l,c,rfl⟩:=owns_shape ow
  have:l=cl.length:=by
   rcases ow.2 with ⟨e,h0⟩ | ⟨_,_,_,e,_⟩
   ·cases e;exact h0.symm
   ·cases e;rfl
  subst this
  exact join_ok hJ ow hn hf
 have HM:∀ w1,Calls Tryz.prog 154 #[.iface 86 r] w1 fun e w'=>e = .returned r∧w'=w1:=fun w1=>must_arr _ w1
 obtain ⟨R,hR⟩:∃ R:ByteArray,R=⟨cl.flatten.toArray⟩:=⟨_,rfl⟩
 rw [← hR] at HE ⊢
 clear hR ow hx hQ hf
 simp only [iv,strI]
 go_enter Tryz.func163,Tryz.ntmps163
 go_wp2_with (first
  | (go_at_call 154;refine (HM _).mono ?_;rintro e w1 ⟨rfl,hw1⟩;subst hw1)
  | (go_at_call 170;refine (must_str _ _).mono ?_;rintro e w1 ⟨rfl,hw1⟩;subst hw1)
  | (go_at_call 209;refine Calls.mono HE.out ?_;rintro e w2 ⟨rfl,k2⟩))
 go_ret
 exact ⟨k2,strI R,fun _=>False,rfl,just_holds _ _,fun _ h=>h.elim⟩
structure OnS (p C:Nat→Prop) (w:World) (kn:Option Addr):Prop where
 hC:∀ k,C k→k < w.heap.size
 hp:∀ k,p k→C k
 giv:GivenS p w kn
 amb:Amb C w
theorem OnS.next {p C G:Nat→Prop}{w w':World}{kn:Option Addr} (h:OnS p C w kn) (hs:SameOn C w w') (hl:w.heap.size≤w'.heap.size) (hG:∀ k,G k→k < w'.heap.size):OnS p (fun k=>C k∨G k) w' kn :=
 ⟨fun k hk=>hk.elim (fun h'=>Nat.lt_of_lt_of_le (h.hC k h') hl) (hG k),fun k hk=>.inl (h.hp k hk),h.giv.move (hs.mono h.hp),h.amb.next hs hl (fun _ h=>.inl h)⟩
theorem OnS.isNone {p C:Nat→Prop}{w:World}{kn:Option Addr} (h:OnS p C w kn) {name:ByteArray}{na:Int} (h1:noneOf sOthers name=true) (h2:(sMap.toList == name.toList)=false):FindIs C w 2 name na 8 kn none:=find_none h.hp h.giv.given h1 h2
theorem find_select {p C:Nat→Prop}{w:World}{kn:Option Addr} (h:OnS p C w kn):∃ sb ar,DefB p w sb sSelect sF selBody ar∧FindIs C w 2 sSelect 1 7 kn (some ⟨sb,0,none⟩)∧FindIs C w 2 ⟨#[101,109,112,116,121]⟩ 0 1 ar none:=by
 obtain ⟨mb,sb,h1,h2,h3⟩:=h.giv
 have h2':=h2
 obtain ⟨q1,_,_,_,_,_,hk,_⟩:=h2'
 obtain ⟨m1,_,_,_,_,_,hkm,_⟩:=h3
 exact ⟨sb,some ⟨mb,0,none⟩,h2,chain_find (n:=1) h.hp ⟨sb,2,sSelect,1,_,_,_,_,some ⟨mb,0,none⟩,rfl,h.hp sb q1,hk,.inl ⟨⟨rfl,rfl,rfl⟩,rfl⟩⟩ (by kernel_rfl) h1,⟨mb,2,sMap,1,_,_,_,_,none,rfl,h.hp mb m1,hkm,.inr ⟨.inr (.inl ⟨rfl,by kernel_rfl⟩),rfl,rfl⟩⟩⟩
def kindTest (T:Nat) (s:ByteArray):Bool:=decide (lexC (3 :: strC (kindN T).data.toList) (3 :: strC s.data.toList)=0)
theorem kind_object {T:Nat} (h:IsKind T):kindTest T sKObject=decide (T=102):=by
 rcases h with rfl | rfl | rfl | rfl | rfl | rfl <;> kernel_rfl
theorem kind_string {T:Nat} (h:IsKind T):kindTest T sKString=decide (T=100):=by
 rcases h with rfl | rfl | rfl | rfl | rfl | rfl <;> kernel_rfl
theorem Ev.str {p C:Nat→Prop}{w:World}{kn:Option Addr}{d:Int}{t:Tr}{s:Sp}{b:ByteArray} (h:Ev p C w kn d t s [Just (strI b,none)]):Ev p C w kn d t s [CodeP (3 :: strC b.data.toList)]:=h.to (fun G w s hP=>hP.to (fun w'=>just_code_str b w' s))
theorem ev_kind (hS:ComparesStr) {p C:Nat→Prop}{w:World}{kn:Option Addr}{d pos:Int}{x:IV}{s:ByteArray}{n:Nat} (hC:∀ k,C k→k < w.heap.size) (hp:∀ k,p k→C k) (hF:FindIs C w 2 ⟨#[116,121,112,101]⟩ 0 n kn none) (hT:IsKind x.1):Ev p C w kn d (.bin (.call0 ⟨#[116,121,112,101]⟩ pos) ⟨#[61,61]⟩ (.str s)) (x,none) [Just (boolW (kindTest x.1 s),none)] :=
 ev_bin1 plainly_eq hp (Ev.str (ev_alone hC hp hF notNamed_type notGiven_type (alone_type hT))) (Ev.str (ev_str hC hp)) (oper_code_eq hS)
def tSome (sK:ByteArray) (body:Tr) (pos:Int):Tr:=.bin (.collect (.bin (.each .ident) ⟨#[124]⟩ (.bin (.call1 sSelect (.bin (.call0 ⟨#[116,121,112,101]⟩ 14) ⟨#[61,61]⟩ (.str sK)) 7) ⟨#[124]⟩ body))) ⟨#[124]⟩ (tTail pos)
theorem flat_if {α:Type} (f:α→SP×List SP) (hf:∀ a,(f a).2=[BoolP true]∨(f a).2=[]):∀ l:List α,∃ m,m≤l.length∧(l.map f).flatMap (·.2)=List.replicate m (BoolP true)
 | []=>⟨0,Nat.le_refl _,rfl⟩
 | a :: l=>by
  obtain ⟨m,hm,e⟩:=flat_if f hf l
  rcases hf a with h | h
  ·exact ⟨m+1,by simp;omega,by rw [List.map_cons,List.flatMap_cons,e,h,List.replicate_succ];rfl⟩
  ·exact ⟨m,by simp;omega,by rw [List.map_cons,List.flatMap_cons,e,h];rfl⟩
theorem elP_kind {T:Nat}{c:Bys}{w:World}{s:Sp} (h:ElP T c w s):IsKind s.1.1∧s.1.1=T:=by
 obtain ⟨_,h1,_,d,P,hr⟩:=h
 exact ⟨repV_kind hr,h1⟩
theorem ev_some (hS:ComparesStr) (hSo:SortsV) (hL:LenNought) {p C:Nat→Prop}{w:World}{kn:Option Addr}{d pos:Int}{x:IV}{its:List (IV×Bys)}{K:Nat}{sK:ByteArray}{body:Tr} (hK:∀ T,IsKind T→kindTest T sK=decide (T=K)) (h:OnS p C w kn)
  (hx:HoldsP (ArrOf (its.map fun it=>ElP it.1.1 it.2)) C w (x,none)) (hn:its.length≤80000000) (hd0:0 < d) (hd1:d≤1000)
  (hb:∀ (c:Bys) (w':World) (C':Nat→Prop) (y:IV),OnS p C' w' kn→HoldsP (ElP K c) C' w' (y,none)→Ev p C' w' kn d body (y,none) [BoolP true]):Ev p C w kn d (tSome sK body pos) (x,none) [BoolP true]:=by
 obtain ⟨f,hf⟩:∃ f:IV×Bys→SP×List SP,f=fun it=>(ElP it.1.1 it.2,if it.1.1=K then [BoolP true] else []):=⟨_,rfl⟩
 obtain ⟨m,hm,em⟩:=flat_if f (fun a=>by rw [hf];by_cases e:a.1.1=K;exact .inl (if_pos e);exact .inr (if_neg e)) its
 have e1:(its.map f).map (·.1)=its.map fun it=>ElP it.1.1 it.2:=by rw [List.map_map,hf];rfl
 refine ev_pipe1 (P:=ArrOf (List.replicate m (BoolP true))) h.hp ?_ ?_
 ·rw [← em]
  refine ev_collect h.hp (ev_pipe h.hp ?_ ?_) (by rw [em,List.length_replicate];omega)
  ·rw [e1]
   refine ev_each h.hp (ev_ident h.hC hx (fun _ h=>h)) (fun P hP=>?_) (by rw [List.length_map];omega)
   obtain ⟨it,_,rfl⟩:=List.mem_map.1 hP
   exact NoPath.plainish (fun _ _ h=>h.1)
  ·intro y hy w' t G hs hl hP
   obtain ⟨it,_,rfl⟩:=List.mem_map.1 hy
   rw [hf] at hP ⊢
   simp only at hP ⊢
   have ht2:t.2=none:=hP.here.1
   obtain ⟨y,q⟩:=t
   simp only at ht2
   subst ht2
   have h':=h.next hs hl hP.1
   have hP':=hP.more (fun _ h=>.inr h) h'.hC
   obtain ⟨hk,hT⟩:=elP_kind hP.here
   simp only at hk hT
   obtain ⟨sb,ar,sD,sF',sE⟩:=find_select h'
   have hsel:=ev_select (pos:=7) (c:=kindTest y.1 sK) h'.hC h'.hp sF' sD sE hd0 hd1 hP' (fun w2 C2 hs2 _ hC2 hlt2=>ev_kind (pos:=14) (n:=8) (s:=sK) hS hlt2 (fun k hk=>hC2 k (h'.hp k hk)) (FindIs.move hs2 hC2 (h'.isNone (by kernel_rfl) (by kernel_rfl))) hk)
   rw [hK _ hk,hT] at hsel
   by_cases hTK:it.1.1=K
   ·rw [decide_eq_true hTK,if_pos rfl] at hsel
    rw [if_pos hTK]
    refine ev_pipe1 h'.hp hsel (fun w3 t3 G3 hs3 hl3 hP3=>?_)
    have ht3:t3.2=none:=hP3.here.1
    obtain ⟨y3,q3⟩:=t3
    simp only at ht3
    subst ht3
    have h3:=h'.next hs3 hl3 hP3.1
    rw [hTK] at hP3
    exact hb it.2 w3 _ y3 h3 (hP3.more (fun _ h=>.inr h) h3.hC)
   ·rw [decide_eq_false hTK] at hsel
    rw [if_neg hTK]
    exact ev_pipe (Lo:=[]) h'.hp hsel (fun y hy=>by cases hy)
 ·intro w' t G hs hl hP
  have ht2:t.2=none:=hP.here.1
  obtain ⟨y,q⟩:=t
  simp only at ht2
  subst ht2
  have h':=h.next hs hl hP.1
  exact ev_tailC hSo hL (n:=8) h'.hC h'.hp (fun C2 w2 hC2 hs2 _=>FindIs.move hs2 hC2 (h'.isNone (by kernel_rfl) (by kernel_rfl))) (hP.more (fun _ h=>.inr h) h'.hC) (by omega)
def tKeys:Tr:=.bin (.call0 ⟨#[107,101,121,115]⟩ 34) ⟨#[61,61]⟩ (.bin (.call0 ⟨#[107,101,121,115]⟩ 43) ⟨#[124]⟩ (.call0 ⟨#[115,111,114,116]⟩ 50))
theorem ev_keys (hS:ComparesStr) (hSo:SortsV) (hL:LenNought) {p C:Nat→Prop}{w:World}{kn:Option Addr}{d:Int}{x:IV}{c:Bys} (h:OnS p C w kn) (hx:HoldsP (ElP 102 c) C w (x,none)):Ev p C w kn d tKeys (x,none) [BoolP true]:=by
 obtain ⟨cs,hr,hn,hal⟩:=alone_keys hx
 have hk:∀ pos,Ev p C w kn d (.call0 ⟨#[107,101,121,115]⟩ pos) (x,none) [ArrC cs]:=fun pos=>ev_alone h.hC h.hp (h.isNone (by kernel_rfl) (by kernel_rfl)) notNamed_keys notGiven_keys hal
 refine ev_eqC hS h.hp (a:=4 :: listC cs) (hk 34).arr ?_
 refine (ev_pipe1 h.hp (hk 43) (fun w' t G hs hl hP=>?_)).arr
 have ht2:t.2=none:=hP.here.1
 obtain ⟨y,q⟩:=t
 simp only at ht2
 subst ht2
 have h':=h.next hs hl hP.1
 have:=ev_alone (p:=p) (d:=d) (pos:=50) h'.hC h'.hp (h'.isNone (by kernel_rfl) (by kernel_rfl)) notNamed_sort notGiven_sort (alone_sortC hSo hL (hP.more (fun _ h=>.inr h) h'.hC))
 rw [← sortC_only (List.Perm.refl cs) hr] at this
 exact this
theorem tO5_is:tO5=tSome sKObject tKeys 72:=rfl
theorem ev_O5 (hS:ComparesStr) (hSo:SortsV) (hL:LenNought) {p C:Nat→Prop}{w:World}{kn:Option Addr}{d:Int}{x:IV}{its:List (IV×Bys)} (h:OnS p C w kn) (hx:HoldsP (ArrOf (its.map fun it=>ElP it.1.1 it.2)) C w (x,none)) (hn:its.length≤80000000) (hd0:0 < d) (hd1:d≤1000):Ev p C w kn d tO5 (x,none) [BoolP true]:=by
 rw [tO5_is]
 exact ev_some hS hSo hL (fun T hT=>kind_object hT) h hx hn hd0 hd1 (fun c w' C' y h' hy=>ev_keys hS hSo hL h' hy)
theorem str_open {w:World}{P:Nat→Prop}{d:Nat}{x:IV}{c:Bys} (h:RepV w P d x c) (hT:x.1=100):∃ t:ByteArray,x=strI t∧t.size≤50000000∧UStr t.data.toList∧c=quoteL t.data.toList:=by
 have leaf:leafV x c→∃ t:ByteArray,x=strI t∧t.size≤50000000∧UStr t.data.toList∧c=quoteL t.data.toList:=fun h=>by
  rcases h with ⟨rfl,_⟩ | ⟨b,rfl,_⟩ | ⟨n,_,_,rfl,_⟩ | ⟨t,⟨h1,h2⟩,rfl,h3⟩
  ·simp at hT
  ·simp at hT
  ·simp at hT
  ·exact ⟨t,rfl,h1,h2,h3⟩
 cases d with
 | zero=>exact leaf h
 | succ d =>
  rcases h with h | ⟨r,its,rfl,_⟩ | ⟨r,ms,rfl,_⟩
  ·exact leaf h
  ·simp at hT
  ·simp at hT
theorem notNamed_explode:NotNamed ⟨#[101,120,112,108,111,100,101]⟩:=by refine ⟨?_,?_,?_,?_,?_⟩ <;> simp [go_sem]
theorem notGiven_explode:NotGiven ⟨#[101,120,112,108,111,100,101]⟩:=by refine ⟨?_,?_,?_⟩ <;> simp [go_sem]
theorem notNamed_implode:NotNamed ⟨#[105,109,112,108,111,100,101]⟩:=by refine ⟨?_,?_,?_,?_,?_⟩ <;> simp [go_sem]
theorem notGiven_implode:NotGiven ⟨#[105,109,112,108,111,100,101]⟩:=by refine ⟨?_,?_,?_⟩ <;> simp [go_sem]
theorem notNamed_tojson:NotNamed ⟨#[116,111,106,115,111,110]⟩:=by refine ⟨?_,?_,?_,?_,?_⟩ <;> simp [go_sem]
theorem notGiven_tojson:NotGiven ⟨#[116,111,106,115,111,110]⟩:=by refine ⟨?_,?_,?_⟩ <;> simp [go_sem]
theorem notNamed_fromjson:NotNamed ⟨#[102,114,111,109,106,115,111,110]⟩:=by refine ⟨?_,?_,?_,?_,?_⟩ <;> simp [go_sem]
theorem notGiven_fromjson:NotGiven ⟨#[102,114,111,109,106,115,111,110]⟩:=by refine ⟨?_,?_,?_⟩ <;> simp [go_sem]
theorem notNamed_split:NotNamed ⟨#[115,112,108,105,116]⟩:=by refine ⟨?_,?_,?_,?_,?_⟩ <;> simp [go_sem]
theorem notGiven_split:NotGiven ⟨#[115,112,108,105,116]⟩:=by refine ⟨?_,?_,?_⟩ <;> simp [go_sem]
theorem notNamed_join:NotNamed ⟨#[106,111,105,110]⟩:=by refine ⟨?_,?_,?_,?_,?_⟩ <;> simp [go_sem]
theorem notGiven_join:NotGiven ⟨#[106,111,105,110]⟩:=by refine ⟨?_,?_,?_⟩ <;> simp [go_sem]
def tWords:Tr:=.bin (.bin (.bin (.bin (.call0 ⟨#[101,120,112,108,111,100,101]⟩ 35) ⟨#[124]⟩ (.call0 ⟨#[105,109,112,108,111,100,101]⟩ 45)) ⟨#[61,61]⟩ .ident) ⟨#[97,110,100]⟩ (.bin (.bin (.call0 ⟨#[116,111,106,115,111,110]⟩ 64) ⟨#[124]⟩ (.call0 ⟨#[102,114,111,109,106,115,111,110]⟩ 73)) ⟨#[61,61]⟩ .ident)) ⟨#[97,110,100]⟩ (.bin (.bin (.call1 ⟨#[115,112,108,105,116]⟩ (.str ⟨#[]⟩) 93) ⟨#[124]⟩ (.call1 ⟨#[106,111,105,110]⟩ (.str ⟨#[]⟩) 105)) ⟨#[61,61]⟩ .ident)
theorem tO6_is:tO6=tSome sKString tWords 136:=rfl
theorem ev_words (hS:ComparesStr) (hA:AppendsRune) {p C:Nat→Prop}{w:World}{kn:Option Addr}{d:Int}{x:IV}{c:Bys} (h:OnS p C w kn) (hx:HoldsP (ElP 100 c) C w (x,none)):Ev p C w kn d tWords (x,none) [BoolP true]:=by
 obtain ⟨_,hT,hc,d0,P,hr⟩:=hx.here
 obtain ⟨t,rfl,hts,hu,rfl⟩:=str_open hr hT
 obtain ⟨cl,hcl,hch⟩:=hu
 have hu:UStr t.data.toList:=⟨cl,hcl,hch⟩
 have ht:t=⟨cl.flatten.toArray⟩:=by
  obtain ⟨⟨l⟩⟩:=t
  simp only at hcl
  rw [hcl]
 have hlen:cl.length≤t.size:=by
  have:=chunks_le cl hch
  rw [← hcl] at this
  exact this
 have hfl:cl.flatten.length=t.size:=by rw [← hcl];rfl
 have dot:Ev p C w kn d .ident (strI t,none) [CodeP (3 :: strC t.data.toList)]:=Ev.str (ev_ident h.hC (just_holds w _) (fun _ h=>h.elim))
 refine ev_and h.hp (ev_and h.hp ?_ ?_) ?_
 ·refine ev_eqC hS h.hp (Ev.str (ev_pipe1 h.hp (ev_alone h.hC h.hp (h.isNone (by kernel_rfl) (by kernel_rfl)) notNamed_explode notGiven_explode (alone_explode hcl hch (by omega))) (fun w' s G hs hl hP=>?_))) dot
  have ht2:s.2=none:=hP.here.1
  obtain ⟨y,q⟩:=s
  simp only at ht2
  subst ht2
  have h':=h.next hs hl hP.1
  have:=ev_alone (p:=p) (d:=d) (pos:=45) h'.hC h'.hp (h'.isNone (by kernel_rfl) (by kernel_rfl)) notNamed_implode notGiven_implode (alone_implode hA (hP.more (fun _ h=>.inr h) h'.hC) hch (by omega))
  rw [← ht] at this
  exact this
 ·refine ev_eqC hS h.hp (Ev.str (ev_pipe1 h.hp (ev_alone h.hC h.hp (h.isNone (by kernel_rfl) (by kernel_rfl)) notNamed_tojson notGiven_tojson (alone_tojson h.amb hts hu)) (fun w' s G hs hl hP=>?_))) dot
  have e:s=(strI ⟨(quoteL t.data.toList).toArray⟩,none):=hP.here
  subst e
  have h':=h.next hs hl hP.1
  exact ev_alone h'.hC h'.hp (h'.isNone (by kernel_rfl) (by kernel_rfl)) notNamed_fromjson notGiven_fromjson (alone_fromjson h'.amb hc hu)
 ·refine ev_eqC hS h.hp (Ev.str (ev_pipe1 h.hp (ev_with h.hp (h.isNone (by kernel_rfl) (by kernel_rfl)) notNamed_split notGiven_split (ev_str h.hC h.hp) (with_split h.amb h.hC ht hch (by omega))) (fun w' s G hs hl hP=>?_))) dot
  have ht2:s.2=none:=hP.here.1
  obtain ⟨y,q⟩:=s
  simp only at ht2
  subst ht2
  have h':=h.next hs hl hP.1
  have:=ev_with (p:=p) (d:=d) (pos:=105) h'.hp (h'.isNone (by kernel_rfl) (by kernel_rfl)) notNamed_join notGiven_join (ev_str h'.hC h'.hp) (with_join h.amb.join (hP.more (fun _ h=>.inr h) h'.hC) (by omega) (by omega))
  rw [← ht] at this
  exact this
theorem ev_O6 (hS:ComparesStr) (hA:AppendsRune) (hSo:SortsV) (hL:LenNought) {p C:Nat→Prop}{w:World}{kn:Option Addr}{d:Int}{x:IV}{its:List (IV×Bys)} (h:OnS p C w kn) (hx:HoldsP (ArrOf (its.map fun it=>ElP it.1.1 it.2)) C w (x,none)) (hn:its.length≤80000000) (hd0:0 < d) (hd1:d≤1000):Ev p C w kn d tO6 (x,none) [BoolP true]:=by
 rw [tO6_is]
 exact ev_some hS hSo hL (fun T hT=>kind_string hT) h hx hn hd0 hd1 (fun c w' C' y h' hy=>ev_words hS hA h' hy)
set_option maxRecDepth 100000
structure AsksO (w:World):Prop where
 asks:∀ w',SameOn (· < w.heap.size) w w'→w.heap.size≤w'.heap.size→Asks w'
 dec:∀ w',SameOn (· < w.heap.size) w w'→w.heap.size≤w'.heap.size→DecodesAt w'
 join:JoinsStr
 sorts:SortsV
 nought:LenNought
theorem AsksO.here {w:World} (h:AsksO w):Asks w:=h.asks w (SameOn.refl _ _) (Nat.le_refl _)
theorem AsksO.below {w w':World} (h:AsksO w) (k:Below w.heap.size w w'):AsksO w' :=
 ⟨fun w2 hs hl=>h.asks w2 ((fun j hj=>(hs j (Nat.lt_of_lt_of_le hj k.size)).trans (k.block j hj):SameOn (· < w.heap.size) w w2)) (Nat.le_trans k.size hl),fun w2 hs hl=>h.dec w2 ((fun j hj=>(hs j (Nat.lt_of_lt_of_le hj k.size)).trans (k.block j hj):SameOn (· < w.heap.size) w w2)) (Nat.le_trans k.size hl),h.join,h.sorts,h.nought⟩
theorem top_onS {n:Nat}{w0 w:World}{kn:Option Addr} (h:AsksO w0) (hs:SameOn (· < w0.heap.size) w0 w) (hl:w0.heap.size≤w.heap.size) (hg:GivenS (fun k=>n≤k∧k < w.heap.size) w kn) :
  OnS (fun k=>k < w0.heap.size∨n≤k∧k < w.heap.size) (fun k=>k < w0.heap.size∨n≤k∧k < w.heap.size) w kn :=
 ⟨fun k hk=>by rcases hk with h | h <;> omega,fun _ h=>h,hg.to (fun _ h _=>.inr h),⟨fun w' a b=>h.asks w' (hs.trans (a.mono (fun _ h=>.inl h))) (Nat.le_trans hl b),fun w' a b=>h.dec w' (hs.trans (a.mono (fun _ h=>.inl h))) (Nat.le_trans hl b),h.join⟩⟩
structure Items (w:World) (x:IV) (cs:List (List Int)) (its:List (IV×Bys)):Prop where
 cod:HoldsP (ArrC cs) (· < w.heap.size) w (x,none)
 els:HoldsP (ArrOf (its.map fun it=>ElP it.1.1 it.2)) (· < w.heap.size) w (x,none)
 len:cs.length=its.length
 max:its.length≤10000000
 src:∃ (d:Nat) (es:List En),es.map (·.1)=its.map (·.1)∧cs=es.map (·.2.1)∧(∀ t∈es,EncV w d t.2.2 t.1 t.2.1)∧∀ y∈its,RepV w (· < w.heap.size) d y.1 y.2
theorem allP_els {w:World}{P:Nat→Prop}{d:Nat}:∀ {its:List (IV×Bys)},(∀ y∈its,RepV w P d y.1 y.2)→(∀ y∈its,y.2.length≤10000000)→AllP (its.map fun it=>ElP it.1.1 it.2) w (its.map fun it=>(it.1,none))
 | [],_,_=>trivial
 | it :: its,h,hl=>⟨⟨rfl,rfl,hl it (by simp),d,P,h it (by simp)⟩,allP_els (fun y hy=>h y (by simp [hy])) (fun y hy=>hl y (by simp [hy]))⟩
theorem lens_sum (ts:List Bys):(ts.map List.length).sum+2≤(arrT ts).length:=by
 have h1:∀ (l:List Bys) (x:Bys),((x :: l).map List.length).sum≤(joinT (x :: l)).length:=fun l=>by
  induction l with
  | nil=>intro x;simp [joinT]
  | cons y l ih =>
   intro x
   have:=ih y
   rw [joinT,List.length_append,List.length_cons,List.map_cons,List.sum_cons]
   omega
 cases ts with
 | nil=>simp [arrT,joinT]
 | cons x l =>
  have:=h1 l x
  simp only [arrT,List.length_cons,List.length_append,List.length_nil]
  omega
theorem items_of {w:World}{x:IV}{ts:List Bys} (h:Vl w (· < w.heap.size) x (arrT ts)) (hl:(arrT ts).length≤10000000):∃ cs its,Items w x cs its∧arrT ts=arrT (its.map (·.2)):=by
 obtain ⟨d,h⟩:=h
 obtain ⟨r,its,d',rfl,ow,hp,hi,e⟩:=arr_of_rep h
 rw [e] at hl
 have hlen:∀ y∈its,y.2.length≤10000000:=fun y hy=>by
  have:=lens_item (ts:=its.map (·.2)) (t:=y.2) (List.mem_map.2 ⟨y,hy,rfl⟩)
  omega
 have hsum:=lens_sum (its.map (·.2))
 have hcount:=lens_count (its.map (·.2))
 rw [List.length_map] at hcount
 rw [List.map_map] at hsum
 obtain ⟨es,e1,e2,e3⟩:=all_codes (w:=w) (d:=d') (l:=its) (fun y hy=>enc_of_rep (hi y hy))
 have hel:es.length=its.length:=by have:=congrArg List.length e1;simpa using this
 have hrow:∀ w',SameOn (· < w.heap.size) w w'→w'.ownsRow 0 32 1 r its.length (its.map itC):=fun w' hs=>owns_same ow (fun g hg=>hs g (hp g hg))
 have hkeep:∀ w',SameOn (· < w.heap.size) w w'→KeptV w w':=fun w' hs k c fz e=>hs k (by rcases e with e | e <;> exact lt_of_block e)
 refine ⟨es.map (·.2.1),its,⟨⟨fun _ h=>h,fun w' hs _=>⟨rfl,r,es,rfl,?_,?_,rfl,?_⟩⟩,⟨fun _ h=>h,fun w' hs _=>⟨rfl,r,its.map fun it=>(it.1,none),rfl,?_,?_⟩⟩,by rw [List.length_map];exact hel,by omega,d',es,e1,rfl,e3,hi⟩,e⟩
 ·have:=hrow w' hs
  rw [hel,show es.map enV=its.map itC by rw [enV_map,e1,List.map_map];rfl]
  exact this
 ·intro t ht
  refine ⟨d',(e3 t ht).keep (hkeep w' hs),?_⟩
  have:t.2.2∈its.map (fun x=>x.2.length):=by rw [← e2];exact List.mem_map.2 ⟨t,ht,rfl⟩
  obtain ⟨y,hy,hq⟩:=List.mem_map.1 this
  have:=hlen y hy
  omega
 ·rw [e2]
  have:(its.map (fun x=>x.2.length)).sum=(its.map (List.length ∘ fun x=>x.2)).sum:=rfl
  omega
 ·rw [List.length_map,List.map_map]
  exact hrow w' hs
 ·refine allP_els (d:=d') (P:=(· < w.heap.size)) (fun y hy=>(hi y hy).mono (fun g hg=>⟨hg,hs g hg⟩)) hlen
theorem topO_of {w:World} (h:AsksO w) {t:Tr}{ts:List Bys} (hl:(arrT ts).length≤10000000) (hE:∀ (p C:Nat→Prop) (w:World) (kn:Option Addr) (x:IV) (cs:List (List Int)) (its:List (IV×Bys)),OnS p C w kn→HoldsP (ArrC cs) C w (x,none)→HoldsP (ArrOf (its.map fun it=>ElP it.1.1 it.2)) C w (x,none)→cs.length=its.length→its.length≤10000000→Ev p C w kn 50 t (x,none) [BoolP true]):TopIs w t (arrT ts) [BoolP true]:=by
 intro w0 v x k hv hr
 have h0:=h.below k
 obtain ⟨cs,its,hI,_⟩:=items_of hv hl
 intro n w1 kn hs hB hn hg
 have hl1:=Nat.le_trans hB hn
 have hO:=top_onS h0 hs hl1 hg
 have hc1:=(hI.cod.move hs hl1).more (G':=fun k=>k < w0.heap.size∨n≤k∧k < w1.heap.size) (fun _ h=>.inl h) hO.hC
 have he1:=(hI.els.move hs hl1).more (G':=fun k=>k < w0.heap.size∨n≤k∧k < w1.heap.size) (fun _ h=>.inl h) hO.hC
 exact ((hE _ _ _ _ _ _ _ hO hc1 he1 hI.len hI.max).2 v ((hr.same hs).to (fun b o u hb hu=>⟨.inl hb,hu⟩))).2 w1 (SameOn.refl _ _) (Nat.le_refl _)
theorem OnS.onC {p C:Nat→Prop}{w:World}{kn:Option Addr}{x:IV}{cs:List (List Int)} (h:OnS p C w kn) (hx:HoldsP (ArrC cs) C w (x,none)) (hn:cs.length≤90000000):OnC p C w kn x cs:=⟨h.hC,h.hp,h.giv.given,hx,hn⟩
theorem enc_num {w:World}{d n:Nat}{k:Int}{c:List Int} (h:EncV w d n (numI k) c):c=[2,k]:=by
 have leaf:LeafC (numI k) c→c=[2,k]:=fun h=>by
  rcases h with ⟨e,_⟩ | ⟨b,e,_⟩ | ⟨m,e,ec⟩ | ⟨t,e,_⟩
  ·simp [numI] at e
  ·simp [numI] at e
  ·simp only [numI,Prod.mk.injEq,Value.int.injEq,true_and] at e
   rw [ec,e]
  ·simp [numI] at e
 cases d with
 | zero=>exact leaf h.2
 | succ d =>
  rcases h with h | ⟨r,ts,e,_⟩ | ⟨r,ts,e,_⟩
  ·exact leaf h.2
  ·simp [numI] at e
  ·simp [numI] at e
theorem num_enc {w:World}{d n:Nat}{x:IV}{k:Int} (h:EncV w d n x [2,k]):x=numI k:=by
 have leaf:LeafC x [2,k]→x=numI k:=fun h=>by
  rcases h with ⟨_,e⟩ | ⟨b,_,e⟩ | ⟨m,e,ec⟩ | ⟨t,_,e⟩
  ·simp at e
  ·simp at e
  ·simp only [List.cons.injEq,true_and,and_true] at ec
   rw [e,ec]
   rfl
  ·simp at e
 cases d with
 | zero=>exact leaf h.2
 | succ d =>
  rcases h with h | ⟨r,ts,_,_,_,_,e⟩ | ⟨r,ts,_,_,_,_,e⟩
  ·exact leaf h.2
  ·simp at e
  ·simp at e
theorem rep_num {w:World}{P:Nat→Prop}{d:Nat}{x:IV}{b:UInt8}{l:Bys} (h:RepV w P d x (b :: l)) (hb:48≤b.toNat∧b.toNat≤57):∃ n:Int,0≤n∧x=numI n∧b :: l=Lib.decDigits n.toNat:=by
 have leaf:leafV x (b :: l)→∃ n:Int,0≤n∧x=numI n∧b :: l=Lib.decDigits n.toNat:=fun h=>by
  rcases h with ⟨_,e⟩ | ⟨q,_,e⟩ | ⟨n,_,_,e1,e⟩ | ⟨t,_,_,e⟩
  ·simp only [List.cons.injEq] at e
   rw [e.1] at hb
   exact absurd hb (by decide)
  ·cases q <;> simp only [boolT,if_true,if_false,Bool.false_eq_true,List.cons.injEq] at e <;> (rw [e.1] at hb;exact absurd hb (by decide))
  ·by_cases hneg:n < 0
   ·rw [Lib.itoa,if_pos hneg] at e
    simp only [List.cons.injEq] at e
    rw [e.1] at hb
    exact absurd hb (by decide)
   ·rw [Lib.itoa,if_neg hneg] at e
    exact ⟨n,by omega,e1,e⟩
  ·simp only [quoteL,List.cons.injEq] at e
   rw [e.1] at hb
   exact absurd hb (by decide)
 cases d with
 | zero=>exact leaf h
 | succ d =>
  rcases h with h | ⟨r,its,_,_,_,_,e⟩ | ⟨r,ms,_,_,_,_,e,_⟩
  ·exact leaf h
  ·simp only [arrT,List.cons.injEq] at e
   rw [e.1] at hb
   exact absurd hb (by decide)
  ·simp only [objT,List.cons.injEq] at e
   rw [e.1] at hb
   exact absurd hb (by decide)
theorem rep_digit {w:World}{P:Nat→Prop}{d:Nat}{x:IV}{k:Nat} (h:RepV w P d x [UInt8.ofNat (48+k)]) (hk:k < 10):x=numI k:=by
 have hb:(UInt8.ofNat (48+k)).toNat=48+k:=by rw [UInt8.toNat_ofNat'];omega
 obtain ⟨n,h0,e1,e2⟩:=rep_num h (by omega)
 have e3:n.toNat=k:=by
  by_cases h10:n.toNat < 10
  ·rw [dec_small h10] at e2
   simp only [List.cons.injEq,and_true] at e2
   have e4:=congrArg UInt8.toNat e2
   rw [hb,UInt8.toNat_ofNat'] at e4
   omega
  ·rw [dec_big h10] at e2
   have e4:=congrArg List.length e2
   have e5:=List.length_pos_iff.2 (dec_ne (n.toNat / 10))
   rw [List.length_append,List.length_singleton,List.length_singleton] at e4
   omega
 rw [e1,← e3]
 congr 1
 omega
def sTwo:ByteArray:=⟨#[91,50,44,49,93]⟩
def sTwoS:ByteArray:=⟨#[91,49,44,50,93]⟩
theorem read_two:readL sTwo=(some [91,50,44,49,93],5):=by decide +kernel
theorem join_two {w:World}{P:Nat→Prop}{d:Nat}{its:List (IV×Bys)} (hi:∀ y∈its,RepV w P d y.1 y.2) (h:joinT (its.map (·.2))=[50,44,49]):its.map (·.2)=[[50],[49]]:=by
 match its,hi,h with
 | [],_,h=>simp [joinT] at h
 | [a],hi,h =>
  have e:a.2=[50,44,49]:=h
  have hr:=hi a (by simp)
  rw [e] at hr
  obtain ⟨n,_,_,e2⟩:=rep_num hr (by decide)
  have:=dec_all n.toNat 44 (by rw [← e2];simp)
  simp at this
 | a :: b :: r,hi,h =>
  simp only [List.map_cons,joinT] at h
  have one:∀ (t:Bys) (q:Bys),t ++ 44 :: q=[50,44,49]→t=[50]∧q=[49]:=fun t q e=>by
   match t,e with
   | [],e=>simp at e
   | [x],e=>simp at e;exact ⟨by rw [e.1],e.2⟩
   | [x,y],e=>simp at e
   | [x,y,z],e=>simp at e
   | x :: y :: z :: u :: v,e=>simp at e
  obtain ⟨h1,h2⟩:=one _ _ h
  match r,h2 with
  | [],h2 =>
   have:b.2=[49]:=h2
   simp [h1,this]
  | c :: r,h2 =>
   simp only [List.map_cons,joinT] at h2
   match hb:b.2,h2 with
   | [],h2=>simp at h2
   | [x],h2=>simp at h2
   | x :: y :: v,h2=>simp at h2
theorem sort_two:sortC [[2,2],[2,1]]=[[2,1],[2,2]]:=(sortC_only (ds:=[[2,1],[2,2]]) (List.Perm.swap _ _ _) (by decide)).symm
theorem text_two {w:World} (h:Asks w):TextIs w (ArrC [[2,1],[2,2]]) sTwoS:=by
 intro w' s G k hP
 obtain ⟨h1,r,ts,h2,ow,hc,hm,_⟩:=hP.here
 refine ⟨h1,?_⟩
 match ts,ow,hc,hm with
 | [a,b],ow,hc,hm =>
  simp only [List.map_cons,List.map_nil,List.cons.injEq,and_true] at hm
  obtain ⟨_,ha,_⟩:=hc a (by simp)
  obtain ⟨_,hb,_⟩:=hc b (by simp)
  rw [hm.1] at ha
  rw [hm.2] at hb
  have ea:=num_enc ha
  have eb:=num_enc hb
  rw [h2]
  have hv:Vl w' (· < w'.heap.size) (86,r) (arrT ([(a.1,[49]),(b.1,[50])].map (·.2))):=by
   refine Vl.arr (N:=0) ow (row_lt ow) ?_
   intro x hx
   simp only [List.mem_cons,List.not_mem_nil,or_false] at hx
   rcases hx with rfl | rfl
   ·exact Vl.leaf (.inr (.inr (.inl ⟨1,by decide,by decide,ea,show [49]=Lib.itoa 1 by decide +kernel⟩)))
   ·exact Vl.leaf (.inr (.inr (.inl ⟨2,by decide,by decide,eb,show [50]=Lib.itoa 2 by decide +kernel⟩)))
  exact canon_at (c:=[91,49,44,50,93]) (h.below k) hv (by decide) (by simp)
 | [],_,_,hm=>simp at hm
 | [_],_,_,hm=>simp at hm
 | _ :: _ :: _ :: _,_,_,hm=>simp at hm
theorem top_two {w:World} (h:AsksO w):TopIs w tO1 [91,50,44,49,93] [ArrC [[2,1],[2,2]]]:=by
 intro w0 v x k hv hr
 have h0:=h.below k
 obtain ⟨cs,its,hI,e⟩:=items_of (ts:=[[50],[49]]) hv (by decide)
 obtain ⟨d,es,e1,e2,e3,e4⟩:=hI.src
 have e5:joinT (its.map (·.2))=[50,44,49]:=by
  simp only [arrT,List.cons.injEq,true_and] at e
  exact (List.append_cancel_right e).symm
 have e6:=join_two e4 e5
 have hcs:cs=[[2,2],[2,1]]:=by
  match its,e6,e4,e1 with
  | [a,b],e6,e4,e1 =>
   simp only [List.map_cons,List.map_nil,List.cons.injEq,and_true] at e6
   have ra:=e4 a (by simp)
   have rb:=e4 b (by simp)
   rw [e6.1] at ra
   rw [e6.2] at rb
   have ea:a.1=numI 2:=rep_digit (k:=2) ra (by decide)
   have eb:b.1=numI 1:=rep_digit (k:=1) rb (by decide)
   match es,e1,e3,e2 with
   | [u,v],e1,e3,e2 =>
    simp only [List.map_cons,List.map_nil,List.cons.injEq,and_true] at e1
    have hu:=e3 u (by simp)
    have hv:=e3 v (by simp)
    rw [e1.1,ea] at hu
    rw [e1.2,eb] at hv
    rw [e2,List.map_cons,List.map_cons,List.map_nil,enc_num hu,enc_num hv]
   | [],e1,_,_=>simp at e1
   | [_],e1,_,_=>simp at e1
   | _ :: _ :: _ :: _,e1,_,_=>simp at e1
  | [],e6,_,_=>simp at e6
  | [_],e6,_,_=>simp at e6
  | _ :: _ :: _ :: _,e6,_,_=>simp at e6
 subst hcs
 intro n w1 kn hs hB hn hg
 have hl1:=Nat.le_trans hB hn
 have hO:=top_onS h0 hs hl1 hg
 have hc1:=(hI.cod.move hs hl1).more (G':=fun k=>k < w0.heap.size∨n≤k∧k < w1.heap.size) (fun _ h=>.inl h) hO.hC
 have hE:=ev_sort (d:=50) (pos:=0) h.sorts h.nought (hO.onC hc1 (by decide))
 rw [sort_two] at hE
 exact (hE.2 v ((hr.same hs).to (fun b o u hb hu=>⟨.inl hb,hu⟩))).2 w1 (SameOn.refl _ _) (Nat.le_refl _)
theorem gives_of {w:World}{f s out:ByteArray} (hrun:Calls Tryz.prog 6 #[.string f,.string s,.int .i64 2,.int .i64 50] w fun e w'=>Below w.heap.size w w'∧∃ g cap,e = .returned (resV 0 (.slice (some ⟨g,0,none⟩) 1 cap) ⟨#[]⟩)∧w'.cell? ⟨g,0,none⟩=some (.string out)) :
  Calls Tryz.prog 4 #[.string f,.string s,.string out] w fun e w'=>e = .returned (.bool true)∧Below w.heap.size w w':=by
 have HRUN:Aside _:=hrun
 clear hrun
 go_enter Tryz.func4,Tryz.ntmps4
 go_wp2_with (go_at_call 6;refine Calls.mono HRUN.out ?_;rintro e w1 ⟨k1,g,c,rfl,cA⟩;simp only [resV];have hgl:g < w1.heap.size:=lt_cell cA)
 go_ret
 exact ⟨rfl,k1.alloc k1.size _⟩
theorem gives_two {w:World} (h:AsksO w):Calls Tryz.prog 4 #[.string fO1,.string sTwo,.string sTwoS] w fun e w'=>e = .returned (.bool true)∧Below w.heap.size w w' :=
 gives_of (run_oneg h.here readsO1 (by decide) (by decide) read_two (top_two h) (text_two h.here))
def fFive:List ByteArray:=[fO2,fO3,fO4,fO5,fO6]
theorem gives_five {w:World} (h:AsksO w) {s:ByteArray}{ts:List Bys}{p:Nat} (hm:s.size≤10000000) (hr:readL s=(some (arrT ts),p)) (hl:(arrT ts).length≤10000000):∀ f∈fFive,Calls Tryz.prog 4 #[.string f,.string s,.string sTrue] w fun e w'=>e = .returned (.bool true)∧Below w.heap.size w w':=by
 intro f hf
 have hc:=h.here.cmp
 have ha:=h.here.rune
 have hs:=h.sorts
 have hn:=h.nought
 simp only [fFive,List.mem_cons,List.not_mem_nil,or_false] at hf
 rcases hf with rfl | rfl | rfl | rfl | rfl
 ·exact gives_of (run_oneg h.here readsO2 (by decide) hm hr (topO_of h hl (fun p C w kn x cs its a b _ e q=>ev_O2 hc hs hn (a.onC b (by omega)) (by omega))) (text_true h.here))
 ·exact gives_of (run_oneg h.here readsO3 (by decide) hm hr (topO_of h hl (fun p C w kn x cs its a b _ e q=>ev_O3 hc hs hn (a.onC b (by omega)))) (text_true h.here))
 ·exact gives_of (run_oneg h.here readsO4 (by decide) hm hr (topO_of h hl (fun p C w kn x cs its a b _ e q=>ev_O4 hc (a.onC b (by omega)))) (text_true h.here))
 ·exact gives_of (run_oneg h.here readsO5 (by decide) hm hr (topO_of h hl (fun p C w kn x cs its a _ b e q=>ev_O5 hc hs hn a b (by omega) (by decide) (by decide))) (text_true h.here))
 ·exact gives_of (run_oneg h.here readsO6 (by decide) hm hr (topO_of h hl (fun p C w kn x cs its a _ b e q=>ev_O6 hc ha hs hn a b (by omega) (by decide) (by decide))) (text_true h.here))
def inArr (s:ByteArray):ByteArray:=⟨#[91]⟩ ++ s ++ ⟨#[93]⟩
theorem inArr_size (s:ByteArray):(inArr s).size=s.size+2:=by
 unfold inArr
 rw [ByteArray.size_append,ByteArray.size_append]
 show 1+s.size+1=s.size+2
 omega
theorem inArr_first (s:ByteArray):byteAt (inArr s) 0=91:=by
 unfold inArr byteAt
 simp [ByteArray.data_append]
theorem Ordered_none {w:World} (h:AsksO w) {s:ByteArray}{p:Nat} (hm:s.size≤1600000) (hr:readL (inArr s)=(none,p)) :
  Calls Tryz.prog 3 #[.string s] w fun e w'=>e = .returned (.bool true)∧Below w.heap.size w w':=by
 have hz:=inArr_size s
 have g0:=gives_two h
 have g1:∀ w1,Below w.heap.size w w1→_:=fun w1 k=>Canon_none (h.here.below k) (by omega) hr
 have G0:Aside _:=g0
 have G1:Aside _:=g1
 clear g0 g1 h hr hz
 go_enter Tryz.func3,Tryz.ntmps3
 go_wp2_with (go_at_call 4;refine Calls.mono G0.out ?_;rintro e w1 ⟨rfl,k1⟩)
 refine Calls.mono (G1.out w1 k1) ?_
 rintro e w2 ⟨rfl,k2⟩
 have kB:Below w.heap.size w w2:=k1.trans (k2.mono k1.size)
 go_wp2_with fail
 go_ret
 exact ⟨rfl,kB⟩
theorem Ordered_some {w:World} (h:AsksO w) {s:ByteArray}{ts:List Bys}{p:Nat} (hm:s.size≤1600000) (hr:readL (inArr s)=(some (arrT ts),p)) :
  Calls Tryz.prog 3 #[.string s] w fun e w'=>e = .returned (.bool true)∧Below w.heap.size w w':=by
 have hz:=inArr_size s
 have hlen:(arrT ts).length≤10000000:=by
  have:=(read_in hr).2
  omega
 have htw:=read_twice hr
 have g0:=gives_two h
 have g1:∀ w1,Below w.heap.size w w1→_:=fun w1 k=>Canon_some (h.here.below k) (by omega) hr
 obtain ⟨out,hout⟩:∃ out:ByteArray,(⟨(arrT ts).toArray⟩:ByteArray)=out:=⟨_,rfl⟩
 have hso:out.size≤10000000:=by
  rw [← hout]
  simp only [ByteArray.size,List.size_toArray]
  exact hlen
 simp only [hout] at g1 htw
 have R:Aside (∀ w1,Below w.heap.size w w1→∀ f∈fFive,Calls Tryz.prog 4 #[.string f,.string out,.string sTrue] w1 fun e w'=>e = .returned (.bool true)∧Below w1.heap.size w1 w'):=fun w1 k=>gives_five (h.below k) hso htw hlen
 have G0:Aside _:=g0
 have G1:Aside _:=g1
 clear g0 g1 h hr hout htw hso hlen hz
 go_enter Tryz.func3,Tryz.ntmps3
 go_wp2_with (go_at_call 4;refine Calls.mono G0.out ?_;rintro e w1 ⟨rfl,k1⟩)
 refine Calls.mono (G1.out w1 k1) ?_
 rintro e w2 ⟨rfl,k2⟩
 have kB:Below w.heap.size w w2:=k1.trans (k2.mono k1.size)
 go_wp2_with fail
 refine Calls.mono (R.out w2 kB fO2 (by simp [fFive])) ?_
 rintro e w3 ⟨rfl,k3⟩
 have kC:=kB.trans (k3.mono kB.size)
 go_wp2_with fail
 refine Calls.mono (R.out w3 kC fO3 (by simp [fFive])) ?_
 rintro e w4 ⟨rfl,k4⟩
 have kD:=kC.trans (k4.mono kC.size)
 go_wp2_with fail
 refine Calls.mono (R.out w4 kD fO4 (by simp [fFive])) ?_
 rintro e w5 ⟨rfl,k5⟩
 have kE:=kD.trans (k5.mono kD.size)
 go_wp2_with fail
 refine Calls.mono (R.out w5 kE fO5 (by simp [fFive])) ?_
 rintro e w6 ⟨rfl,k6⟩
 have kF:=kE.trans (k6.mono kE.size)
 go_wp2_with fail
 refine Calls.mono (R.out w6 kF fO6 (by simp [fFive])) ?_
 rintro e w7 ⟨rfl,k7⟩
 have kG:=kF.trans (k7.mono kF.size)
 go_wp2_with fail
 go_ret
 exact ⟨rfl,kG⟩
theorem Ordered_ok {w:World} (h:AsksO w) {s:ByteArray} (hm:s.size≤1600000) :
  Calls Tryz.prog 3 #[.string s] w fun e w'=>e = .returned (.bool true)∧Below w.heap.size w w':=by
 cases hr:readL (inArr s) with
 | mk o p =>
  cases o with
  | none=>exact Ordered_none h hm hr
  | some c =>
   obtain ⟨ts,rfl⟩:=read_arr (inArr_first s) hr
   exact Ordered_some h hm hr
theorem len_nought {ρ:Go.Shelf.Ren} (L:SlLaysF.n14 Tryz.prog ρ) (h15:ρ.f 15=292):LenNought:=by
 intro w
 have hl:=Any.bits_Len (SlLaysF0.n15.bits (P:=Tryz.prog) (ρ:=ρ) { L with }) (0:Int) w (by omega) (by omega)
 rw [show ρ.viaSlsf.f 125=ρ.f 15 from rfl,h15] at hl
 exact hl.mono fun e w' ⟨h1,h2⟩=>⟨⟨_,h1⟩,h2⟩
theorem same_var {n:String}{g:Nat}{w w':World}{cs:Array Value} (hs:SameOn (· < w.heap.size) w w') (hg:Tryz.prog.globalNamed n=some g) (hl:g < w.heap.size) (h:w.var? Tryz.prog n=some cs):w'.var? Tryz.prog n=some cs:=by
 have e:=hs g hl
 simp only [World.var?,hg] at h ⊢
 first
  | (rw [e];exact h)
  | (simp only [Option.bind_some] at h ⊢;rw [e];exact h)
end Go.Proofs.Tryz
