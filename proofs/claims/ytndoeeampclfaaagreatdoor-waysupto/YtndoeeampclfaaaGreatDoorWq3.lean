import Derived.Test.YtndoeeampclfaaaGreatDoorWp1
set_option linter.all false
namespace Go.Proofs.Tryz
set_option maxHeartbeats 16000000
open Go.RowKit
set_option maxRecDepth 10000
theorem ChainOn.to {p q:Nat→Prop}{w:World}{base:Option Addr} (hq:∀ k,p k→k < w.heap.size→q k):∀ {es:List (ByteArray×Int)}{kn:Option Addr},ChainOn p w base es kn→ChainOn q w base es kn
 | [],_,h=>h
 | e :: es,kn,⟨b,db,around,h1,h2,h3,h4⟩=>⟨b,db,around,h1,hq b h2 h3.lt,h3,ChainOn.to hq h4⟩
theorem GivenC.to {p q:Nat→Prop}{w:World}{kn:Option Addr} (h:GivenC p w kn) (hq:∀ k,p k→k < w.heap.size→q k):GivenC q w kn:=by
 obtain ⟨mb,h1,h2,db,pd,po,pc,x,h3,h4,h5,h6,h7,h8,h9⟩:=h
 exact ⟨mb,h1.to hq,hq mb h2 h3.lt,db,pd,po,pc,x,h3,hq db h4 (lt_cell h6),hq pd h5 (lt_cell h7),h6,h7,h8,h9.to (fun b o u hb hu=>⟨hq b hb (cell_lt hu),hu⟩)⟩
def OpenTop (B:Nat) (w0:World) (v:Value) (x:IV) (Ls:List SP):Prop:=∀ (n:Nat) (w:World) (kn:Option Addr),SameOn (· < B) w0 w→B≤n→n≤w.heap.size→GivenC (fun k=>n≤k∧k < w.heap.size) w kn→
 Calls Tryz.prog 22 #[.agg #[.pointer kn,.int .i64 50],v,.agg #[iv x,.pointer none]] w (MadeC Ls (fun k=>k < B∨n≤k∧k < w.heap.size) w)
theorem top_low {B n:Nat}{Ls:List SP}{w wo w':World}{e:Ending} (h:MadeC Ls (fun k=>k < B∨n≤k∧k < wo.heap.size) wo e w') (hk:Below w.heap.size w wo) (hn:w.heap.size≤n):MadeC Ls (· < B) w e w':=by
 obtain ⟨k,K,cap,rfl,hM⟩:=h
 exact ⟨hk.trans (k.mono hk.size),K,cap,rfl,hM.low hk.size (fun k hk=>by rcases hk with h | h;exact .inl h;exact .inr (by omega))⟩
theorem start1_50g (hI:ParsesInt) {B db fb ib:Nat}{w0 w:World}{T T1 b1:Nat}{u:Value}{Ls:List SP} (hd:Box w db (.int .i64 50) 3) (hf:Box w fb (.iface T1 (.pointer (some ⟨b1,0,none⟩))) 37) (hi:Box w ib (.iface T u) 32) (hO:OpenTop B w0 (.iface T1 (.pointer (some ⟨b1,0,none⟩))) (T,u) Ls) (hS:SignsIn w0) (hg:0 < B) (hs:SameOn (· < B) w0 w) (hB:B≤w.heap.size) :
    Calls Tryz.prog 20 #[.pointer (some ⟨db,0,none⟩),.pointer (some ⟨fb,0,none⟩),.pointer (some ⟨ib,0,none⟩)] w (MadeC Ls (· < B) w):=by
  have d0:=hd.cell
  have hdl:=hd.lt
  have f0:=hf.cell
  have i0:=hi.cell
  have HO:Aside (∀ (n:Nat) (w:World) (kn:Option Addr),SameOn (· < B) w0 w→B≤n→n≤w.heap.size→GivenC (fun k=>n≤k∧k < w.heap.size) w kn→Calls Tryz.prog 22 #[.agg #[.pointer kn,.int .i64 50],.iface T1 (.pointer (some ⟨b1,0,none⟩)),.agg #[.iface T u,.pointer none]] w (MadeC Ls (fun k=>k < B∨n≤k∧k < w.heap.size) w)):=hO
  clear hO
  have hfl:=hf.lt
  have hil:=hi.lt
  have hG2:∀ w',Below w.heap.size w w'→Calls Tryz.prog 21 #[] w' fun e w''=>∃ kn,e = .returned (.pointer kn)∧Below w'.heap.size w' w''∧w''.cell? ⟨db,0,none⟩=some (.int .i64 50)∧Below w.heap.size w w''∧w''.cell? ⟨fb,0,none⟩=some (.iface T1 (.pointer (some ⟨b1,0,none⟩)))∧w''.cell? ⟨ib,0,none⟩=some (.iface T u)∧fb < w''.heap.size∧ib < w''.heap.size∧Aside (GivenC (fun k=>w'.heap.size≤k∧k < w''.heap.size) w'' kn):=by
    intro w' kW
    refine (given_ok2 hI _ (hS.same (hs.trans (fun k hk=>kW.block k (Nat.lt_of_lt_of_le hk hB))) hg (Nat.le_trans hB kW.size))).mono ?_
    rintro e w1 ⟨kn,rfl,k1,hgv⟩
    have kY:=kW.trans (k1.mono kW.size)
    exact ⟨kn,rfl,k1,(kY.cell (p:=⟨db,0,none⟩) hd.lt).trans d0,kY,(kY.cell (p:=⟨fb,0,none⟩) hfl).trans f0,(kY.cell (p:=⟨ib,0,none⟩) hil).trans i0,Nat.lt_of_lt_of_le hfl kY.size,Nat.lt_of_lt_of_le hil kY.size,hgv.to (fun k a b=>⟨a,b⟩)⟩
  have nf1:¬ w.heap.size=fb:=by omega
  have nf2:¬ fb=w.heap.size:=by omega
  have ni1:¬ w.heap.size=ib:=by omega
  have ni2:¬ ib=w.heap.size:=by omega
  go_enter Tryz.func20,Tryz.ntmps20
  go_wp2_with fail
  go_region_held3 (fun w'=>w'.cell? ⟨db,0,none⟩=some (.int .i64 50)) (first | exact e4 | exact keep2 hdl e4 | go_keep)
    (first
      | (go_at_call 21;refine (hG2 _ (by first | exact (Below.refl _ _).drew | exact (Below.refl _ _).drew.alloc (by simp) _)).mono ?_;rintro e w1 ⟨kn,rfl,kX,e4,kY,f1,i1,fl,il,HGV⟩;first | (have q:PlaceBox w1 w.heap.size none 0:=PlaceBox.same (heap_new w.drew _) (kX.block _ (by simp));obtain ⟨q0,q1,q2,q3,q4⟩:=q.facts) | skip))
  all_goals first
    | (go_wp2_with (go_at_call 22;refine (HO.out w.heap.size _ kn (hs.trans (fun k hk=>(kY.alloc kY.size _).block k (Nat.lt_of_lt_of_le hk hB))) hB (by have:=kY.size;simp;omega) ((HGV.out.move (fun k hk=>(below_alloc w1 _).block k hk.2)).to (fun k hk _=>⟨hk.1,by have:=hk.2;simp;omega⟩))).mono ?_;rintro e w2 hM;have hM2:=top_low (w:=w) hM (kY.alloc kY.size _) (Nat.le_refl _);clear hM;obtain ⟨k2,K,cap,rfl,hQ⟩:=hM2)
       go_ret
       exact ⟨k2,K,cap,rfl,hQ⟩)
    | (go_wp2_with (go_at_call 22;refine (HO.out (w.heap.size+1) _ kn (hs.trans (fun k hk=>((kY.setCell (p:=⟨w.heap.size,0,none⟩) (Nat.le_refl _) _).setCell (p:=⟨w.heap.size,1,none⟩) (Nat.le_refl _) _).block k (Nat.lt_of_lt_of_le hk hB))) (by omega) (by have:=kX.size;simpa using this) ((HGV.out.move (fun k hk=>by have:=hk.1;simp at this;rw [Below.heap_setCell _ _ _ _ (by simp;omega),Below.heap_setCell _ _ _ _ (by simp;omega)])).to (fun k hk _=>⟨by simpa using hk.1,by simpa using hk.2⟩))).mono ?_;rintro e w2 hM;have hM2:=top_low (w:=w) hM ((kY.setCell (p:=⟨w.heap.size,0,none⟩) (Nat.le_refl _) _).setCell (p:=⟨w.heap.size,1,none⟩) (Nat.le_refl _) _) (by omega);clear hM;obtain ⟨k2,K,cap,rfl,hQ⟩:=hM2)
       go_ret
       exact ⟨k2,K,cap,rfl,hQ⟩)
theorem start_secg (hI:ParsesInt) {B db fb ib:Nat}{w0 w:World}{T T1 b1:Nat}{u:Value}{Ls:List SP} (hd:Box w db (.int .i64 50) 3) (hf:Box w fb (.iface T1 (.pointer (some ⟨b1,0,none⟩))) 37) (hi:Box w ib (.iface T u) 32) (hO:OpenTop B w0 (.iface T1 (.pointer (some ⟨b1,0,none⟩))) (T,u) Ls) (hS:SignsIn w0) (hg:0 < B) (hs:SameOn (· < B) w0 w) (hB:B≤w.heap.size) :
  SecG (fun k=>k < B∨k=db∨k=fb∨k=ib) w (.func (.func 20) #[] #[.pointer (some ⟨db,0,none⟩),.pointer (some ⟨fb,0,none⟩),.pointer (some ⟨ib,0,none⟩)]) Ls:=by
 have hdl:=hd.lt
 have hfl:=hf.lt
 have hil:=hi.lt
 refine ⟨_,_,rfl,enters_start1,by grind,fun w' hs' hl=>?_⟩
 refine (start1_50g hI (hd.same (hs' _ (by simp))) (hf.same (hs' _ (by simp))) (hi.same (hs' _ (by simp))) hO hS hg (hs.trans (fun k hk=>hs' k (.inl hk))) (Nat.le_trans hB hl)).mono ?_
 intro e w'' hM
 exact hM.more (fun k hk=>.inl (.inl hk))
theorem Start_g (hI:ParsesInt) {B:Nat}{w0 w:World}{T T1 b1:Nat}{u:Value}{P:SP}{L:List SP} (hO:OpenTop B w0 (.iface T1 (.pointer (some ⟨b1,0,none⟩))) (T,u) (P :: L)) (hS:SignsIn w0) (hg:0 < B) (hs:SameOn (· < B) w0 w) (hB:B≤w.heap.size) :
  Calls Tryz.prog 10 #[.iface T1 (.pointer (some ⟨b1,0,none⟩)),.iface T u,.int .i64 50] w fun e w'=>Below w.heap.size w w'∧∃ sb f F D,e = .returned (.pointer (some ⟨sb,0,none⟩))∧StreamBox w' sb f∧StG (P :: L) F D w' f∧(∀ k,F k→k < B∨w.heap.size≤k)∧(∀ k,D k→w.heap.size≤k)∧¬ F sb∧w.heap.size≤sb:=by
 have k3:=below_alloc3 w (.cells #[.iface T1 (.pointer (some ⟨b1,0,none⟩))] 37) (.cells #[.iface T u] 32) (.cells #[.int .i64 50] 3)
 have x0:Box _ w.heap.size _ 37:=heap_at1 w (.cells #[.iface T1 (.pointer (some ⟨b1,0,none⟩))] 37) (.cells #[.iface T u] 32) (.cells #[.int .i64 50] 3)
 have x1:Box _ (w.heap.size+1) _ 32:=heap_at2 w (.cells #[.iface T1 (.pointer (some ⟨b1,0,none⟩))] 37) (.cells #[.iface T u] 32) (.cells #[.int .i64 50] 3)
 have x2:Box _ (w.heap.size+1+1) _ 3:=heap_new3 w (.cells #[.iface T1 (.pointer (some ⟨b1,0,none⟩))] 37) (.cells #[.iface T u] 32) (.cells #[.int .i64 50] 3)
 have hsec:=start_secg hI x2 x0 x1 hO hS hg (hs.trans (fun k hk=>k3.block k (Nat.lt_of_lt_of_le hk hB))) (Nat.le_trans hB k3.size)
 have hbe:=behind_g hsec
 have HBE:Aside _:=hbe
 clear hsec x0 x1 x2 hbe
 go_enter Tryz.func10,Tryz.ntmps10
 go_wp2_with (go_at_call 18;refine Calls.mono HBE.out ?_;rintro e w1 ⟨k1,K,cap,rfl,F,D,hsk,hF,hD⟩)
 have k1s:=k1.size
 go_ret
 refine ⟨(k3.trans (k1.mono k3.size)).alloc (by have:=k3.size;omega) _,_,_,F,D,rfl,heap_new w1 _,hsk.move (fun k hk=>(below_alloc w1 _).block k (hsk.lt k hk)) (by simp),?_,?_,?_,by have:=k3.size;omega⟩
 ·intro k hk
  rcases hF k hk with (h | h | h | h) | h
  ·exact .inl h
  ·exact .inr (by omega)
  ·exact .inr (by omega)
  ·exact .inr (by omega)
  ·exact .inr (by have:=k3.size;omega)
 ·intro k hk
  have:=hD k hk
  have:=k3.size
  omega
 ·intro hk
  have:=hsk.lt _ hk
  omega
end Go.Proofs.Tryz
namespace Go.Proofs.Tryz
set_option maxHeartbeats 16000000
open Go.RowKit
set_option maxRecDepth 100000
def TopIs (w:World) (t:Tr) (c:Bys) (Ls:List SP):Prop:=∀ (w0:World) (v:Value) (x:IV),Below w.heap.size w w0→Vl w0 (· < w0.heap.size) x c→Rep (· < w0.heap.size) w0 v t→OpenTop w0.heap.size w0 v x Ls
def TextIs (w:World) (P:SP) (out:ByteArray):Prop:=∀ (w':World) (s:Sp) (G:Nat→Prop),Below w.heap.size w w'→HoldsP P G w' s→s.2=none∧CanonAt w' s.1 out
theorem run_oneg {w:World} (h:Asks w) {f s:ByteArray}{t:Tr}{c:Bys}{p:Nat}{P:SP}{out:ByteArray} (hf:readAs f=some t) (hfs:f.size≤2000) (hm:s.size≤10000000) (hr:readL s=(some c,p)) (hO:TopIs w t c (P :: [])) (hc:TextIs w P out) :
  Calls Tryz.prog 6 #[.string f,.string s,.int .i64 2,.int .i64 50] w fun e w'=>Below w.heap.size w w'∧∃ g cap,e = .returned (resV 0 (.slice (some ⟨g,0,none⟩) 1 cap) ⟨#[]⟩)∧w'.cell? ⟨g,0,none⟩=some (.string out):=by
 obtain ⟨i0,hi0,hz0,hz1,hz2⟩:=info_parts (show (Tryz.prog.info? 9).map (fun i=>(i.zero,i.size,i.bytes))=some (some (.string ⟨#[]⟩),1,16) by kernel_rfl)
 have hrd:∀ w1,Below w.heap.size w w1→Calls Tryz.prog 7 #[.string s] w1 fun e w'=>(∃ T u,e = .returned (.tuple #[.iface T u,.int .i64 0,.bool true])∧Vl w' (· < w'.heap.size) (T,u) c)∧Below w1.heap.size w1 w':=fun w1 k=>read_some (h.below k) hm hr
 have hI:=h.int
 have hS:=h.signs
 have hsg:=hS.2
 have HRD:Aside _:=hrd
 have HO:Aside (TopIs w t c (P :: [])):=hO
 have HC:Aside (TextIs w P out):=hc
 have HF:Hid (readAs f=some t):=hf
 clear hrd hO hc h hr hm hf
 go_enter Tryz.func6,Tryz.ntmps6
 go_wp2_with (first
  | (go_at_call 9;refine (readAs_ok hI HF.out _ hfs (hS.below (below_alloc _ _))).mono ?_;rintro e w1 ⟨T1,bb,rfl,k1,r1⟩;have kA:Below w.heap.size w w1:=(below_alloc _ _).trans (k1.mono (by simp)))
  | (go_at_call 7;refine (HRD.out w1 kA).mono ?_;rintro e w2 ⟨⟨T,u,rfl,hv⟩,k2⟩;have kB:Below w.heap.size w w2:=kA.trans (k2.mono kA.size);have r2:Rep (· < w2.heap.size) w2 _ t:=(r1.upon k2).to (fun _ _ _ _ hv=>⟨cell_lt hv,hv⟩);have HT:Aside (OpenTop w2.heap.size w2 _ (T,u) (P :: [])):=HO.out w2 _ (T,u) kB hv r2;clear hv)
  | (go_at_call 10;refine (Start_g hI HT.out (hS.below kB) (Nat.lt_of_lt_of_le hsg kB.size) (SameOn.refl _ _) (Nat.le_refl _)).mono ?_;rintro e w3 ⟨k3,sb,fv,F,D,rfl,hsb,hsk,hF,hD,hnF,hsbl⟩))
 have kC:Below w.heap.size w w3:=kB.trans (k3.mono kB.size)
 have nD:¬ D sb:=fun e=>hnF (hsk.sub _ e)
 have hDw:∀ k,D k→w.heap.size≤k:=fun k hk=>Nat.le_trans kB.size (hD k hk)
 have hsl:=lt_of_block hsb
 have hw1:w.heap.size < w1.heap.size:=by have:=k1.size;simp at this;omega
 have hw2:w.heap.size < w2.heap.size:=by have:=k2.size;omega
 have hR3:=(k3.block w.heap.size hw2).trans ((k2.block w.heap.size hw1).trans ((k1.block w.heap.size (by simp)).trans (heap_new w _)))
 have hN:=next_someg hsb hsk nD (out:=out) (fun w' s G fr hP=>HC.out w' s G (fr.belowN hDw kC kC.size) hP)
 have HN:Aside _:=hN
 clear hN
 refine wp_loop_rounds 2 ?_
 rw [rounds_succ]
 go_wp2_with (first
  | (go_at_call 11;refine Calls.mono HN.out ?_;rintro e w4 ⟨fr4,rfl,hsb4,F',D',hF',hD',hS4⟩;simp only [ansV];have hs4:=fr4.size)
  | (refine wpList_append_lies _ (by rfl) _ _ _ (by rfl) w.heap.size 9 i0 _ 1 16 Tryz.underlying26 hi0 hz0 hz1 hz2 rfl (by omega) _ 0 [] (by rfl) (World.ownsRow_nil _ _ _ _) ⟨w4.heap.size+1,0,none⟩ 1 1 [.string out] (by rfl) (by rfl) (World.news_of_block (cs:=#[.string out]) (t:=9) (fr:=(0,0)) (heap_new2' w4 _ _)) (by simp [Value.oneCell']) (by omega) (by unfold maxLen;omega) (by omega) (by have:=kC.size;simp;omega) (w4.heap.size+2) (by simp) ?_;intro g5 cap5 w5 ow5 hgr5 hat5 hlt5))
 rw [rounds_succ]
 have b5:Below w4.heap.size w4 w5:=(below_alloc2 w4 _ _).trans ((Below.of_grown hgr5).mono (by simp;omega))
 have hR5:=(b5.block w.heap.size (by have:=k3.size;omega)).trans ((fr4.block w.heap.size (by have:=k3.size;omega) (fun e=>by have:=hD _ e;omega)).trans hR3)
 have hb5:=b5.size
 have hk3s:=k3.size
 have hsb5:StreamBox w5 sb fv:=hsb4.same (b5.block sb (by omega))
 have hS5:StG [] F' D' w5 fv:=hS4.move (fun k hk=>b5.block k (hS4.lt k hk)) b5.size
 have nD':¬ D' sb:=fun e=>by
  rcases hD' _ e with h | h
  ·exact nD h
  ·omega
 go_wp2_with (go_at_call 11;refine (next_done hsb5 hS5.toNone nD').mono ?_;rintro e w6 ⟨fr6,rfl⟩;simp only [ansV];obtain ⟨⟨m0,m1,m2,m3⟩,⟨p0,p1,p2,p3⟩,ml⟩:=four_facts ((fr6.block w.heap.size (by omega) (fun e=>e.elim (fun e=>(hD' _ e).elim (fun e=>by have:=hD _ e;omega) (fun e=>by omega)) (fun e=>by omega))).trans hR5))
 obtain rfl:g5=w4.heap.size+2:=by
  rcases hat5 with e | e
  ·simp [Value.ownBlock] at e
  ·exact e
 have hD'w:∀ k,D' k∨k=sb→w.heap.size≤k:=by
  rintro k (e | e)
  ·rcases hD' k e with h | h
   ·exact hDw k h
   ·omega
  ·omega
 have kD:Below w.heap.size w w4:=fr4.belowN hDw kC kC.size
 have kE:Below w.heap.size w w5:=kD.trans (b5.mono kD.size)
 have kF:Below w.heap.size w w6:=fr6.belowN hD'w kE kE.size
 have c5:w5.cell? ⟨w4.heap.size+2,0,none⟩=some (.string out):=by
  rcases ow5.2 with ⟨e,_⟩ | ⟨g',cap',cur,e,_,hb,_,_,_,ht⟩
  ·cases e
  ·cases e
   have e0:cur.toList[0]? = some (.string out):=by rw [← List.getElem?_take_of_lt (show 0 < (0+1) * 1 by omega),ht];rfl
   exact cells_cell hb (by simpa using e0)
 have c6:w6.cell? ⟨w4.heap.size+2,0,none⟩=some (.string out):=(World.cell?_of_block (w:=w5) (fr6.block (w4.heap.size+2) hlt5 (fun e=>e.elim (fun e=>by have:=hS4.lt _ (hS4.sub _ e);omega) (fun e=>by omega)))).trans c5
 refine bodyPost_ret (v:=resV 0 (.slice (some ⟨w4.heap.size+2,0,none⟩) 1 cap5) ⟨#[]⟩) (by simp [results,Tryz.results6,go_sem,m0,m1,m2,m3,ml,resV]) rfl ⟨((((kF.setCell (p:=⟨w.heap.size,0,none⟩) (Nat.le_refl _) _).setCell (p:=⟨w.heap.size,1,none⟩) (Nat.le_refl _) _).setCell (p:=⟨w.heap.size,2,none⟩) (Nat.le_refl _) _).setCell (p:=⟨w.heap.size,3,none⟩) (Nat.le_refl _) _).alloc (by simp;omega) _,_,cap5,rfl,?_⟩
 have c6l:=lt_cell c6
 simp only at c6l
 rw [(below_alloc _ _).cell (p:=⟨w4.heap.size+2,0,none⟩) (by simpa using c6l)]
 rw [World.cell?_setCell_far _ _ _ _ (by simp;omega),World.cell?_setCell_far _ _ _ _ (by simp;omega),World.cell?_setCell_far _ _ _ _ (by simp;omega),World.cell?_setCell_far _ _ _ _ (by simp;omega)]
 exact c6
end Go.Proofs.Tryz
