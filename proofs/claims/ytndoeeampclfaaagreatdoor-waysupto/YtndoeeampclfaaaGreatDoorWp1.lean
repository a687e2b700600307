import Derived.Test.YtndoeeampclfaaaGreatDoorWn2
set_option linter.all false
namespace Go.Proofs.Tryz
set_option maxHeartbeats 16000000
open Go.RowKit Go.Shelf
set_option maxRecDepth 100000
attribute [local go_sem] Oper.semAt_some
theorem kept_below {U:Nat→Prop}{w w':World} (h:Below w.heap.size w w'):KeptV (maskU U w) (maskU U w'):=fun k c fz e=>by
 have hu:U k:=by rcases e with e | e <;> exact maskU_cells e
 have hk:k < w.heap.size:=by rw [← maskU_size U w];rcases e with e | e <;> exact lt_of_block e
 rw [maskU_in hu,maskU_in hu]
 exact h.block k hk
theorem Sl.of_row' {w:World}{N n:Nat}{v:Value}{ss:List IV} (h:w.ownsRow N 32 1 v n (ss.reverse.map iv)) (hn:ss.length=n):Sl w v ss.reverse:=by
 refine Sl.of_row (N:=N) ?_
 rw [List.length_reverse,hn]
 exact h
theorem update_boxes (w:World) (kn:Option Addr) (d:Int) (s:Sp):∃ wQ wA,wA=wQ.alloc (.cells #[.slice none 0 0] 310)∧wA=((w.alloc (.cells #[.pointer kn,.int .i64 d] 71)).alloc (.cells #[iv s.1,.pointer s.2] 75)).alloc (.cells #[.slice none 0 0] 310)∧Below w.heap.size w wQ∧PlaceBox wQ w.heap.size kn d∧SpotB wQ (w.heap.size+1) s∧wQ.heap.size=w.heap.size+2 :=
 ⟨_,_,rfl,rfl,below_alloc2 w _ _,(Below.heap_alloc _ _ _ (by simp)).trans (heap_new w _),heap_new2' w _ _,by simp⟩
theorem update_ok (hS0:ComparesStr) {C V:Nat→Prop}{w0 w:World}{b T1 b1 T2 b2:Nat}{kn:Option Addr}{d:Int}{x:IV}{L:List Node}{keep:Bool} (hC:∀ k,C k→k < w0.heap.size) (hI:Inp V w0 x L) (hVC:∀ k,V k→C k) (hb:C b) (c0:w0.cell? ⟨b,0,none⟩=some (.iface T1 (.pointer (some ⟨b1,0,none⟩)))) (c2:w0.cell? ⟨b,2,none⟩=some (.iface T2 (.pointer (some ⟨b2,0,none⟩)))) (hO:RootG C w0 (.iface T1 (.pointer (some ⟨b1,0,none⟩))) kn d x (L.map (NodeP true))) (hR:∀ w1 y,SameOn C w0 w1→w0.heap.size≤w1.heap.size→Calls Tryz.prog 22 #[.agg #[.pointer kn,.int .i64 d],.iface T2 (.pointer (some ⟨b2,0,none⟩)),spv (y,none)] w1 (MadeC (if keep then [Just (y,none)] else []) C w1)) (hs:SameOn C w0 w) (hl:w0.heap.size≤w.heap.size) :
  Calls Tryz.prog 177 #[.agg #[.pointer kn,.int .i64 d],.pointer (some ⟨b,0,none⟩),.agg #[iv x,.pointer none]] w fun e w'=>Below w.heap.size w w'∧∃ y G,e = .returned (iv y)∧HoldsP (EqvP x) G w' (y,none)∧∀ k,G k→C k∨w.heap.size≤k:=by
 have hL:L.length≤1000:=by have:=hI.len;omega
 have hI1:=hI.move (hs.mono hVC) hl
 obtain ⟨T,u⟩:=x
 obtain ⟨i0,hi0,hz0,hz1,hz2⟩:=info_parts (show (Tryz.prog.info? 73).map (fun i=>(i.zero,i.size,i.bytes))=some (some (.pointer none),1,8) by kernel_rfl)
 have n0:=hs.cell hb c0
 have nl:b < w.heap.size:=lt_cell n0
 have HO:∀ w1 q,Below w.heap.size w w1→w1.heap[q]? = some (.cells #[.pointer none,.nilIface,.int .i64 0] 263 (0,0))→Calls Tryz.prog 22 #[.agg #[.pointer kn,.int .i64 d],.iface T1 (.pointer (some ⟨b1,0,none⟩)),.agg #[.iface T u,.pointer (some ⟨q,0,none⟩)]] w1 (MadeC (L.map (NodeP true)) (fun k=>C k∨k=q) w1):=fun w1 q k hq=>(hO w1 q (hs.trans (fun j hj=>k.block j (Nat.lt_of_lt_of_le (hC j hj) hl))) (Nat.le_trans hl k.size) hq).2 w1 (SameOn.refl _ _) (Nat.le_refl _)
 have HR:∀ w1,Calls Tryz.prog 155 #[.iface T u] w1 fun e w'=>∃ q,e = .returned (.agg #[.iface T u,.pointer (some ⟨q,0,none⟩)])∧Below w1.heap.size w1 w'∧w1.heap.size≤q∧w'.heap[q]? = some (.cells #[.pointer none,.nilIface,.int .i64 0] 263 (0,0)):=fun w1=>rooted_ok (x:=(T,u))
 simp only [iv]
 clear hO
 refine (callsIn_wide (n:=4)).1 ?_
 refine callsIn_of_wp_marks Tryz.func177 rfl trivial ?_ rfl
 simp only [Tryz.ntmps177,List.size_toArray,List.length_cons,List.length_nil,Nat.reduceAdd,Nat.reduceSub,Array.replicate_succ,Array.replicate_zero,List.push_toArray,List.append_toArray,List.nil_append,List.cons_append]
 gi_wp2
 obtain ⟨wQ,wA,hQ,hA,kQ,wp0,wx0,wq⟩:=update_boxes w kn d ((T,u),none)
 have kQA:Below wQ.heap.size wQ wA:=hQ ▸ below_alloc wQ _
 have wl:wA.heap.size=w.heap.size+3:=by rw [hQ];simp [wq]
 have wv:Box wA (w.heap.size+2) (.slice none 0 0) 310:=by rw [← wq,hQ];exact Box.new wQ _ _
 have kW:Below w.heap.size w wA:=kQ.trans (kQA.mono kQ.size)
 have wp:PlaceBox wA w.heap.size kn d:=wp0.same (kQA.block _ wp0.lt)
 have wx:SpotB wA (w.heap.size+1) ((T,u),none):=wx0.same (kQA.block _ wx0.lt)
 clear hQ
 simp only [iv] at hA
 obtain ⟨x0,x1,_,_,x4⟩:=wx.facts
 have a0:=wp.c0
 have a1:=wp.c1
 have a3:=(kW.cell (p:=⟨b,0,none⟩) nl).trans n0
 have hwl:=wp.lt
 have hbl:b < wA.heap.size:=by omega
 rw [← hA]
 clear hA n0
 have s0:=six ((Below.refl _ wA).drew) a0 a1 a3 x0 x1 x0
 refine wpIn_wide.2 ?_
 go_region_held3 (fun w'=>w'.cell? ⟨w.heap.size,0,none⟩=some (.pointer kn)∧w'.cell? ⟨w.heap.size,1,none⟩=some (.int .i64 d)∧w'.cell? ⟨b,0,none⟩=some (.iface T1 (.pointer (some ⟨b1,0,none⟩)))∧w'.cell? ⟨w.heap.size+1,0,none⟩=some (.iface T u)∧w'.cell? ⟨w.heap.size+1,1,none⟩=some (.pointer none)∧w'.cell? ⟨w.heap.size+1,0,none⟩=some (.iface T u)) (first | exact s0 | exact e4 | exact f4 | go_keep)
  (first
   | (go_at_call 155;refine (HR _).mono ?_;rintro e w1 ⟨q,rfl,k1,hq,hqb⟩;have kX:Below wA.heap.size wA w1:=(Below.refl _ _).drew.trans (k1.mono (by simp));have e4:=six kX a0 a1 a3 x0 x1 x0;have hXs:=kX.size;have kA:=kW.trans (kX.mono kW.size);have hq':wA.heap.size≤q:=hq)
   | (go_at_call 22;refine (HO _ q kA hqb).mono ?_;rintro e w2 ⟨k2,K,cap,rfl,F,D,hS,hF,hD⟩;have kY:=kX.trans (k2.mono kX.size);have f4:=six kY a0 a1 a3 x0 x1 x0))
 gi_wp2
 have hYs:=kY.size
 have hXA:=kA.size
 have hF':∀ k,F k→C k∨wQ.heap.size≤k:=by grind
 refine range_method (by omega) rfl (enters_of Tryz.func105 (by kernel_rfl) rfl) ?_
 intro fn
 ·refine (collect_iterg (cf:=fun t=>.pointer t.2) (TE:=73) (TA:=310) (C:=C) (w:=wQ) (N:=wQ.heap.size) (b0:=w.heap.size+2) _ rfl (by omega) (by omega) (wv.same (kY.block _ wv.lt)) (kQA.trans (kY.mono (by omega))) hS (by grind) hF' (by grind) ?_).mono ?_
  ·intro pre x W v F' hlen hN bx ow hl hdf hbl hf hFl
   rw [List.length_map] at hlen
   obtain ⟨va,vl,vc,rfl⟩:=owns_shape1 ow
   obtain ⟨Wb,hbr,b1,ow1,hl1,hd1,hbl1,hsp,hsz,fr1⟩:=begun_roundg x rfl hN (by omega) (by omega) (by omega) bx ow hl hdf hbl
   obtain ⟨⟨Tx,ux⟩,qx⟩:=x
   simp only [iv] at hbr
   show YieldAt Fence.wide (3 - 1) Tryz.prog (w2.heap.size+1) #[.agg #[.iface Tx ux,.pointer qx]] W _
   refine ⟨fn,_,_,_,run_yield hl rfl,roundIn_of_wpIn trivial ?_⟩
   clear hl
   have HS:Hid _:=hsz
   clear hsz
   gi_wp2
   refine ⟨Wb,hbr,?_⟩
   have c0:=b1.cell
   have c1:=b1.free
   have c2:=b1.lt
   obtain ⟨s0,s1,_,_,s4⟩:=hsp.facts
   gi_wp2_with (gi_at_builtin;refine wpListIn_append_lies _ rfl _ _ 310 rfl wQ.heap.size 73 i0 _ 1 8 Tryz.underlying310 hi0 hz0 hz1 hz2 rfl (by omega) _ pre.length (pre.map fun t=>.pointer t.2) rfl (ow1.alloc _) ⟨Wb.heap.size,0,none⟩ 1 1 [.pointer qx] rfl rfl (World.news_of_block (cs:=#[.pointer qx]) (t:=73) (fr:=(0,0)) (heap_new Wb _)) (by simp [Value.oneCell']) (by omega) (by unfold maxLen;omega) (by omega) (by have:=hbl1.size;simp;omega) (Wb.heap.size+1) (by simp) ?_;intro g2 cap2 w3 ow2 hgr hat hlt2;have b2:=b1.same ((hgr.block _ (by simp;omega) (own_otherg ow1 b1 (fun cs h=>by simp at h))).trans ((below_alloc Wb _).block _ c2));have d0:=b2.cell;have d1:=b2.free;have d2:=b2.lt)
   obtain ⟨hC,fr2⟩:=CSg.came (cf:=fun t=>.pointer t.2) (x:=((Tx,ux),qx)) (by decide) rfl (by omega) (by omega) (by omega) b1 ow1 hl1 hd1 hbl1 hf (fun k hk=>by have:=hFl k hk;have:=HS.out;omega) ow2 hgr hat
   have hl3:_=some (Obj.loop _):=hC.2.2.2.2.choose_spec.2.2.1
   have frA:Fr (fun k=>k=w.heap.size+2∨k=w2.heap.size+1∨some k=(Value.slice va vl vc).ownBlock) W _:=(fr1.mono (E:=fun k=>k=w.heap.size+2∨k=w2.heap.size+1∨some k=(Value.slice va vl vc).ownBlock) (fun _ e=>.inr (.inl e))).trans fr2 (fun _ _ e=>e.elim .inl (fun h=>.inr (.inr h)))
   refine ⟨_,_,run_endRound none hl3,rfl,hC.put,?_⟩
   exact ⟨frA.os,frA.tape,frA.output,by have:=frA.size;simpa [World.putObj] using this,fun k hk e=>(World.putObj_heap_other (fun h=>e (.inr (.inl h)))).trans (frA.block k hk e)⟩
  ·rintro e W2 ⟨⟨v,rfl⟩,pre,G,hCS,hH,hGC⟩
   obtain ⟨-,-,-,-,v2,bv,ov,hlp,hd,hb2,hGo⟩:=hCS
   obtain ⟨va,vl,vc,rfl⟩:=owns_shape1 ov
   have hvl:=owns_len ov
   subst hvl
   have kP:∀ o,Below wQ.heap.size wQ (W2.putObj (w2.heap.size+1) o):=fun o=>hb2.trans ⟨rfl,rfl,rfl,by simp [World.putObj],fun k hk=>World.putObj_heap_other (by omega)⟩
   have px:∀ o,SpotB (W2.putObj (w2.heap.size+1) o) (w.heap.size+1) ((T,u),none):=fun o=>wx0.same ((kP o).block _ wx0.lt)
   have px0:∀ o,(W2.putObj (w2.heap.size+1) o).cell? ⟨w.heap.size+1,0,none⟩=some (.iface T u):=fun o=>(px o).facts.1
   have pb:∀ o,(W2.putObj (w2.heap.size+1) o).cell? ⟨w.heap.size+1+1,0,none⟩=some (.slice va pre.length vc):=fun o=>Box.cell (bv.same (World.putObj_heap_other (by omega)))
   refine ⟨none,_,run_endLoop hlp (by simp),?_⟩
   gi_wp2
   have qd:∀ o,(W2.putObj (w2.heap.size+1) o).heap[w2.heap.size]? = some (.deferred (some [])):=fun o=>(World.putObj_heap_other (by omega)).trans hd
   have nL:=own_otherg ov hlp (fun cs h=>by cases h)
   have qr:∀ o,(W2.putObj (w2.heap.size+1) o).ownsRow wQ.heap.size 73 1 (.slice va pre.length vc) pre.length (pre.map fun t=>.pointer t.2):=fun o=>owns_same ov (fun j hj=>World.putObj_heap_other (fun e=>nL (by rw [← e];exact hj.symm)))
   have qh:∀ o,HoldsL (L.map (NodeP true)) G (W2.putObj (w2.heap.size+1) o) pre:=fun o=>hH.move (fun k hk=>World.putObj_heap_other (hGo k hk).2.2.1) (by simp [World.putObj])
   have qp:∀ o,PlaceBox (W2.putObj (w2.heap.size+1) o) w.heap.size kn d:=fun o=>wp0.same ((kP o).block _ wp0.lt)
   generalize hWZ:W2.putObj (w2.heap.size+1) _=WZ
   have z1:Below wQ.heap.size wQ WZ:=hWZ ▸ kP _
   have z2:WZ.heap[w2.heap.size]? = some (.deferred (some [])):=hWZ ▸ qd _
   have z3:WZ.ownsRow wQ.heap.size 73 1 (.slice va pre.length vc) pre.length (pre.map fun t=>.pointer t.2):=hWZ ▸ qr _
   have z4:HoldsL (L.map (NodeP true)) G WZ pre:=hWZ ▸ qh _
   have z5:PlaceBox WZ w.heap.size kn d:=hWZ ▸ qp _
   have zs:WZ.heap.size=W2.heap.size:=by rw [← hWZ];simp [World.putObj]
   clear hWZ qd qr qh qp px px0 pb kP
   have hlen:Hid (pre.length=L.length):=by
    have:=(z4.2 WZ (SameOn.refl _ _) (Nat.le_refl _)).len
    exact (show pre.length=L.length by simpa using this.symm)
   have z6:WZ.cell? ⟨b,2,none⟩=some (.iface T2 (.pointer (some ⟨b2,0,none⟩))):=by
    have:=hs.cell hb c2
    exact ((kQ.trans (z1.mono kQ.size)).cell (p:=⟨b,2,none⟩) nl).trans this
   have zd:=lt_of_block z2
   have zp:=z5.lt
   have kZ:Below w.heap.size w WZ:=kQ.trans (z1.mono kQ.size)
   have Z3:Aside (WZ.ownsRow wQ.heap.size 73 1 (.slice va pre.length vc) pre.length (pre.map fun t=>.pointer t.2)):=z3
   have Z4:Aside (HoldsL (L.map (NodeP true)) G WZ pre):=z4
   have E0:Aside (∃ dd m,Eqv (maskU (fun k=>V k∨w.heap.size≤k) WZ) dd m (T,u) (T,u)∧m≤500):=by
    obtain ⟨dd,m,h1,h2⟩:=hI1.self
    exact ⟨dd,m,h1.keep (kept_masks (fun k hk=>kZ.block k (hI1.hV k hk)) (fun _ h=>.inl h)),h2⟩
   clear z3 z4 hH hS
   refine wpIn_wide.2 ?_
   go_loopg [9,36] pre.length (fun k v9 v36 wr=>∃ (i Ty:Nat) (uy:Value),i+k=pre.length∧v9 = .iface Ty uy∧v36 = .int .i64 i∧Below WZ.heap.size WZ wr∧Aside (∃ dd m,Eqv (maskU (fun k=>V k∨w.heap.size≤k) wr) dd m (Ty,uy) (T,u)∧m≤500))
   case atStart=>exact ⟨0,T,u,by omega,rfl,rfl,Below.refl _ _,E0.out⟩
   case round =>
    obtain ⟨i,Ty,uy,hi,rfl,rfl,kr,HE⟩:=hrel
    match gk,hi with
    | 0,hi =>
     have zi:¬ (i:Int) < (pre.length:Int):=by omega
     go_wp2_with fail
     gi_wp2
     have dr:wr.heap[w2.heap.size]? = some (.deferred (some [])):=(kr.block _ zd).trans z2
     refine ⟨by simp,.inl ⟨_,_,rfl,run_takeDeferred dr,?_⟩⟩
     obtain ⟨dd,m,hE,hm⟩:=HE.out
     have kE:Below w.heap.size w (wr.putObj w2.heap.size (.deferred none)):=(kZ.trans (kr.mono kZ.size)).trans ⟨rfl,rfl,rfl,by simp [World.putObj],fun k hk=>World.putObj_heap_other (by omega)⟩
     refine ⟨_,results_tmp rfl _ _ _,kE,(Ty,uy),fun k=>(V k∨w.heap.size≤k)∧k < wr.heap.size,rfl,⟨fun k hk=>by simpa [World.putObj] using hk.2,fun w'' hs'' _=>⟨rfl,dd,m,hE.keep (fun k c fz e=>?_),hm⟩⟩,fun k hk=>hk.1.imp (hVC k) id⟩
     have hu:V k∨w.heap.size≤k:=by rcases e with e | e <;> exact maskU_cells e
     have hk:k < wr.heap.size:=by rw [← maskU_size (fun k=>V k∨w.heap.size≤k) wr];rcases e with e | e <;> exact lt_of_block e
     have hne:k≠w2.heap.size:=fun e2=>by
      rw [maskU_in hu,e2,dr] at e
      rcases e with e | e <;> cases e
     rw [maskU_in hu]
     exact (hs'' k ⟨hu,hk⟩).trans (World.putObj_heap_other hne)
    | kk+1,hi =>
     have zi:(i:Int) < (pre.length:Int):=by omega
     have z0:(0:Int)≤(i:Int):=by omega
     obtain ⟨ra,rc,hva⟩:=owns_some Z3.out (by omega)
     cases hva
     have hil:i < L.length:=by rw [← hlen.out];omega
     obtain ⟨n,hn⟩:∃ n,L[i]? = some n:=⟨_,List.getElem?_eq_getElem hil⟩
     have hnL:=List.mem_of_getElem? hn
     obtain ⟨⟨sv,sq⟩,hsi,hnode⟩:=(Z4.out.2 wr (fun k hk=>kr.block k (Z4.out.1 k hk)) kr.size).at (i:=i) (P:=NodeP true n) (by simp [hn])
     have hpath:PathIs wr n.2 (.pointer sq):=hnode.2
     obtain ⟨g1,g2,_⟩:=hI1.node n hnL
     have hrc:wr.cell? ⟨ra,i,none⟩=some (.pointer sq):=(kr.cell (p:=⟨ra,i,none⟩) (Z3.out.lt ra rfl).2).trans (by rw [Z3.out.cellAt i (by omega)];simp [hsi])
     have hral:ra < wr.heap.size:=Nat.lt_of_lt_of_le (Z3.out.lt ra rfl).2 kr.size
     obtain ⟨dd,m,hE,hm⟩:=HE.out
     have kwr:Below w.heap.size w wr:=kZ.trans (kr.mono kZ.size)
     have KM:KeptV (maskU V w) (maskU (fun k=>V k∨w.heap.size≤k) wr):=kept_masks (fun k hk=>kwr.block k (hI1.hV k hk)) (fun _ h=>.inl h)
     obtain ⟨o',ho'⟩:=eqv_at hE (g2.keep KM)
     have hAW:AtP wr (Ty,uy) n.2.reverse o':=ho'.keep (kept_mask (SameOn.refl _ _))
     have HARR:=array_ok hpath rfl (by omega:n.2.length≤1000000)
     have HAW:Aside (AtP wr (Ty,uy) n.2.reverse o'∧AtP (maskU (fun k=>V k∨w.heap.size≤k) wr) (Ty,uy) n.2.reverse o'):=⟨hAW,ho'⟩
     obtain ⟨M,hM⟩:∃ M,n.2.length=M:=⟨_,rfl⟩
     rw [hM] at HARR
     have HMM:Hid (n.2.length=M):=hM
     have HHE:Aside (Eqv (maskU (fun k=>V k∨w.heap.size≤k) wr) dd m (Ty,uy) (T,u)):=hE
     clear hpath hnode hsi hAW ho' hM hE g2
     obtain ⟨To,uo⟩:=o'
     go_wp2_with (first
      | (go_at_call 157;refine HARR.mono ?_;rintro e w3 ⟨rfl,ow3,k3⟩)
      | (go_at_call 224;refine (Get_ok hS0 (HAW.out.1.keep (KeptV.of_below k3)) (Sl.of_row' ow3 HMM.out) (by simp [HMM.out]) (by have:=HMM.out;omega)).mono ?_;rintro e w4 ⟨rfl,k4⟩)
      | (go_at_call 94;refine sure_none.mono ?_;rintro e w5 ⟨rfl,hw5⟩;subst hw5))
     have k34:Below wr.heap.size wr w5:=k3.trans (k4.mono k3.size)
     have k04:Below WZ.heap.size WZ w5:=kr.trans (k34.mono kr.size)
     have kw5:Below w.heap.size w w5:=kZ.trans (k04.mono kZ.size)
     have f0:=(k04.cell (p:=⟨w.heap.size,0,none⟩) zp).trans z5.c0
     have f1:=(k04.cell (p:=⟨w.heap.size,1,none⟩) zp).trans z5.c1
     have f2:=(k04.cell (p:=⟨b,2,none⟩) (lt_cell z6)).trans z6
     have fl:=Nat.lt_of_lt_of_le zp k04.size
     have fb:b < w5.heap.size:=lt_cell f2
     have HRT:∀ w',Below w5.heap.size w5 w'→Calls Tryz.prog 22 #[.agg #[.pointer kn,.int .i64 d],.iface T2 (.pointer (some ⟨b2,0,none⟩)),.agg #[.iface To uo,.pointer none]] w' (MadeC (if keep then [Just ((To,uo),none)] else []) C w'):=fun w' k'=>hR w' (To,uo) (hs.trans (fun j hj=>(kw5.trans (k'.mono kw5.size)).block j (by have:=hC j hj;omega))) (by have:=(kw5.trans (k'.mono kw5.size)).size;omega)
     have t0:=tri ((Below.refl _ w5).drew) f0 f1 f2
     have SETC:∀ wE,Below w5.heap.size w5 wE→Calls Tryz.prog 161 #[.iface Ty uy,.slice (some ⟨wr.heap.size,0,none⟩) M M,.iface To uo] wE fun e w8=>∃ (Ty':Nat) (uy':Value),e = .returned (.tuple #[.iface Ty' uy',.nilIface])∧Below WZ.heap.size WZ w8∧∃ dd m,Eqv (maskU (fun k=>V k∨w.heap.size≤k) w8) dd m (Ty',uy') (T,u)∧m≤500:=fun wE kE=>by
      have krE:Below wr.heap.size wr wE:=k34.trans (kE.mono k34.size)
      have k35E:Below w3.heap.size w3 wE:=k4.trans (kE.mono k4.size)
      have ow':=owns_same ow3 (fun j hj=>k35E.block j (ow3.lt j hj).2)
      refine (Set_ok hS0 (z:=(To,uo)) (HAW.out.1.keep (KeptV.of_below krE)) (Sl.of_row' ow' HMM.out) (by simp [HMM.out]) (by have:=HMM.out;omega)).mono ?_
      rintro e w8 ⟨⟨Ty',uy'⟩,rfl,hput,k8⟩
      have kr8:Below wr.heap.size wr w8:=krE.trans (k8.mono krE.size)
      have K8:KeptV (maskU (fun k=>V k∨w.heap.size≤k) wr) (maskU (fun k=>V k∨w.heap.size≤k) w8):=kept_below kr8
      refine ⟨Ty',uy',rfl,kr.trans (kr8.mono kr.size),dd,m,?_,hm⟩
      have hE8:w.heap.size≤wE.heap.size:=by have:=kwr.size;have:=krE.size;omega
      exact put_same (HHE.out.keep K8) (HAW.out.2.keep K8) (put_masked (N:=wE.heap.size) (fun k h1 _=>.inr (Nat.le_trans hE8 h1)) (HAW.out.2.keep K8) hput)
     cases keep with
     | true =>
      simp only [if_true] at HRT
      go_region_held3 (fun w'=>w'.cell? ⟨w.heap.size,0,none⟩=some (.pointer kn)∧w'.cell? ⟨w.heap.size,1,none⟩=some (.int .i64 d)∧w'.cell? ⟨b,2,none⟩=some (.iface T2 (.pointer (some ⟨b2,0,none⟩)))) (first | exact t0 | exact e4 | exact e5 | exact tri ((kX7.setCell (p:=⟨w6.heap.size,0,none⟩) kX6.size _).setCell (p:=⟨w6.heap.size,1,none⟩) kX6.size _) f0 f1 f2 | exact tri ((kX7.setCell (p:=⟨w5.heap.size,0,none⟩) (Nat.le_refl _) _).setCell (p:=⟨w5.heap.size,1,none⟩) (Nat.le_refl _) _) f0 f1 f2 | exact tri (kX7.alloc kX7.size _) f0 f1 f2 | exact tri (kX6.alloc kX6.size _) f0 f1 f2 | exact tri ((Below.refl _ _).drew.alloc (Nat.le_refl _) _) f0 f1 f2 | go_keep)
       (first
        | (go_at_call 22;refine (HRT w5.drew (Below.refl _ _).drew).mono ?_;rintro e w6 ⟨k6,K6,cap6,rfl,F6,D6,hS6,hF6,hD6⟩;have kX6:Below w5.heap.size w5 w6:=(Below.refl _ _).drew.trans (k6.mono (by simp));have e4:=tri kX6 f0 f1 f2;have hEn6:∀ (args:Array Value) (w:World),(callFunc K6 args).run Tryz.prog w = .ok (.enter K6 args) w:=hS6.enters;have hS6l:=hS6.lt;have hS6s:=hS6.sub;have hD6':∀ k,D6 k→w5.heap.size≤k:=hD6;obtain ⟨K6',cap6',eK6,_,_,_,hcall6⟩:=hS6;cases eK6)
        | (go_at_call 22;refine (HRT (w5.drew.alloc (.cells #[.nilIface,.pointer none] 75)) ((Below.refl _ _).drew.alloc (Nat.le_refl _) _)).mono ?_;rintro e w6 ⟨k6,K6,cap6,rfl,F6,D6,hS6,hF6,hD6⟩;have kX6:Below w5.heap.size w5 w6:=((Below.refl _ _).drew.alloc (Nat.le_refl _) _).trans (k6.mono (by simp));have e4:=tri kX6 f0 f1 f2;have hEn6:∀ (args:Array Value) (w:World),(callFunc K6 args).run Tryz.prog w = .ok (.enter K6 args) w:=hS6.enters;have hS6l:=hS6.lt;have hS6s:=hS6.sub;have hD6':∀ k,D6 k→w5.heap.size+1≤k:=(fun k hk=>by have:=hD6 k hk;simpa using this);have sb6:SpotBox w6 w5.heap.size .nilIface:=(SpotBox.new w5.drew .nilIface).same (k6.block _ (by simp));obtain ⟨K6',cap6',eK6,_,_,_,hcall6⟩:=hS6;cases eK6)
        | (go_at_fn K6;refine (hcall6 w6 (SameOn.refl _ _) (Nat.le_refl _)).mono ?_;rintro e w7 ⟨k7,s7,G7,F7,D7,rfl,hP7,-⟩;have hs7:s7=((To,uo),none):=hP7.here;subst hs7;simp only [spv,iv];have kX7:Below w5.heap.size w5 w7:=kX6.trans ⟨k7.os,k7.tape,k7.output,k7.size,fun j hj=>k7.block j (by have:=kX6.size;omega) (fun e=>by have h9:=hD6' j e;omega)⟩;have e5:=tri kX7 f0 f1 f2;try (have sb7:SpotBox w7 w5.heap.size .nilIface:=sb6.same (k7.block _ sb6.lt (fun e=>by have h9:=hD6' _ e;omega));obtain ⟨r0,r1,r2,r3,r4⟩:=sb7.facts))
        | (go_at_fn K6;refine (hcall6 (w6.alloc (.cells #[.nilIface,.pointer none] 75)) (fun k hk=>Below.heap_alloc _ _ _ (hS6l k hk)) (by simp)).mono ?_;rintro e w7 ⟨k7,s7,G7,F7,D7,rfl,hP7,-⟩;have hs7:s7=((To,uo),none):=hP7.here;subst hs7;simp only [spv,iv];have kX7:Below w5.heap.size w5 w7:=(kX6.alloc kX6.size _).trans ⟨k7.os,k7.tape,k7.output,k7.size,fun j hj=>k7.block j (by have:=kX6.size;simp;omega) (fun e=>by have h9:=hD6' j e;omega)⟩;have e5:=tri kX7 f0 f1 f2;have sb7:SpotBox w7 w6.heap.size .nilIface:=(SpotBox.new w6 .nilIface).same (k7.block _ (by simp) (fun e=>by have h9:=hS6l _ (hS6s _ e);omega));obtain ⟨r0,r1,r2,r3,r4⟩:=sb7.facts))
      ·have kE:=kX7.alloc kX7.size (.cells #[.iface To uo,.pointer none] 75)
       go_wp2_with (first
        | (go_at_call 161;refine (SETC _ kE).mono ?_;rintro e w8 ⟨Ty',uy',rfl,k8,hE8⟩)
        | (go_at_call 94;refine sure_none.mono ?_;rintro e w9 ⟨rfl,hw9⟩;subst hw9))
       go_roundg kk
       case measure=>omega
       case rel=>exact ⟨i+1,Ty',uy',by omega,rfl,by simp,k8,hE8⟩
      ·have kE:=(kX7.setCell (p:=⟨w6.heap.size,0,none⟩) kX6.size (.iface To uo)).setCell (p:=⟨w6.heap.size,1,none⟩) kX6.size (.pointer none)
       go_wp2_with (first
        | (go_at_call 161;refine (SETC _ kE).mono ?_;rintro e w8 ⟨Ty',uy',rfl,k8,hE8⟩)
        | (go_at_call 94;refine sure_none.mono ?_;rintro e w9 ⟨rfl,hw9⟩;subst hw9))
       go_roundg kk
       case measure=>omega
       case rel=>exact ⟨i+1,Ty',uy',by omega,rfl,by simp,k8,hE8⟩
      ·have kE:=(kX7.setCell (p:=⟨w5.heap.size,0,none⟩) (Nat.le_refl _) (.iface To uo)).setCell (p:=⟨w5.heap.size,1,none⟩) (Nat.le_refl _) (.pointer none)
       go_wp2_with (first
        | (go_at_call 161;refine (SETC _ kE).mono ?_;rintro e w8 ⟨Ty',uy',rfl,k8,hE8⟩)
        | (go_at_call 94;refine sure_none.mono ?_;rintro e w9 ⟨rfl,hw9⟩;subst hw9))
       go_roundg kk
       case measure=>omega
       case rel=>exact ⟨i+1,Ty',uy',by omega,rfl,by simp,k8,hE8⟩
     | false =>
      simp only [Bool.false_eq_true,if_false] at HRT
      go_region_held3 (fun w'=>w'.cell? ⟨w.heap.size,0,none⟩=some (.pointer kn)∧w'.cell? ⟨w.heap.size,1,none⟩=some (.int .i64 d)∧w'.cell? ⟨b,2,none⟩=some (.iface T2 (.pointer (some ⟨b2,0,none⟩)))) (first | exact t0 | exact e4 | exact e5 | exact tri ((kX7.setCell (p:=⟨w6.heap.size,0,none⟩) kX6.size _).setCell (p:=⟨w6.heap.size,1,none⟩) kX6.size _) f0 f1 f2 | exact tri ((kX7.setCell (p:=⟨w5.heap.size,0,none⟩) (Nat.le_refl _) _).setCell (p:=⟨w5.heap.size,1,none⟩) (Nat.le_refl _) _) f0 f1 f2 | exact tri (kX7.alloc kX7.size _) f0 f1 f2 | exact tri (kX6.alloc kX6.size _) f0 f1 f2 | exact tri ((Below.refl _ _).drew.alloc (Nat.le_refl _) _) f0 f1 f2 | go_keep)
       (first
        | (go_at_call 22;refine (HRT w5.drew (Below.refl _ _).drew).mono ?_;rintro e w6 ⟨k6,K6,cap6,rfl,F6,D6,hS6,hF6,hD6⟩;have kX6:Below w5.heap.size w5 w6:=(Below.refl _ _).drew.trans (k6.mono (by simp));have e4:=tri kX6 f0 f1 f2;have hEn6:∀ (args:Array Value) (w:World),(callFunc K6 args).run Tryz.prog w = .ok (.enter K6 args) w:=hS6.enters;have hS6l:=hS6.lt;have hS6s:=hS6.sub;have hD6':∀ k,D6 k→w5.heap.size≤k:=hD6;obtain ⟨K6',cap6',eK6,_,_,_,hcall6⟩:=hS6;cases eK6)
        | (go_at_call 22;refine (HRT (w5.drew.alloc (.cells #[.nilIface,.pointer none] 75)) ((Below.refl _ _).drew.alloc (Nat.le_refl _) _)).mono ?_;rintro e w6 ⟨k6,K6,cap6,rfl,F6,D6,hS6,hF6,hD6⟩;have kX6:Below w5.heap.size w5 w6:=((Below.refl _ _).drew.alloc (Nat.le_refl _) _).trans (k6.mono (by simp));have e4:=tri kX6 f0 f1 f2;have hEn6:∀ (args:Array Value) (w:World),(callFunc K6 args).run Tryz.prog w = .ok (.enter K6 args) w:=hS6.enters;have hS6l:=hS6.lt;have hS6s:=hS6.sub;have hD6':∀ k,D6 k→w5.heap.size+1≤k:=(fun k hk=>by have:=hD6 k hk;simpa using this);have sb6:SpotBox w6 w5.heap.size .nilIface:=(SpotBox.new w5.drew .nilIface).same (k6.block _ (by simp));obtain ⟨K6',cap6',eK6,_,_,_,hcall6⟩:=hS6;cases eK6)
        | (go_at_fn K6;refine (hcall6 w6 (SameOn.refl _ _) (Nat.le_refl _)).mono ?_;rintro e w7 ⟨k7,rfl⟩;have kX7:Below w5.heap.size w5 w7:=kX6.trans ⟨k7.os,k7.tape,k7.output,k7.size,fun j hj=>k7.block j (by have:=kX6.size;omega) (fun e=>by have h9:=hD6' j e;omega)⟩;have e5:=tri kX7 f0 f1 f2;try (have sb7:SpotBox w7 w5.heap.size .nilIface:=sb6.same (k7.block _ sb6.lt (fun e=>by have h9:=hD6' _ e;omega));obtain ⟨r0,r1,r2,r3,r4⟩:=sb7.facts))
        | (go_at_fn K6;refine (hcall6 (w6.alloc (.cells #[.nilIface,.pointer none] 75)) (fun k hk=>Below.heap_alloc _ _ _ (hS6l k hk)) (by simp)).mono ?_;rintro e w7 ⟨k7,rfl⟩;have kX7:Below w5.heap.size w5 w7:=(kX6.alloc kX6.size _).trans ⟨k7.os,k7.tape,k7.output,k7.size,fun j hj=>k7.block j (by have:=kX6.size;simp;omega) (fun e=>by have h9:=hD6' j e;omega)⟩;have e5:=tri kX7 f0 f1 f2;have sb7:SpotBox w7 w6.heap.size .nilIface:=(SpotBox.new w6 .nilIface).same (k7.block _ (by simp) (fun e=>by have h9:=hS6l _ (hS6s _ e);omega));obtain ⟨r0,r1,r2,r3,r4⟩:=sb7.facts))
      ·have kE:=k04.trans ((kX7.alloc kX7.size (.cells #[.nilIface,.pointer none] 75)).mono k04.size)
       have kr5:=k34.trans ((kX7.alloc kX7.size (.cells #[.nilIface,.pointer none] 75)).mono k34.size)
       go_wp2_with fail
       go_roundg kk
       case measure=>omega
       case rel=>exact ⟨i+1,Ty,uy,by omega,rfl,by simp,kE,dd,m,HHE.out.keep (kept_below kr5),hm⟩
      ·have kE:=k04.trans (((kX7.setCell (p:=⟨w6.heap.size,0,none⟩) kX6.size .nilIface).setCell (p:=⟨w6.heap.size,1,none⟩) kX6.size (.pointer none)).mono k04.size)
       have kr5:=k34.trans (((kX7.setCell (p:=⟨w6.heap.size,0,none⟩) kX6.size .nilIface).setCell (p:=⟨w6.heap.size,1,none⟩) kX6.size (.pointer none)).mono k34.size)
       go_wp2_with fail
       go_roundg kk
       case measure=>omega
       case rel=>exact ⟨i+1,Ty,uy,by omega,rfl,by simp,kE,dd,m,HHE.out.keep (kept_below kr5),hm⟩
      ·have kE:=k04.trans (((kX7.setCell (p:=⟨w5.heap.size,0,none⟩) (Nat.le_refl _) .nilIface).setCell (p:=⟨w5.heap.size,1,none⟩) (Nat.le_refl _) (.pointer none)).mono k04.size)
       have kr5:=k34.trans (((kX7.setCell (p:=⟨w5.heap.size,0,none⟩) (Nat.le_refl _) .nilIface).setCell (p:=⟨w5.heap.size,1,none⟩) (Nat.le_refl _) (.pointer none)).mono k34.size)
       go_wp2_with fail
       go_roundg kk
       case measure=>omega
       case rel=>exact ⟨i+1,Ty,uy,by omega,rfl,by simp,kE,dd,m,HHE.out.keep (kept_below kr5),hm⟩
end Go.Proofs.Tryz
namespace Go.Proofs.Tryz
set_option maxHeartbeats 16000000
open Go.RowKit
set_option maxRecDepth 10000
theorem enters_operation1:Enters Tryz.prog 176:=enters_of Tryz.func176 (by kernel_rfl) rfl
theorem out_update {C:Nat→Prop}{pb fb sb b:Nat}{w0 w:World}{kn:Option Addr}{d:Int}{x:IV}{R:SP} (hC:∀ k,C k→k < w0.heap.size) (hp:PlaceBox w pb kn d) (hf:Box w fb (.pointer (some ⟨b,0,none⟩)) 171) (hx:SpotB w sb (x,none)) (hs:SameOn C w0 w) (hl:w0.heap.size≤w.heap.size)
  (h:∀ w1,SameOn C w0 w1→w0.heap.size≤w1.heap.size→Calls Tryz.prog 177 #[.agg #[.pointer kn,.int .i64 d],.pointer (some ⟨b,0,none⟩),.agg #[iv x,.pointer none]] w1 fun e w'=>Below w1.heap.size w1 w'∧∃ y G,e = .returned (iv y)∧HoldsP R G w' (y,none)∧∀ k,G k→C k∨w1.heap.size≤k) :
  OutG (fun k=>C k∨k=pb∨k=fb∨k=sb) w (.func (.func 176) #[] #[.pointer (some ⟨pb,0,none⟩),.pointer (some ⟨fb,0,none⟩),.pointer (some ⟨sb,0,none⟩)]) R:=by
 have hpl:=hp.lt
 have hfl:=hf.lt
 have hxl:=hx.lt
 refine ⟨_,_,rfl,enters_operation1,by grind,?_⟩
 intro w' hs' hl'
 have hs0:SameOn C w0 w':=hs.trans (hs'.mono (fun _ h=>.inl h))
 have hc:=fun w1 (k:Below w'.heap.size w' w1)=>h w1 (hs0.trans (fun j hj=>k.block j (by have:=hC j hj;omega))) (by have:=k.size;omega)
 obtain ⟨p0,p1,_,_,p4⟩:=PlaceBox.facts (hp.same (hs' pb (by simp)))
 have hf':=hf.same (hs' fb (by simp))
 have f0:=hf'.cell
 have f2:=hf'.lt
 obtain ⟨T,u⟩:=x
 obtain ⟨x0,x1,_,_,x4⟩:=(hx.same (hs' sb (by simp))).facts
 simp only [iv] at hc ⊢
 clear h
 go_enter Tryz.func176,Tryz.ntmps176
 go_wp2_with (go_at_call 177;refine (hc _ (Below.refl _ _)).mono ?_;rintro e w1 ⟨k1,⟨Ty,uy⟩,G,rfl,ha,hG⟩)
 go_ret
 exact ⟨k1,(Ty,uy),G,rfl,ha,by grind⟩
theorem operation_update {C:Nat→Prop}{b:Nat}{w0 w:World}{kn:Option Addr}{d:Int}{x:IV}{op:ByteArray}{R:SP} (hC:∀ k,C k→k < w0.heap.size) (hop:(op.toList == [124,61])=true) (hb:C b) (c1:w0.cell? ⟨b,1,none⟩=some (.string op)) (hs:SameOn C w0 w) (hl:w0.heap.size≤w.heap.size)
  (h:∀ w1,SameOn C w0 w1→w0.heap.size≤w1.heap.size→Calls Tryz.prog 177 #[.agg #[.pointer kn,.int .i64 d],.pointer (some ⟨b,0,none⟩),.agg #[iv x,.pointer none]] w1 fun e w'=>Below w1.heap.size w1 w'∧∃ y G,e = .returned (iv y)∧HoldsP R G w' (y,none)∧∀ k,G k→C k∨w1.heap.size≤k) :
  Calls Tryz.prog 129 #[.agg #[.pointer kn,.int .i64 d],.pointer (some ⟨b,0,none⟩),.agg #[iv x,.pointer none]] w (MadeC [R] C w):=by
 have n1:=hs.cell hb c1
 have n3:b < w.heap.size:=by have:=hC b hb;omega
 obtain ⟨T,u⟩:=x
 have wn1:=((below_alloc3 w (.cells #[.pointer kn,.int .i64 d] 71) (.cells #[.pointer (some ⟨b,0,none⟩)] 171) (.cells #[.iface T u,.pointer none] 75)).cell (p:=⟨b,1,none⟩) n3).trans n1
 have hw:Calls Tryz.prog 122 #[.func (.func 176) #[] #[.pointer (some ⟨w.heap.size,0,none⟩),.pointer (some ⟨w.heap.size+1,0,none⟩),.pointer (some ⟨w.heap.size+2,0,none⟩)]] (((w.alloc (.cells #[.pointer kn,.int .i64 d] 71)).alloc (.cells #[.pointer (some ⟨b,0,none⟩)] 171)).alloc (.cells #[.iface T u,.pointer none] 75)) (MadeC [R] (fun k=>C k∨w.heap.size≤k) (((w.alloc (.cells #[.pointer kn,.int .i64 d] 71)).alloc (.cells #[.pointer (some ⟨b,0,none⟩)] 171)).alloc (.cells #[.iface T u,.pointer none] 75))):=by
  obtain ⟨wA,hA,kW,wp,wf,wx,wl⟩:=three_boxes w kn d (.pointer (some ⟨b,0,none⟩)) 171 ((T,u),none)
  simp only [iv] at hA
  rw [← hA]
  exact worked_okg (out_update hC wp wf wx (hs.trans (fun j hj=>kW.block j (by have:=hC j hj;omega))) (by have:=kW.size;omega) h) (by grind)
 simp only [iv]
 clear h
 go_enter Tryz.func129,Tryz.ntmps129
 go_wp2_with (go_at_call 122;refine hw.mono ?_;rintro e w1 ⟨k1,K,cap,rfl,hM⟩)
 go_ret
 exact (MadeC.under (L:=[R]) (C:=fun k=>C k∨w.heap.size≤k) ⟨k1,K,cap,rfl,hM⟩ (below_alloc3 w _ _ _)).more (by grind)
theorem opensG_update (hS0:ComparesStr) {C V:Nat→Prop}{w0:World}{b T1 b1 T2 b2:Nat}{kn:Option Addr}{d:Int}{x:IV}{L:List Node}{keep:Bool}{op:ByteArray} (hop:(op.toList == [124,61])=true) (o1:(op.toList == [124])=false) (o2:(op.toList == [44])=false) (o3:(op.toList == [47,47])=false) (hC:∀ k,C k→k < w0.heap.size) (hI:Inp V w0 x L) (hVC:∀ k,V k→C k) (hb:C b) (c0:w0.cell? ⟨b,0,none⟩=some (.iface T1 (.pointer (some ⟨b1,0,none⟩)))) (c1:w0.cell? ⟨b,1,none⟩=some (.string op)) (c2:w0.cell? ⟨b,2,none⟩=some (.iface T2 (.pointer (some ⟨b2,0,none⟩)))) (hO:RootG C w0 (.iface T1 (.pointer (some ⟨b1,0,none⟩))) kn d x (L.map (NodeP true))) (hR:∀ w1 y,SameOn C w0 w1→w0.heap.size≤w1.heap.size→Calls Tryz.prog 22 #[.agg #[.pointer kn,.int .i64 d],.iface T2 (.pointer (some ⟨b2,0,none⟩)),spv (y,none)] w1 (MadeC (if keep then [Just (y,none)] else []) C w1)) :
  OpensG C w0 (.iface 171 (.pointer (some ⟨b,0,none⟩))) kn d (x,none) [EqvP x]:=by
 refine ⟨hC,fun w hs hl=>open_bing (fun w1 k1=>?_)⟩
 have hs1:SameOn C w0 w1:=hs.trans (fun j hj=>k1.block j (Nat.lt_of_lt_of_le (hC j hj) hl))
 have hl1:w0.heap.size≤w1.heap.size:=Nat.le_trans hl k1.size
 refine binary_defg hC hb c1 o1 o2 o3 hs1 hl1 (fun w2 k2=>made_bing (fun w3 k3=>?_))
 have k23:=k2.trans (k3.mono k2.size)
 exact operation_update hC hop hb c1 (hs1.trans (fun j hj=>k23.block j (Nat.lt_of_lt_of_le (hC j hj) hl1))) (Nat.le_trans hl1 k23.size) (fun w4 hs4 hl4=>update_ok hS0 hC hI hVC hb c0 c2 hO hR hs4 hl4)
end Go.Proofs.Tryz
namespace Go.Proofs.Tryz
set_option maxHeartbeats 16000000
open Go.RowKit
set_option maxRecDepth 10000
theorem Rep.same {p:Nat→Prop}{w w':World}{v:Value}{t:Tr} (h:Rep p w v t) (hs:SameOn p w w'):Rep p w' v t:=h.to (fun b o u hb hu=>⟨hb,hs.cell hb hu⟩)
def Ev (p C:Nat→Prop) (w:World) (kn:Option Addr) (d:Int) (t:Tr) (s:Sp) (Ls:List SP):Prop:=(∀ k,C k→k < w.heap.size)∧∀ v,Rep p w v t→OpensG C w v kn d s Ls
theorem Ev.mk' {p C:Nat→Prop}{w:World}{kn:Option Addr}{d:Int}{t:Tr}{s:Sp}{Ls:List SP} (hC:∀ k,C k→k < w.heap.size) (h:∀ v,Rep p w v t→OpensG C w v kn d s Ls):Ev p C w kn d t s Ls:=⟨hC,h⟩
theorem ev_ident {p C G:Nat→Prop}{w:World}{kn:Option Addr}{d:Int}{s:Sp}{P:SP} (hC:∀ k,C k→k < w.heap.size) (hP:HoldsP P G w s) (hG:∀ k,G k→C k):Ev p C w kn d .ident s [P]:=⟨hC,fun v hr=>by
 obtain ⟨b,rfl⟩:=hr.ident_of
 exact opensG_ident hC hP hG⟩
theorem ev_desc {p C V G:Nat→Prop}{w:World}{kn:Option Addr}{d:Int}{x:IV}{q:Option Addr}{L:List Node}{ro:Bool} (hC:∀ k,C k→k < w.heap.size) (hI:Inp V w x L) (hVC:∀ k,V k→C k) (hP:HoldsP (NodeP ro (x,[])) G w (x,q)) (hG:∀ k,G k→C k):Ev p C w kn d .desc (x,q) (L.map (NodeP ro)):=⟨hC,fun v hr=>by
 obtain ⟨b,rfl⟩:=hr.desc_of
 obtain ⟨dt,ht⟩:=hI.tour
 exact opensG_desc hC ht hP hVC hG (fun n hn=>by have:=(hI.node n hn).1;omega) (by have:=hI.len;omega)⟩
theorem ev_num {p C:Nat→Prop}{w:World}{kn:Option Addr}{d:Int}{x:IV}{n:Int} (hC:∀ k,C k→k < w.heap.size) (hp:∀ k,p k→C k):Ev p C w kn d (.num n) (x,none) [Just ((98,.int .i64 n),none)]:=⟨hC,fun v hr=>by
 obtain ⟨b,rfl,pb,c0⟩:=hr.num_of
 exact opensG_lit hC (hp b pb) c0⟩
theorem ev_bool {p C:Nat→Prop}{w:World}{kn:Option Addr}{d:Int}{x:IV}{n:Bool} (hC:∀ k,C k→k < w.heap.size) (hp:∀ k,p k→C k):Ev p C w kn d (.bool n) (x,none) [BoolP n]:=⟨hC,fun v hr=>by
 obtain ⟨b,rfl,pb,c0⟩:=hr.bool_of
 exact opensG_lit (y:=boolV n) hC (hp b pb) c0⟩
theorem ev_var {p C G:Nat→Prop}{w:World}{kn:Option Addr}{d:Int}{x y:IV}{name nm:ByteArray}{pos u0 ps:Int}{n vb:Nat}{df hd wh ar:Value}{P:SP} (hC:∀ k,C k→k < w.heap.size) (hp:∀ k,p k→C k) (hF:FindIs C w 0 name 0 n kn (some ⟨vb,0,none⟩)) (hv:C vb) (hk:KnB w vb u0 nm ps (iv y) df hd wh ar) (hP:HoldsP P G w (y,none)) (hG:∀ k,G k→C k):Ev p C w kn d (.var name pos) (x,none) [P]:=⟨hC,fun v hr=>by
 obtain ⟨b,rfl,pb,c0,_⟩:=hr.var_of
 exact opensG_var hC (hp b pb) c0 hF hv hk hP hG⟩
theorem ev_collect {p C:Nat→Prop}{w:World}{kn:Option Addr}{d:Int}{x:IV}{t:Tr}{Ls:List SP} (hp:∀ k,p k→C k) (h:Ev p C w kn d t (x,none) Ls) (hl:Ls.length≤1000):Ev p C w kn d (.collect t) (x,none) [ArrOf Ls]:=⟨h.1,fun v hr=>by
 obtain ⟨b,y,rfl,pb,c0,r⟩:=hr.collect_of
 obtain ⟨T1,b1,rfl⟩:=r.shape
 exact opensG_collect (hp b pb) c0 (h.2 _ r) hl⟩
theorem ev_each {p C:Nat→Prop}{w:World}{kn:Option Addr}{d:Int}{s:Sp}{t:Tr}{Ps:List SP} (hp:∀ k,p k→C k) (h:Ev p C w kn d t s [ArrOf Ps]) (hq:∀ P∈Ps,Plainish P) (hl:Ps.length≤10000):Ev p C w kn d (.each t) s Ps:=⟨h.1,fun v hr=>by
 obtain ⟨b,y,rfl,pb,c0,r⟩:=hr.each_of
 obtain ⟨T1,b1,rfl⟩:=r.shape
 exact opensG_each (hp b pb) c0 (h.2 _ r) hq hl⟩
theorem ev_index {p C:Nat→Prop}{w:World}{kn:Option Addr}{d:Int}{x:IV}{t1 t2:Tr}{P Q R:SP} (hp:∀ k,p k→C k) (h1:Ev p C w kn d t1 (x,none) [P]) (h2:Ev p C w kn d t2 (x,none) [Q]) (h:IdxG C w P Q R):Ev p C w kn d (.index t1 t2) (x,none) [R]:=⟨h1.1,fun v hr=>by
 obtain ⟨b,y,z,rfl,pb,c0,c1,r1,r2⟩:=hr.index_of
 obtain ⟨T1,b1,rfl⟩:=r1.shape
 obtain ⟨T2,b2,rfl⟩:=r2.shape
 exact opensG_index (hp b pb) c0 c1 (h1.2 _ r1) (h2.2 _ r2) h⟩
theorem ev_oper {p C:Nat→Prop}{w:World}{kn:Option Addr}{d:Int}{x:IV}{t1 t2:Tr}{op:ByteArray}{Lo:List (SP×SP)}{Q:SP} (hop:Plainly op) (hp:∀ k,p k→C k) (h1:Ev p C w kn d t1 (x,none) (Lo.map (·.1))) (h2:Ev p C w kn d t2 (x,none) [Q]) (h:∀ y∈Lo,OperG C w op y.1 Q y.2):Ev p C w kn d (.bin t1 op t2) (x,none) (Lo.map (·.2)):=⟨h1.1,fun v hr=>by
 obtain ⟨b,y,z,rfl,pb,c0,c1,c2,r1,r2⟩:=hr.bin_of
 obtain ⟨T1,b1,rfl⟩:=r1.shape
 obtain ⟨T2,b2,rfl⟩:=r2.shape
 exact opensG_oper hop (hp b pb) c0 c1 c2 (h1.2 _ r1) (h2.2 _ r2) h⟩
theorem ev_pipe {p C:Nat→Prop}{w:World}{kn:Option Addr}{d:Int}{s:Sp}{t1 t2:Tr}{Lo:List (SP×List SP)} (hp:∀ k,p k→C k) (h1:Ev p C w kn d t1 s (Lo.map (·.1))) (h2:∀ y∈Lo,∀ w' t G,SameOn C w w'→w.heap.size≤w'.heap.size→HoldsP y.1 G w' t→Ev p (fun k=>C k∨G k) w' kn d t2 t y.2):Ev p C w kn d (.bin t1 ⟨#[124]⟩ t2) s (Lo.flatMap (·.2)):=⟨h1.1,fun v hr=>by
 obtain ⟨b,y,z,rfl,pb,c0,c1,c2,r1,r2⟩:=hr.bin_of
 obtain ⟨T1,b1,rfl⟩:=r1.shape
 obtain ⟨T2,b2,rfl⟩:=r2.shape
 exact opensG_pipe (hp b pb) c0 c1 (by simp [go_sem]) c2 (h1.2 _ r1) (fun y hy w' t G hs hl hP=>(h2 y hy w' t G hs hl hP).2 _ (r2.same (hs.mono hp)))⟩
theorem ev_bind {p C:Nat→Prop}{w:World}{kn:Option Addr}{d:Int}{x:IV}{name:ByteArray}{t1 t2:Tr}{Lo:List (SP×List SP)} (hp:∀ k,p k→C k) (h1:Ev p C w kn d t1 (x,none) (Lo.map (·.1))) (h2:∀ y∈Lo,∀ w' t G nb,SameOn C w w'→w.heap.size≤w'.heap.size→HoldsP y.1 G w' t→KnB w' nb 0 name 0 (iv t.1) (.pointer none) .nilIface (.pointer none) (.pointer kn)→Ev p (fun k=>C k∨G k∨k=nb) w' (some ⟨nb,0,none⟩) d t2 (x,none) y.2):Ev p C w kn d (.bind t1 name t2) (x,none) (Lo.flatMap (·.2)):=⟨h1.1,fun v hr=>by
 obtain ⟨b,y,z,rfl,pb,c0,c1,c2,r1,r2⟩:=hr.bind_of
 obtain ⟨T1,b1,rfl⟩:=r1.shape
 obtain ⟨T2,b2,rfl⟩:=r2.shape
 exact opensG_bind (hp b pb) c0 c1 c2 (h1.2 _ r1) (fun y hy w' t G nb hs hl hP hk=>(h2 y hy w' t G nb hs hl hP hk).2 _ (r2.same (hs.mono hp)))⟩
theorem ev_alone {p C:Nat→Prop}{w:World}{kn:Option Addr}{d:Int}{x:IV}{name:ByteArray}{pos:Int}{n:Nat}{R:SP} (hC:∀ k,C k→k < w.heap.size) (hp:∀ k,p k→C k) (hF:FindIs C w 2 name 0 n kn none) (hN:NotNamed name) (hN2:NotGiven name) (h:AloneG C w name x R):Ev p C w kn d (.call0 name pos) (x,none) [R]:=⟨hC,fun v hr=>by
 obtain ⟨b,rfl,pb,c0,c1,_⟩:=hr.call0_of
 refine ⟨hC,fun w1 hs1 hl1=>open_callg (fun w2 k2=>?_)⟩
 have hs2:SameOn C w w2:=hs1.trans (fun j hj=>k2.block j (Nat.lt_of_lt_of_le (hC j hj) hl1))
 have hl2:=Nat.le_trans hl1 k2.size
 refine named_g hC (hp b pb) c0 c1 hF hN hs2 hl2 (fun w3 k3=>?_)
 exact given_alone hC (hp b pb) c0 c1 hN2 (hs2.trans (fun j hj=>k3.block j (Nat.lt_of_lt_of_le (hC j hj) hl2))) (Nat.le_trans hl2 k3.size) h⟩
theorem ev_empty {p C:Nat→Prop}{w:World}{kn:Option Addr}{d:Int}{x:IV}{pos:Int}{n:Nat} (hC:∀ k,C k→k < w.heap.size) (hp:∀ k,p k→C k) (hF:FindIs C w 2 ⟨#[101,109,112,116,121]⟩ 0 n kn none):Ev p C w kn d (.call0 ⟨#[101,109,112,116,121]⟩ pos) (x,none) []:=⟨hC,fun v hr=>by
 obtain ⟨b,rfl,pb,c0,c1,_⟩:=hr.call0_of
 refine ⟨hC,fun w1 hs1 hl1=>open_callg (fun w2 k2=>?_)⟩
 exact named_empty hC (hp b pb) c0 c1 hF (by simp [go_sem]) (hs1.trans (fun j hj=>k2.block j (Nat.lt_of_lt_of_le (hC j hj) hl1))) (Nat.le_trans hl1 k2.size)⟩
def sPath:ByteArray:=⟨#[112,97,116,104]⟩
def sGetpath:ByteArray:=⟨#[103,101,116,112,97,116,104]⟩
def sSetpath:ByteArray:=⟨#[115,101,116,112,97,116,104]⟩
theorem notNamed_path:NotNamed sPath:=by refine ⟨?_,?_,?_,?_,?_⟩ <;> simp [go_sem,sPath]
theorem notNamed_setpath:NotNamed sSetpath:=by refine ⟨?_,?_,?_,?_,?_⟩ <;> simp [go_sem,sSetpath]
theorem ev_path {p C V:Nat→Prop}{w:World}{kn:Option Addr}{d:Int}{x:IV}{pos:Int}{n:Nat}{L:List Node} (hC:∀ k,C k→k < w.heap.size) (hp:∀ k,p k→C k) (hF:FindIs C w 2 sPath 1 n kn none) (hI:Inp V w x L) (hVC:∀ k,V k→C k):Ev p C w kn d (.call1 sPath .desc pos) (x,none) (L.map fun n=>PathA n.2.reverse):=⟨hC,fun v hr=>by
 obtain ⟨b,ad,ao,c,y,rfl,pb,pad,c0,c1,_,c2,r⟩:=hr.call1_of
 obtain ⟨T1,b1,rfl⟩:=r.shape
 refine ⟨hC,fun w1 hs1 hl1=>open_callg (fun w2 k2=>?_)⟩
 have hs2:SameOn C w w2:=hs1.trans (fun j hj=>k2.block j (Nat.lt_of_lt_of_le (hC j hj) hl1))
 have hl2:=Nat.le_trans hl1 k2.size
 refine named_g hC (hp b pb) c0 c1 hF notNamed_path hs2 hl2 (fun w3 k3=>?_)
 refine given_path hC (hp b pb) c0 c1 (hp ad pad) c2 (by simp [go_sem,sPath]) (hs2.trans (fun j hj=>k3.block j (Nat.lt_of_lt_of_le (hC j hj) hl2))) (Nat.le_trans hl2 k3.size) ?_ (fun n hn=>by have:=(hI.node n hn).1;omega)
 intro w4 q hs4 hl4 hq
 have hC':∀ k,(C k∨k=q)→k < w4.heap.size:=by
  rintro k (h | rfl)
  ·exact Nat.lt_of_lt_of_le (hC k h) hl4
  ·exact lt_of_block hq
 exact (ev_desc (p:=p) (ro:=true) hC' (hI.move (hs4.mono hVC) hl4) (fun k hk=>.inl (hVC k hk)) (HoldsP.root hq) (fun k hk=>.inr hk)).2 _ (r.same (hs4.mono hp))⟩
theorem ev_getpath {p C:Nat→Prop}{w:World}{kn:Option Addr}{d:Int}{x:IV}{pos:Int}{n:Nat}{t:Tr}{Lo:List (SP×SP)} (hp:∀ k,p k→C k) (hF:FindIs C w 2 sGetpath 1 n kn none) (h:Ev p C w kn d t (x,none) (Lo.map (·.1))) (hA:∀ y∈Lo,AlongG C w x y.1 y.2):Ev p C w kn d (.call1 sGetpath t pos) (x,none) (Lo.map (·.2)):=⟨h.1,fun v hr=>by
 obtain ⟨b,ad,ao,c,y,rfl,pb,pad,c0,c1,_,c2,r⟩:=hr.call1_of
 obtain ⟨T1,b1,rfl⟩:=r.shape
 have hC:=h.1
 refine ⟨hC,fun w1 hs1 hl1=>open_callg (fun w2 k2=>?_)⟩
 exact named_getpath (hp b pb) c0 c1 (hp ad pad) c2 hF (by simp [go_sem,sGetpath]) (by simp [go_sem,sGetpath]) (by simp [go_sem,sGetpath]) (by simp [go_sem,sGetpath]) (by simp [go_sem,sGetpath]) (hs1.trans (fun j hj=>k2.block j (Nat.lt_of_lt_of_le (hC j hj) hl1))) (Nat.le_trans hl1 k2.size) (h.2 _ r) hA⟩
theorem ev_setpath {p C:Nat→Prop}{w:World}{kn:Option Addr}{d:Int}{x:IV}{pos:Int}{n:Nat}{t1 t2:Tr}{Q:SP}{Lo:List (SP×SP)} (hp:∀ k,p k→C k) (hF:FindIs C w 2 sSetpath 2 n kn none) (h1:Ev p C w kn d t1 (x,none) (Lo.map (·.1))) (h2:Ev p C w kn d t2 (x,none) [Q]) (hA:∀ y∈Lo,SetG C w x y.1 Q y.2):Ev p C w kn d (.call2 sSetpath t1 t2 pos) (x,none) (Lo.map (·.2)):=⟨h1.1,fun v hr=>by
 obtain ⟨b,ad,ao,c,y,z,rfl,pb,pad,c0,c1,_,c2,c3,r1,r2⟩:=hr.call2_of
 obtain ⟨T1,b1,rfl⟩:=r1.shape
 obtain ⟨T2,b2,rfl⟩:=r2.shape
 have hC:=h1.1
 refine ⟨hC,fun w1 hs1 hl1=>open_callg (fun w2 k2=>?_)⟩
 have hs2:SameOn C w w2:=hs1.trans (fun j hj=>k2.block j (Nat.lt_of_lt_of_le (hC j hj) hl1))
 have hl2:=Nat.le_trans hl1 k2.size
 refine named_g hC (hp b pb) c0 c1 hF notNamed_setpath hs2 hl2 (fun w3 k3=>?_)
 exact given_setpath (hp b pb) c0 c1 (hp ad pad) c2 c3 (by simp [go_sem,sSetpath]) (by simp [go_sem,sSetpath]) (by simp [go_sem,sSetpath]) (hs2.trans (fun j hj=>k3.block j (Nat.lt_of_lt_of_le (hC j hj) hl2))) (Nat.le_trans hl2 k3.size) (h1.2 _ r1) (h2.2 _ r2) hA⟩
theorem ev_update (hS0:ComparesStr) {p C V:Nat→Prop}{w:World}{kn:Option Addr}{d:Int}{x:IV}{L:List Node}{keep:Bool}{t2:Tr} (hC:∀ k,C k→k < w.heap.size) (hp:∀ k,p k→C k) (hI:Inp V w x L) (hVC:∀ k,V k→C k) (hR:∀ w1 y,SameOn C w w1→w.heap.size≤w1.heap.size→Ev p C w1 kn d t2 (y,none) (if keep then [Just (y,none)] else [])):Ev p C w kn d (.bin .desc ⟨#[124,61]⟩ t2) (x,none) [EqvP x]:=⟨hC,fun v hr=>by
 obtain ⟨b,y,z,rfl,pb,c0,c1,c2,r1,r2⟩:=hr.bin_of
 obtain ⟨T1,b1,rfl⟩:=r1.shape
 obtain ⟨T2,b2,rfl⟩:=r2.shape
 refine opensG_update hS0 (keep:=keep) (by simp [go_sem]) (by simp [go_sem]) (by simp [go_sem]) (by simp [go_sem]) hC hI hVC (hp b pb) c0 c1 c2 ?_ ?_
 ·intro w4 q hs4 hl4 hq
  have hC':∀ k,(C k∨k=q)→k < w4.heap.size:=by
   rintro k (h | rfl)
   ·exact Nat.lt_of_lt_of_le (hC k h) hl4
   ·exact lt_of_block hq
  exact (ev_desc (p:=p) (ro:=true) hC' (hI.move (hs4.mono hVC) hl4) (fun k hk=>.inl (hVC k hk)) (HoldsP.root hq) (fun k hk=>.inr hk)).2 _ (r1.same (hs4.mono hp))
 ·intro w1 y hs1 hl1
  exact ((hR w1 y hs1 hl1).2 _ (r2.same (hs1.mono hp))).2 w1 (SameOn.refl _ _) (Nat.le_refl _)⟩
end Go.Proofs.Tryz
namespace Go.Proofs.Tryz
set_option maxHeartbeats 16000000
open Go.RowKit
set_option maxRecDepth 10000
def noneOf (es:List (ByteArray×Int)) (name:ByteArray):Bool:=es.all fun e=>!(e.1.toList == name.toList)
theorem chain_find {p C:Nat→Prop}{w:World}{base:Option Addr}{name:ByteArray}{na:Int}{n:Nat}{r:Option Addr} (hp:∀ k,p k→C k) (hb:FindIs C w 2 name na n base r):∀ {es:List (ByteArray×Int)}{kn:Option Addr},noneOf es name=true→ChainOn p w base es kn→FindIs C w 2 name na (n+es.length) kn r
 | [],kn,_,h=>by
  have h:kn=base:=h
  rw [h]
  exact hb
 | e :: es,kn,ho,⟨b,db,around,h1,h2,h3,h4⟩=>by
  simp only [noneOf,List.all_cons,Bool.and_eq_true] at ho
  exact ⟨b,2,e.1,e.2,_,_,_,_,around,h1,hp b h2,h3,.inr ⟨.inr (.inl ⟨rfl,by simpa using ho.1⟩),chain_find hp hb ho.2 h4⟩⟩
theorem find_none {p C:Nat→Prop}{w:World}{kn:Option Addr}{name:ByteArray}{na:Int} (hp:∀ k,p k→C k) (h:GivenC p w kn) (h1:noneOf sOthers name=true) (h2:(sMap.toList == name.toList)=false):FindIs C w 2 name na 8 kn none:=by
 obtain ⟨mb,hc,hm,db,pd,po,pc,x,hk,_⟩:=h
 exact chain_find (n:=1) hp ⟨mb,2,sMap,1,_,_,_,_,none,rfl,hp mb hm,hk,.inr ⟨.inr (.inl ⟨rfl,h2⟩),rfl,rfl⟩⟩ h1 hc
theorem find_map {p C:Nat→Prop}{w:World}{kn:Option Addr} (hp:∀ k,p k→C k) (h:GivenC p w kn):∃ mb,MapB p w mb∧FindIs C w 2 sMap 1 8 kn (some ⟨mb,0,none⟩):=by
 obtain ⟨mb,hc,hm⟩:=h
 have hm':=hm
 obtain ⟨hm,db,pd,po,pc,x,hk,_⟩:=hm'
 exact ⟨mb,‹_›,chain_find (n:=1) hp ⟨mb,2,sMap,1,_,_,_,_,none,rfl,hp mb hm,hk,.inl ⟨⟨rfl,rfl,rfl⟩,rfl⟩⟩ (by kernel_rfl) hc⟩
theorem FindIs.past {C:Nat→Prop}{w:World}{name vn:ByteArray}{na:Int}{n nb:Nat}{kn r:Option Addr}{val:Value} (h:FindIs C w 2 name na n kn r) (hC:C nb) (hk:KnB w nb 0 vn 0 val (.pointer none) .nilIface (.pointer none) (.pointer kn)):FindIs C w 2 name na (n+1) (some ⟨nb,0,none⟩) r :=
 ⟨nb,0,vn,0,_,_,_,_,kn,rfl,hC,hk,.inr ⟨.inl rfl,h⟩⟩
theorem FindIs.here {C:Nat→Prop}{w:World}{vn:ByteArray}{nb:Nat}{kn:Option Addr}{val:Value} (hC:C nb) (hk:KnB w nb 0 vn 0 val (.pointer none) .nilIface (.pointer none) (.pointer kn)):FindIs C w 0 vn 0 1 (some ⟨nb,0,none⟩) (some ⟨nb,0,none⟩) :=
 ⟨nb,0,vn,0,_,_,_,_,kn,rfl,hC,hk,.inl ⟨⟨rfl,rfl,rfl⟩,rfl⟩⟩
theorem FindIs.next {C:Nat→Prop}{w:World}{name vn:ByteArray}{n nb:Nat}{kn r:Option Addr}{val:Value} (h:FindIs C w 0 name 0 n kn r) (hC:C nb) (hk:KnB w nb 0 vn 0 val (.pointer none) .nilIface (.pointer none) (.pointer kn)) (hn:(vn.toList == name.toList)=false):FindIs C w 0 name 0 (n+1) (some ⟨nb,0,none⟩) r :=
 ⟨nb,0,vn,0,_,_,_,_,kn,rfl,hC,hk,.inr ⟨.inr (.inl ⟨rfl,hn⟩),h⟩⟩
def NoPath (P:SP):Prop:=∀ w s,P w s→s.2=none
theorem NoPath.plainish {P:SP} (h:NoPath P):Plainish P:=fun w v q hP=>by
 have:q=none:=h w (v,q) hP
 rw [← this]
 exact hP
theorem MapB.move {p:Nat→Prop}{w w':World}{mb:Nat} (h:MapB p w mb) (hs:SameOn p w w'):MapB p w' mb:=by
 obtain ⟨h1,db,pd,po,pc,x,h2,h3,h4,h5,h6,h7,h8⟩:=h
 exact ⟨h1,db,pd,po,pc,x,h2.same (hs mb h1),h3,h4,hs.cell h3 h5,hs.cell h4 h6,hs.cell h3 h7,h8.same hs⟩
theorem ev_map {p C:Nat→Prop}{w:World}{kn:Option Addr}{d:Int}{x:IV}{pos:Int}{n mb:Nat}{tf:Tr}{Lo:List (SP×SP)} (hC:∀ k,C k→k < w.heap.size) (hp:∀ k,p k→C k) (hF:FindIs C w 2 sMap 1 n kn (some ⟨mb,0,none⟩)) (hm:MapB p w mb) (hd0:0 < d) (hd1:d≤1000)
  (hx:HoldsP (ArrOf (Lo.map (·.1))) C w (x,none)) (hq:∀ y∈Lo,NoPath y.1) (hl:Lo.length≤1000)
  (hf:∀ y∈Lo,∀ w' t G,SameOn C w w'→w.heap.size≤w'.heap.size→HoldsP y.1 G w' t→∀ C',(∀ k,C k∨G k→C' k)→(∀ k,C' k→k < w'.heap.size)→Ev p C' w' kn (d - 1) tf t [y.2]) :
  Ev p C w kn d (.call1 sMap tf pos) (x,none) [ArrOf (Lo.map (·.2))]:=⟨hC,fun v hr=>by
 obtain ⟨b,ad,ao,c,y,rfl,pb,pad,c0,c1,_,c2,r⟩:=hr.call1_of
 obtain ⟨T1,b1,rfl⟩:=r.shape
 refine ⟨hC,fun w1 hs1 hl1=>open_callg (fun w2 k2=>?_)⟩
 have hs2:SameOn C w w2:=hs1.trans (fun j hj=>k2.block j (Nat.lt_of_lt_of_le (hC j hj) hl1))
 have hl2:=Nat.le_trans hl1 k2.size
 refine named_def hC (hp b pb) c0 c1 hF hs2 hl2 (fun w3 k3=>?_)
 have hs3:SameOn C w w3:=hs2.trans (fun j hj=>k3.block j (Nat.lt_of_lt_of_le (hC j hj) hl2))
 have hl3:=Nat.le_trans hl2 k3.size
 obtain ⟨m1,db,pd,po,pc,xb,m2,m3,m4,m5,m6,m7,m8⟩:=hm.move (hs3.mono hp)
 obtain ⟨Tb,bb,rfl⟩:=m8.shape
 refine call_def1 (dname:=sMap) (s:=(x,none)) m2 m5 m6 m7 (hs3.cell (hp ad pad) c2) hd0 hd1 (fun w4 nb k4 hnb hkn=>?_)
 have hs4:SameOn C w w4:=hs3.trans (fun j hj=>k4.block j (Nat.lt_of_lt_of_le (hC j hj) hl3))
 have hl4:=Nat.le_trans hl3 k4.size
 have hnl:=hkn.lt
 have hC4:∀ k,(C k∨k=nb)→k < w4.heap.size:=by
  rintro k (h | rfl)
  ·exact Nat.lt_of_lt_of_le (hC k h) hl4
  ·exact hnl
 have hp4:∀ k,p k→C k∨k=nb:=fun k hk=>.inl (hp k hk)
 have hx4:=hx.move hs4 hl4
 have hall:∀ y∈Lo,Plainish y.1:=fun y hy=>(hq y hy).plainish
 have hbody:Ev p (fun k=>C k∨k=nb) w4 (some ⟨nb,0,none⟩) (d - 1) mapBody (x,none) [ArrOf (Lo.map (·.2))]:=by
  have e1:(Lo.map (fun y:SP×SP=>(y.1,[y.2]))).map (·.1)=Lo.map (·.1):=by simp
  have e2:(Lo.map (fun y:SP×SP=>(y.1,[y.2]))).flatMap (·.2)=Lo.map (·.2):=flat_one Lo
  refine ev_collect hp4 ?_ (by simpa using hl)
  rw [← e2]
  refine ev_pipe hp4 ?_ ?_
  ·rw [e1]
   refine ev_each hp4 (ev_ident hC4 hx4 (fun k hk=>.inl hk)) ?_ (by rw [List.length_map];omega)
   intro P hP
   obtain ⟨y,hy,rfl⟩:=List.mem_map.1 hP
   exact hall y hy
  ·intro y hy w5 t G hs5 hl5 hP
   obtain ⟨z,hz,rfl⟩:=List.mem_map.1 hy
   have hGl:=hP.1
   have hC5:∀ k,((C k∨k=nb)∨G k)→k < w5.heap.size:=by
    rintro k (h | h)
    ·exact Nat.lt_of_lt_of_le (hC4 k h) hl5
    ·exact hGl k h
   refine ⟨hC5,fun v hr=>?_⟩
   obtain ⟨b',rfl,pb',c0',c1',_⟩:=hr.call0_of
   have hkn5:=hkn.same (hs5 nb (.inr rfl))
   have hs5C:SameOn C w w5:=hs4.trans (hs5.mono (fun _ h=>.inl h))
   have hev:=hf z hz w5 t G hs5C (Nat.le_trans hl4 hl5) hP (fun k=>(C k∨k=nb)∨G k) (fun k hk=>hk.elim (fun h=>.inl (.inl h)) .inr) hC5
   obtain ⟨hCe,hO⟩:=hev.2 _ (r.same ((hs5C).mono hp))
   refine ⟨hC5,fun w6 hs6 hl6=>open_callg (fun w7 k7=>?_)⟩
   have hs7:SameOn (fun k=>(C k∨k=nb)∨G k) w5 w7:=hs6.trans (fun j hj=>k7.block j (Nat.lt_of_lt_of_le (hC5 j hj) hl6))
   have hl7:=Nat.le_trans hl6 k7.size
   have hpl:t.2=none:=hq z hz _ _ hP.here
   obtain ⟨t1,t2⟩:=t
   simp only at hpl
   subst hpl
   refine named_def (cb:=nb) (n:=1) hC5 (.inl (.inl (hp b' pb'))) c0' c1' ⟨nb,2,sF,0,_,_,_,_,some ⟨mb,0,none⟩,rfl,.inl (.inr rfl),hkn5,.inl ⟨⟨rfl,rfl,rfl⟩,rfl⟩⟩ hs7 hl7 (fun w8 k8=>?_)
   have hs8:=hs7.trans (fun j hj=>k8.block j (Nat.lt_of_lt_of_le (hC5 j hj) hl7))
   refine call_param (s:=(t1,none)) (hkn5.same (hs8 nb (.inl (.inr rfl)))) (fun w9 k9=>?_)
   have hl8:=Nat.le_trans hl7 k8.size
   exact hO w9 (hs8.trans (fun j hj=>k9.block j (Nat.lt_of_lt_of_le (hC5 j hj) hl8))) (Nat.le_trans hl8 k9.size)
 refine ((hbody.2 _ (m8.same (fun j hj=>k4.block j (by have:=hC j (hp j hj);omega)))).2 w4 (SameOn.refl _ _) (Nat.le_refl _)).mono (fun e w' h=>h.more ?_)
 rintro k (h | rfl)
 ·exact .inl (.inl h)
 ·exact .inl (.inr hnb)⟩
end Go.Proofs.Tryz
namespace Go.Proofs.Tryz
set_option maxHeartbeats 16000000
open Go.RowKit
set_option maxRecDepth 10000
theorem eqv_le {w:World}{d n D N:Nat}{x y:IV} (h:Eqv w d n x y) (hd:d≤D) (hn:n≤N):Eqv w D N x y:=by
 have hN:Eqv w d N x y:=by
  cases d with
  | zero=>exact ⟨Nat.le_trans h.1 hn,h.2⟩
  | succ d =>
   rcases h with h | ⟨r,r',ts,e1,e2,o1,o2,ht,hs⟩ | ⟨r,r',ts,e1,e2,o1,o2,ht,hs⟩
   ·exact .inl ⟨Nat.le_trans h.1 hn,h.2⟩
   ·exact .inr (.inl ⟨r,r',ts,e1,e2,o1,o2,ht,Nat.le_trans hs hn⟩)
   ·exact .inr (.inr ⟨r,r',ts,e1,e2,o1,o2,ht,Nat.le_trans hs hn⟩)
 clear h
 induction D with
 | zero =>
  have:d=0:=by omega
  rw [← this]
  exact hN
 | succ D ih =>
  by_cases e:d=D+1
  ·rw [← e];exact hN
  ·exact (ih (by omega)).up
theorem eqv_list {w:World}:∀ {L:List Node},(∀ n∈L,∃ d m,Eqv w d m n.1 n.1∧m≤500)→∃ D,∀ n∈L,Eqv w D 500 n.1 n.1
 | [],_=>⟨0,fun n hn=>by simp at hn⟩
 | n :: L,h=>by
  obtain ⟨d,m,h1,h2⟩:=h n (.head _)
  obtain ⟨D,hD⟩:=eqv_list (fun y hy=>h y (.tail _ hy))
  refine ⟨max d D,fun y hy=>?_⟩
  rcases List.mem_cons.1 hy with rfl | hy
  ·exact eqv_le h1 (by omega) h2
  ·exact eqv_le (hD y hy) (by omega) (Nat.le_refl _)
theorem sum_const {α:Type} (c:Nat) (l:List α):(l.map fun _=>c).sum=l.length * c:=by
 induction l with
 | nil=>simp
 | cons x l ih=>simp [ih,Nat.add_mul];omega
theorem GivenC.move {p:Nat→Prop}{w w':World}{kn:Option Addr} (h:GivenC p w kn) (hs:SameOn p w w'):GivenC p w' kn:=by
 obtain ⟨mb,h1,h2⟩:=h
 exact ⟨mb,h1.move (hs.mono (fun _ h=>h.1)),h2.move hs⟩
theorem noPath_pathA (ss:List IV):NoPath (PathA ss):=fun _ _ h=>h.1
theorem noPath_arr (Ps:List SP):NoPath (ArrOf Ps):=fun _ _ h=>h.1
theorem noPath_just (x:IV):NoPath (Just (x,none)):=fun _ s h=>by
 have h:s=(x,none):=h
 rw [h]
theorem HoldsP.plain {P:SP}{G:Nat→Prop}{w:World}{t:Sp} (h:HoldsP P G w t) (hn:NoPath P):HoldsP P G w (t.1,none):=by
 have:=hn w t h.here
 obtain ⟨t1,t2⟩:=t
 simp only at this
 subst this
 exact h
def sP:ByteArray:=⟨#[112]⟩
def sV:ByteArray:=⟨#[118]⟩
structure About (p C V:Nat→Prop) (w:World) (kn:Option Addr) (x:IV) (L:List Node):Prop where
 hC:∀ k,C k→k < w.heap.size
 hp:∀ k,p k→C k
 hVC:∀ k,V k→C k
 inp:Inp V w x L
 giv:GivenC p w kn
theorem About.move {p C C' V:Nat→Prop}{w w':World}{kn:Option Addr}{x:IV}{L:List Node} (h:About p C V w kn x L) (hs:SameOn C w w') (hl:w.heap.size≤w'.heap.size) (hCC:∀ k,C k→C' k) (hC':∀ k,C' k→k < w'.heap.size):About p C' V w' kn x L :=
 ⟨hC',fun k hk=>hCC k (h.hp k hk),fun k hk=>hCC k (h.hVC k hk),h.inp.move (hs.mono h.hVC) hl,h.giv.move (hs.mono h.hp)⟩
theorem About.none {p C V:Nat→Prop}{w:World}{kn:Option Addr}{x:IV}{L:List Node} (h:About p C V w kn x L) {name:ByteArray}{na:Int} (h1:noneOf sOthers name=true) (h2:(sMap.toList == name.toList)=false):FindIs C w 2 name na 8 kn none:=find_none h.hp h.giv h1 h2
theorem ev_W1 (hS:ComparesStr) {p C V:Nat→Prop}{w:World}{kn:Option Addr}{d:Int}{x:IV}{L:List Node} (h:About p C V w kn x L):Ev p C w kn d tW1 (x,none) [BoolP true]:=by
 have e1:(L.map (fun n:Node=>(PathA n.2.reverse,[Just (n.1,none)]))).map (·.1)=L.map (fun n=>PathA n.2.reverse):=by rw [List.map_map];rfl
 have e2:(L.map (fun n:Node=>(PathA n.2.reverse,[Just (n.1,(none:Option Addr))]))).flatMap (·.2)=L.map (fun n=>Just (n.1,none)):=by
  clear h e1
  induction L with
  | nil=>rfl
  | cons n L ih=>simp only [List.map_cons,List.flatMap_cons,ih];rfl
 refine ev_oper (Lo:=[(ArrOf (L.map fun n=>Just (n.1,none)),BoolP true)]) (Q:=ArrOf (L.map (NodeP false))) plainly_eq h.hp ?_ ?_ ?_
 ·refine ev_collect h.hp ?_ (by rw [List.length_map];have:=h.inp.len;omega)
  rw [← e2]
  refine ev_bind h.hp ?_ ?_
  ·rw [e1]
   exact ev_path h.hC h.hp (h.none (by kernel_rfl) (by kernel_rfl)) h.inp h.hVC
  ·intro y hy w' t G nb hs hl hP hk
   obtain ⟨n,hn,rfl⟩:=List.mem_map.1 hy
   have hCl:=h.hC
   have hGl:=hP.1
   have hnl:=hk.lt
   have hC':∀ k,(C k∨G k∨k=nb)→k < w'.heap.size:=by grind
   have h':=h.move hs hl (C':=fun k=>C k∨G k∨k=nb) (fun _ h=>.inl h) hC'
   exact ev_getpath (Lo:=[(PathA n.2.reverse,Just (n.1,none))]) h'.hp ((h'.none (by kernel_rfl) (by kernel_rfl)).past (.inr (.inr rfl)) hk) (ev_var hC' h'.hp (FindIs.here (.inr (.inr rfl)) hk) (.inr (.inr rfl)) hk (hP.plain (noPath_pathA _)) (fun k hk=>.inr (.inl hk))) (fun y hy=>by
    rw [List.mem_singleton] at hy
    subst hy
    exact along_node hS h'.inp h'.hVC hn)
 ·exact ev_collect h.hp (ev_desc h.hC h.inp h.hVC (G:=fun _=>False) ⟨fun _ h=>h.elim,fun _ _ _=>⟨rfl,rfl⟩⟩ (fun _ h=>h.elim)) (by rw [List.length_map];have:=h.inp.len;omega)
 ·intro y hy
  rw [List.mem_singleton] at hy
  subst hy
  refine oper_same hS (fun w' t s G G' hs hl hP hQ=>?_)
  obtain ⟨v,xs,rfl,o1,l1,_,h1⟩:=hP.arr (fun P hP=>by
   obtain ⟨n,_,rfl⟩:=List.mem_map.1 hP
   exact (noPath_just n.1).plainish)
  obtain ⟨v',ys,rfl,o2,l2,_,h2⟩:=hQ.arr (fun P hP=>by
   obtain ⟨n,_,rfl⟩:=List.mem_map.1 hP
   intro w v q hh
   exact ⟨hh.1,rfl⟩)
  rw [List.length_map] at l1 l2
  have ex:xs=L.map (·.1):=by
   apply List.ext_getElem?
   intro j
   by_cases hj:j < L.length
   ·obtain ⟨z,hz,hh⟩:=h1 j (Just (L[j].1,none)) (by simp [hj])
    have:(z,(none:Option Addr))=(L[j].1,none):=hh.here
    cases this
    rw [hz];simp [hj]
   ·rw [List.getElem?_eq_none (by omega),List.getElem?_eq_none (by simp;omega)]
  have ey:ys=L.map (·.1):=by
   apply List.ext_getElem?
   intro j
   by_cases hj:j < L.length
   ·obtain ⟨z,hz,hh⟩:=h2 j (NodeP false L[j]) (by simp [hj])
    have:z=L[j].1:=hh.here.1
    rw [hz,this];simp [hj]
   ·rw [List.getElem?_eq_none (by omega),List.getElem?_eq_none (by simp;omega)]
  have hI:=h.inp.move (hs.mono h.hVC) hl
  obtain ⟨D,hD⟩:=eqv_list (w:=w') (L:=L) (fun n hn=>by
   obtain ⟨_,_,d,m,g1,g2⟩:=hI.node n hn
   exact ⟨d,m,g1.keep (kept_mask (SameOn.refl _ _)),g2⟩)
  have hL:=hI.len
  refine ⟨D+1,1+L.length * 500,.inr (.inl ⟨v,v',L.map (fun n=>(n.1,n.1,500)),rfl,rfl,?_,?_,fun t ht=>?_,?_⟩),by omega⟩
  ·rw [ex,List.length_map,List.map_map] at o1
   rw [List.length_map,List.map_map]
   exact o1
  ·rw [ey,List.length_map,List.map_map] at o2
   rw [List.length_map,List.map_map]
   exact o2
  ·obtain ⟨n,hn,rfl⟩:=List.mem_map.1 ht
   exact hD n hn
  ·rw [List.map_map]
   have:=sum_const 500 L
   simp only [Function.comp_def]
   omega
theorem ev_W4 (hS:ComparesStr) {p C V:Nat→Prop}{w:World}{kn:Option Addr}{d:Int}{x:IV}{L:List Node} (h:About p C V w kn x L):Ev p C w kn d tW4 (x,none) [BoolP true]:=by
 refine ev_oper (Lo:=[(EqvP x,BoolP true)]) (Q:=Just (x,none)) plainly_eq h.hp ?_ (ev_ident h.hC (just_holds _ _) (fun _ h=>h.elim)) ?_
 ·exact ev_update hS (keep:=true) h.hC h.hp h.inp h.hVC (fun w1 y hs hl=>ev_ident (fun k hk=>Nat.lt_of_lt_of_le (h.hC k hk) hl) (just_holds _ _) (fun _ h=>h.elim))
 ·intro y hy
  rw [List.mem_singleton] at hy
  subst hy
  refine oper_same hS (fun w' t s G G' hs hl hP hQ=>?_)
  have hs':s=(x,none):=hQ.here
  subst hs'
  obtain ⟨_,d,m,h1,h2⟩:=hP.here
  exact ⟨d,m,h1,by omega⟩
theorem ev_W5 (hS:ComparesStr) {p C V:Nat→Prop}{w:World}{kn:Option Addr}{d:Int}{x:IV}{L:List Node} (h:About p C V w kn x L):Ev p C w kn d tW5 (x,none) [BoolP true]:=by
 refine ev_oper (Lo:=[(EqvP x,BoolP true)]) (Q:=Just (x,none)) plainly_eq h.hp ?_ (ev_ident h.hC (just_holds _ _) (fun _ h=>h.elim)) ?_
 ·exact ev_update hS (keep:=false) h.hC h.hp h.inp h.hVC (fun w1 y hs hl=>ev_empty (n:=8) (fun k hk=>Nat.lt_of_lt_of_le (h.hC k hk) hl) h.hp (find_none h.hp (h.giv.move (hs.mono h.hp)) (by kernel_rfl) (by kernel_rfl)))
 ·intro y hy
  rw [List.mem_singleton] at hy
  subst hy
  refine oper_same hS (fun w' t s G G' hs hl hP hQ=>?_)
  have hs':s=(x,none):=hQ.here
  subst hs'
  obtain ⟨_,d,m,h1,h2⟩:=hP.here
  exact ⟨d,m,h1,by omega⟩
end Go.Proofs.Tryz
