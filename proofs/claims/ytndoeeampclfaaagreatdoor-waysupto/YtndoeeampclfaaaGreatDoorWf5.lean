import Derived.Test.YtndoeeampclfaaaGreatDoorWe4
set_option linter.all false
namespace Go.Proofs.Tryz
set_option maxHeartbeats 16000000
open Go.RowKit Go.Shelf
set_option maxRecDepth 100000
attribute [local go_sem] Oper.semAt_some
structure RJ (w:World) (pp:Option Addr) (N pc hb hc:Nat) (hs ss:List IV) (z:IV) (rc:Loop) (i:Nat) (W:World):Prop where
 below:Below w.heap.size w W
 p:Box W w.heap.size (.slice pp N pc) 86
 s:Box W (w.heap.size+1+1) (.slice (some ⟨hb,0,none⟩) N hc) 85
 d:W.heap[w.heap.size+1+1+1]? = some (.deferred (some []))
 l:W.heap[w.heap.size+1+1+1+1]? = some (.loop rc)
 x:∃ y,Box W (w.heap.size+1) (iv y) 32∧((i=N∧y=z)∨∃ x0,hs[i]? = some x0∧Put w.heap.size (mask (w.heap.size+1) W) x0 (ss.drop i) z y)
theorem rebuilt_iter {w:World}{hb hc N pc:Nat}{pp:Option Addr}{hs ss:List IV}{z:IV} (rc:Loop) (hhs:w.ownsRow 0 32 1 (.slice (some ⟨hb,0,none⟩) N hc) N (hs.map iv)) (hN:N≤10000)
  (hround:∀ i W x,RJ w pp N pc hb hc hs ss z rc (i+1) W→hs[i]? = some x→YieldAt Fence.wide (3 - 1) Tryz.prog (w.heap.size+1+1+1+1) #[.int .i64 (i:Nat),iv x] W fun e W'=>e = .returned (.bool true)∧RJ w pp N pc hb hc hs ss z rc i W') :
  CallsIn Fence.wide 3 Tryz.prog 284 #[.func (.yield (w.heap.size+1+1+1+1)) #[] #[],.pointer (some ⟨w.heap.size+1+1,0,none⟩)] (((((w.alloc (.cells #[.slice pp N pc] 86)).alloc (.cells #[iv z] 32)).alloc (.cells #[.slice (some ⟨hb,0,none⟩) N hc] 85)).alloc (.deferred (some []))).alloc (.loop rc)) fun e W'=>(∃ v,e = .returned v)∧RJ w pp N pc hb hc hs ss z rc 0 W':=by
 have hl:hs.length=N:=by have:=hhs.1;simpa using this
 have hlt:hb < w.heap.size:=(hhs.lt hb rfl).2
 refine back_in 3 (w.heap.size+1+1+1+1) (w.heap.size+1+1) hb 0 hc N hs (RJ w pp N pc hb hc hs ss z rc) hl (by omega) (fun i W hj=>hj.s.cell) (fun i W x hj hx=>?_) hround _ ?_
 ·rw [Nat.zero_add]
  refine (hj.below.cell (p:=⟨hb,i,none⟩) hlt).trans ?_
  have hi:=(List.getElem?_eq_some_iff.1 hx).1
  rw [hhs.cellAt i (by omega),List.getElem?_map,hx]
  rfl
 ·have b1:=below_alloc w (.cells #[.slice pp N pc] 86)
  have e0:∀ (X:World) (o:Obj) (k:Nat),k < X.heap.size→(X.alloc o).heap[k]? = X.heap[k]?:=fun X o k hk=>(below_alloc X o).block k hk
  refine ⟨?_,?_,?_,?_,?_,z,?_,.inl ⟨rfl,rfl⟩⟩
  ·exact (((b1.alloc (by simp) _).alloc (by simp;omega) _).alloc (by simp;omega) _).alloc (by simp;omega) _
  ·show _=some _
   rw [e0 _ _ _ (by simp;omega),e0 _ _ _ (by simp;omega),e0 _ _ _ (by simp;omega),e0 _ _ _ (by simp)]
   exact heap_new w _
  ·show _=some _
   rw [e0 _ _ _ (by simp),e0 _ _ _ (by simp)]
   have:=heap_new ((w.alloc (.cells #[.slice pp N pc] 86)).alloc (.cells #[iv z] 32)) (.cells #[.slice (some ⟨hb,0,none⟩) N hc] 85)
   simpa using this
  ·rw [e0 _ _ _ (by simp)]
   have:=heap_new (((w.alloc (.cells #[.slice pp N pc] 86)).alloc (.cells #[iv z] 32)).alloc (.cells #[.slice (some ⟨hb,0,none⟩) N hc] 85)) (.deferred (some []))
   simpa using this
  ·have:=heap_new ((((w.alloc (.cells #[.slice pp N pc] 86)).alloc (.cells #[iv z] 32)).alloc (.cells #[.slice (some ⟨hb,0,none⟩) N hc] 85)).alloc (.deferred (some []))) (.loop rc)
   simpa using this
  ·show _=some _
   rw [e0 _ _ _ (by simp),e0 _ _ _ (by simp),e0 _ _ _ (by simp)]
   have:=heap_new (w.alloc (.cells #[.slice pp N pc] 86)) (.cells #[iv z] 32)
   simpa using this
end Go.Proofs.Tryz
namespace Go.Proofs.Tryz
set_option maxHeartbeats 16000000
open Go.RowKit Go.Shelf
set_option maxRecDepth 100000
theorem begun_at {W:World}{lB:Nat}{rc:Loop} (hl:W.heap[lB]? = some (.loop rc)) (hst:rc.state = .ready) :
  ∃ Wb,(Instr.beginRound lB).run Tryz.prog W = .ok () Wb∧(∀ k,k≠lB→Wb.heap[k]? = W.heap[k]?)∧Wb.heap.size=W.heap.size∧Wb.heap[lB]? = some (.loop { rc with state:=.busy })∧Wb.os=W.os∧Wb.tape=W.tape∧Wb.output=W.output :=
 ⟨_,run_beginRound hl hst,fun k hk=>World.putObj_heap_other hk,by simp [World.putObj],World.putObj_heap_same (lt_of_block hl),rfl,rfl,rfl⟩
theorem RJ.next {w W Wb w2:World}{pp:Option Addr}{N pc hb hc i:Nat}{hs ss:List IV}{z x s x1 y y':IV}{rc:Loop} (hj:RJ w pp N pc hb hc hs ss z rc (i+1) W) (hl:ss.length=N) (hsl:hs.length=N) (hx:hs[i]? = some x) (hs':ss[i]? = some s) (ha:At1 w x s x1) (hnext:hs[i+1]? = some x1∨i+1=N)
  (by_:Box W (w.heap.size+1) (iv y) 32) (hput:(i+1=N∧y=z)∨∃ x0,hs[i+1]? = some x0∧Put w.heap.size (mask (w.heap.size+1) W) x0 (ss.drop (i+1)) z y)
  (hother:∀ k,k≠w.heap.size+1+1+1+1→Wb.heap[k]? = W.heap[k]?) (hWs:Wb.heap.size=W.heap.size) {rc':Loop} (hlb:Wb.heap[w.heap.size+1+1+1+1]? = some (.loop rc')) (hos:Wb.os=W.os) (htp:Wb.tape=W.tape) (hot:Wb.output=W.output) (k2:Below Wb.heap.size Wb.drew w2)
  (hw:WithV (mask (w.heap.size+1) w2) x s y y') (hnew:∀ g,y'.2.ownBlock=some g→w.heap.size≤g) :
  RJ w pp N pc hb hc hs ss z rc i ((w2.setCell ⟨w.heap.size+1,0,none⟩ (iv y')).putObj (w.heap.size+1+1+1+1) (.loop rc)):=by
 have hll:=lt_of_block hj.l
 have hd:=k2.size
 have hd:Wb.heap.size≤w2.heap.size:=hd
 have hk:∀ k,k < W.heap.size→k≠w.heap.size+1+1+1+1→w2.heap[k]? = W.heap[k]?:=fun k h1 h2=>(k2.block k (by omega)).trans (hother k h2)
 have hk':∀ k,k≠w.heap.size+1→k≠w.heap.size+1+1+1+1→((w2.setCell ⟨w.heap.size+1,0,none⟩ (iv y')).putObj (w.heap.size+1+1+1+1) (.loop rc)).heap[k]? = w2.heap[k]?:=fun k h1 h2=>(World.putObj_heap_other h2).trans (Below.heap_setCell _ _ _ _ (by simpa using h1))
 have hall:∀ k,k < W.heap.size→k≠w.heap.size+1→k≠w.heap.size+1+1+1+1→((w2.setCell ⟨w.heap.size+1,0,none⟩ (iv y')).putObj (w.heap.size+1+1+1+1) (.loop rc)).heap[k]? = W.heap[k]?:=fun k h0 h1 h2=>(hk' k h1 h2).trans (hk k h0 h2)
 have hbx2:Box w2 (w.heap.size+1) (iv y) 32:=(hk _ (by omega) (by omega)).trans by_
 have hsz:((w2.setCell ⟨w.heap.size+1,0,none⟩ (iv y')).putObj (w.heap.size+1+1+1+1) (.loop rc)).heap.size=w2.heap.size:=by simp [World.putObj]
 have hdp:=hj.p.lt
 refine ⟨?_,?_,?_,?_,?_,y',?_,.inr ⟨x,hx,?_⟩⟩
 ·exact ⟨(k2.os.trans hos).trans hj.below.os,(k2.tape.trans htp).trans hj.below.tape,(k2.output.trans hot).trans hj.below.output,by rw [hsz];have:=hj.below.size;omega,fun k hkk=>(hall k (by have:=hj.below.size;omega) (by omega) (by omega)).trans (hj.below.block k hkk)⟩
 ·exact hj.p.same (hall _ hdp (by omega) (by omega))
 ·exact hj.s.same (hall _ hj.s.lt (by omega) (by omega))
 ·exact (hall _ (lt_of_block hj.d) (by omega) (by omega)).trans hj.d
 ·exact World.putObj_heap_same (by simp;omega)
 ·exact (hbx2.set (iv y')).same (World.putObj_heap_other (by omega))
 ·have hi:i < ss.length:=(List.getElem?_eq_some_iff.1 hs').1
  rw [List.drop_eq_getElem_cons hi,(List.getElem?_eq_some_iff.1 hs').2]
  refine ⟨x1,y,?_,?_,?_,hnew⟩
  ·refine ha.keep (fun b c fz e=>?_)
   have hbl:b < w.heap.size:=by rcases e with e | e <;> exact lt_of_block e
   rw [mask_other (by omega)]
   exact (hall b (by have:=hj.below.size;omega) (by omega) (by omega)).trans (hj.below.block b hbl)
  ·rcases hput with ⟨h1,h2⟩ | ⟨x0,h1,h2⟩
   ·rw [List.drop_of_length_le (by omega)]
    exact h2
   ·have hxx:x0=x1:=by
     rcases hnext with h | h
     ·rw [h] at h1;cases h1;rfl
     ·rw [List.getElem?_eq_none (by omega)] at h1;cases h1
    subst hxx
    refine h2.keep (mask_move by_.lt (fun k h0 h3 he=>?_))
    refine hall k h0 h3 (fun e=>?_)
    obtain ⟨c,T,fz,he,_⟩:=he
    rw [e,hj.l] at he
    cases he
  ·refine hw.keep (mask_move hbx2.lt (fun k h0 h3 he=>?_))
   by_cases e:k=w.heap.size+1+1+1+1
   ·obtain ⟨c,T,fz,he,_⟩:=he
    have h5:w2.heap[k]? = some (.loop rc'):=by
     rw [e]
     exact (k2.block _ (by omega)).trans hlb
    rw [h5] at he
    cases he
   ·exact hk' k h3 e
end Go.Proofs.Tryz
namespace Go.Proofs.Tryz
set_option maxHeartbeats 16000000
open Go.RowKit Go.Shelf
set_option maxRecDepth 100000
attribute [local go_sem] Oper.semAt_some
theorem WithV.mask {w:World}{x s z y:IV}{b:Nat} (h:WithV w x s z y) (hx:x.2.ownBlock≠some b) (hy:y.2.ownBlock≠some b):WithV (Go.Proofs.Tryz.mask b w) x s z y:=by
 rcases h with ⟨a,n,c,i,g,c',xs,rfl,rfl,e3,e4,e5,rfl,e7⟩ | ⟨a,n,c,q,g,c',k,x0,tx,L,rfl,rfl,e3,e4,e5,e6,rfl,e8⟩
 ·exact .inl ⟨a,n,c,i,g,c',xs,rfl,rfl,e3,e4,owns_same e5 (fun k hk=>mask_other (fun e=>hx (e ▸ hk))),rfl,owns_same e7 (fun k hk=>mask_other (fun e=>hy (e ▸ hk)))⟩
 ·exact .inr ⟨a,n,c,q,g,c',k,x0,tx,L,rfl,rfl,e3,e4,e5,owns_same e6 (fun k hk=>mask_other (fun e=>hx (e ▸ hk))),rfl,owns_same e8 (fun k hk=>mask_other (fun e=>hy (e ▸ hk)))⟩
theorem new_own {B T g n c:Nat} (h:B≤g):∀ g',((T,Value.slice (some ⟨g,0,none⟩) n c):IV).2.ownBlock=some g'→B≤g':=fun g' hg'=>by
 have:g=g':=by simpa [Value.ownBlock] using hg'
 omega
theorem keptV_put {w:World}{k:Nat}{o o':Obj} (h:w.heap[k]? = some o) (ho:∀ c T fz,o≠.cells c T fz):KeptV w (w.putObj k o'):=fun b c fz e=>World.putObj_heap_other (fun e2=>by
 rw [e2,h] at e
 rcases e with e | e <;> exact ho _ _ _ (Option.some.inj e))
theorem rebuilt_ok (hC:ComparesStr) {w:World}{hb hc N pc:Nat}{pp:Option Addr}{hs ss:List IV}{Tz:Nat}{uz:Value} (hhs:w.ownsRow 0 32 1 (.slice (some ⟨hb,0,none⟩) N hc) N (hs.map iv)) (hss:Sl w (.slice pp N pc) ss) (hl:ss.length=N) (hN:N≤10000)
  (hch:∀ (i:Nat) (x s:IV),hs[i]? = some x→ss[i]? = some s→∃ x1,At1 w x s x1∧(hs[i+1]? = some x1∨i+1=N)) :
  Calls Tryz.prog 206 #[.slice (some ⟨hb,0,none⟩) N hc,.slice pp N pc,.iface Tz uz] w fun e w'=>∃ y,e = .returned (iv y)∧Below w.heap.size w w'∧(∀ x,hs[0]? = some x→Put w.heap.size w' x ss (Tz,uz) y)∧(N=0→y=(Tz,uz)):=by
 have hbk:=backward_ok (some ⟨hb,0,none⟩) N hc
 refine (callsIn_wide (n:=4)).1 ?_
 refine callsIn_of_wp_marks Tryz.func206 rfl trivial ?_ rfl
 simp only [Tryz.ntmps206,List.size_toArray,List.length_cons,List.length_nil,Nat.reduceAdd,Nat.reduceSub,Array.replicate_succ,Array.replicate_zero,List.push_toArray,List.append_toArray,List.nil_append,List.cons_append]
 gi_wp2
 refine ⟨trivial,(callsIn_wide.2 (hbk _)).mono ?_⟩
 rintro e w1 ⟨rfl,hw1⟩
 gi_wp2
 refine range_held (by omega) rfl (enters_of Tryz.func284 (by kernel_rfl) rfl) ?_
 intro fn
 subst hw1
 have hsz:(((w.alloc (.cells #[.slice pp N pc] 86)).alloc (.cells #[.iface Tz uz] 32)).alloc (.cells #[.slice (some ⟨hb,0,none⟩) N hc] 85)).heap.size=w.heap.size+1+1+1:=by simp
 rw [hsz]
 refine (rebuilt_iter (z:=(Tz,uz)) (ss:=ss) _ hhs hN ?_).mono ?_
 ·intro i W x hj hx
  obtain ⟨⟨Ty,uy⟩,bx,hput⟩:=hj.x
  have hi:=(List.getElem?_eq_some_iff.1 hx).1
  have hil:i < N:=by have:=hhs.1;simp at this;omega
  obtain ⟨s,hs'⟩:∃ s,ss[i]? = some s:=⟨_,List.getElem?_eq_getElem (by omega)⟩
  obtain ⟨x1,ha,hnext⟩:=hch i x s hx hs'
  obtain ⟨Wb,hbr,hother,hWs,hlb,hos,htp,hot⟩:=begun_at hj.l rfl
  have bp:Box Wb w.heap.size (.slice pp N pc) 86:=hj.p.same (hother _ (by omega))
  have bxx:Box Wb (w.heap.size+1) (.iface Ty uy) 32:=bx.same (hother _ (by omega))
  have c0:=bp.cell
  have d0:=bxx.cell
  have d1:=bxx.free
  have d2:=bxx.lt
  obtain ⟨pa,po,rfl,hpl,hpc⟩:=hss.at hs'
  have f0:Wb.cell? ⟨pa,po+i,none⟩=some (iv s):=(World.cell?_of_block (w:=W) (hother pa (by omega))).trans ((hj.below.cell (p:=⟨pa,po+i,none⟩) hpl).trans hpc)
  have z0:(i:Int) < (N:Int):=by omega
  have z1:(0:Int)≤(i:Int):=by omega
  refine ⟨fn,_,_,_,run_yield hj.l rfl,roundIn_of_wpIn trivial ?_⟩
  rcases ha with ⟨a,n,c,q,xs,rfl,rfl,e3,e4,e5,e6⟩ | ⟨a,n,c,q,k,tx,L,rfl,rfl,e3,e4,e5,e6⟩
  ·have m0:=missVNull;have m1:=missVNumber;have m2:=missVString;have m3:=hitVArray;have m4:=missVObject;have m5:=missVBool
   simp only [iv] at f0 ⊢
   have hrowb:Wb.drew.ownsRow 0 32 1 (.slice (some ⟨a,0,none⟩) n c) n (xs.map iv):=owns_same e5 (fun b hb2=>(hother b (by have:=(e5.lt b hb2).2;omega)).trans (hj.below.block b (e5.lt b hb2).2))
   have HW:Aside (CallsIn Fence.wide 1 Tryz.prog 252 #[.slice (some ⟨a,0,none⟩) n c,.iface 98 (.int .i64 q),.iface Ty uy] Wb.drew fun e w'=>∃ g,e = .returned (.slice (some ⟨g,0,none⟩) n n)∧Wb.drew.heap.size≤g∧WithV w' (86,.slice (some ⟨a,0,none⟩) n c) (98,.int .i64 q) (Ty,uy) (86,.slice (some ⟨g,0,none⟩) n n)∧Below Wb.drew.heap.size Wb.drew w'):=callsIn_wide.2 (with_arr (z:=(Ty,uy)) e3 e4 hrowb)
   clear hrowb
   have hsl:hs.length=N:=by have:=hhs.1;simpa using this
   have hal:=(e5.lt a rfl).2
   have HEND:Aside (∀ w2 g,Wb.drew.heap.size≤g→WithV w2 (86,.slice (some ⟨a,0,none⟩) n c) (98,.int .i64 q) (Ty,uy) (86,.slice (some ⟨g,0,none⟩) n n)→Below Wb.drew.heap.size Wb.drew w2→RJ w (some ⟨pa,po,none⟩) N pc hb hc hs ss (Tz,uz) _ i ((w2.setCell ⟨w.heap.size+1,0,none⟩ (.iface 86 (.slice (some ⟨g,0,none⟩) n n))).putObj (w.heap.size+1+1+1+1) (.loop _))∧(w2.setCell ⟨w.heap.size+1,0,none⟩ (.iface 86 (.slice (some ⟨g,0,none⟩) n n))).heap[w.heap.size+1+1+1+1]? = some (.loop _)):=fun w2 g hg hwv k2=>by
    refine ⟨RJ.next (y':=(86,.slice (some ⟨g,0,none⟩) n n)) hj hl hsl hx hs' (.inl ⟨a,n,c,q,xs,rfl,rfl,e3,e4,e5,e6⟩) hnext bx hput hother hWs hlb hos htp hot k2 (hwv.mask (by simp [Value.ownBlock];omega) (by have h9:Wb.heap.size≤g:=hg;simp [Value.ownBlock];omega)) (new_own (Nat.le_trans hj.below.size (hWs ▸ hg))),?_⟩
    rw [Below.heap_setCell _ _ _ _ (by simp <;> omega)]
    exact (k2.block _ (by have:=lt_of_block hlb;simpa using this)).trans hlb
   gi_wp2
   gi_region_with (refine ⟨trivial,(CallsIn.inRound _ HW.out).mono ?_⟩;rintro e w2 ⟨g,rfl,hg,hwv,k2⟩;have bx2:Box w2 (w.heap.size+1) (.iface Ty uy) 32:=(k2.block (w.heap.size+1) d2).trans bxx;have s0:=bx2.cell;have s1:=bx2.free;have s2:=bx2.lt)
   all_goals
    gi_wp2
    obtain ⟨hJ2,hl3⟩:=HEND.out _ _ hg hwv k2
    exact ⟨_,_,run_endRound none hl3,rfl,hJ2⟩
  ·have m0:=missVNull;have m1:=missVNumber;have m2:=missVString;have m3:=missVArray;have m4:=hitVObject;have m5:=missVBool
   simp only [iv] at f0 ⊢
   have hrowb:Wb.drew.ownsRow 0 107 2 (.slice (some ⟨a,0,none⟩) n c) L.length (L.flatMap elC):=owns_same e5 (fun b hb2=>(hother b (by have:=(e5.lt b hb2).2;omega)).trans (hj.below.block b (e5.lt b hb2).2))
   have HW:Aside (CallsIn Fence.wide 1 Tryz.prog 253 #[.slice (some ⟨a,0,none⟩) n c,.iface 100 (.string k),.iface Ty uy] Wb.drew fun e w'=>∃ g c',e = .returned (.slice (some ⟨g,0,none⟩) n c')∧Wb.drew.heap.size≤g∧WithV w' (102,.slice (some ⟨a,0,none⟩) n c) (100,.string k) (Ty,uy) (102,.slice (some ⟨g,0,none⟩) n c')∧Below Wb.drew.heap.size Wb.drew w'):=callsIn_wide.2 (with_obj hC (z:=(Ty,uy)) (tx:=tx) e3 e4 e6 hrowb)
   clear hrowb
   have hsl:hs.length=N:=by have:=hhs.1;simpa using this
   have hal:=(e5.lt a rfl).2
   have HEND:Aside (∀ w2 g c',Wb.drew.heap.size≤g→WithV w2 (102,.slice (some ⟨a,0,none⟩) n c) (100,.string k) (Ty,uy) (102,.slice (some ⟨g,0,none⟩) n c')→Below Wb.drew.heap.size Wb.drew w2→RJ w (some ⟨pa,po,none⟩) N pc hb hc hs ss (Tz,uz) _ i ((w2.setCell ⟨w.heap.size+1,0,none⟩ (.iface 102 (.slice (some ⟨g,0,none⟩) n c'))).putObj (w.heap.size+1+1+1+1) (.loop _))∧(w2.setCell ⟨w.heap.size+1,0,none⟩ (.iface 102 (.slice (some ⟨g,0,none⟩) n c'))).heap[w.heap.size+1+1+1+1]? = some (.loop _)):=fun w2 g c' hg hwv k2=>by
    refine ⟨RJ.next (y':=(102,.slice (some ⟨g,0,none⟩) n c')) hj hl hsl hx hs' (.inr ⟨a,n,c,q,k,tx,L,rfl,rfl,e3,e4,e5,e6⟩) hnext bx hput hother hWs hlb hos htp hot k2 (hwv.mask (by simp [Value.ownBlock];omega) (by have h9:Wb.heap.size≤g:=hg;simp [Value.ownBlock];omega)) (new_own (Nat.le_trans hj.below.size (hWs ▸ hg))),?_⟩
    rw [Below.heap_setCell _ _ _ _ (by simp <;> omega)]
    exact (k2.block _ (by have:=lt_of_block hlb;simpa using this)).trans hlb
   gi_wp2
   gi_region_with (refine ⟨trivial,(CallsIn.inRound _ HW.out).mono ?_⟩;rintro e w2 ⟨g,c',rfl,hg,hwv,k2⟩;have bx2:Box w2 (w.heap.size+1) (.iface Ty uy) 32:=(k2.block (w.heap.size+1) d2).trans bxx;have s0:=bx2.cell;have s1:=bx2.free;have s2:=bx2.lt)
   all_goals
    gi_wp2
    obtain ⟨hJ2,hl3⟩:=HEND.out _ _ _ hg hwv k2
    exact ⟨_,_,run_endRound none hl3,rfl,hJ2⟩
 ·rintro e W2 ⟨⟨v,rfl⟩,hJ⟩
  obtain ⟨⟨Ty,uy⟩,by_,hput⟩:=hJ.x
  have hl1:=lt_of_block hJ.l
  have hd1:=lt_of_block hJ.d
  have p0:∀ o,(W2.putObj (w.heap.size+1+1+1+1) o).cell? ⟨w.heap.size+1,0,none⟩=some (.iface Ty uy):=fun o=>Box.cell (v:=.iface Ty uy) (by_.same (World.putObj_heap_other (by omega)))
  have p1:∀ o,(W2.putObj (w.heap.size+1+1+1+1) o).heap[w.heap.size+1+1+1]? = some (.deferred (some [])):=fun o=>(World.putObj_heap_other (by omega)).trans hJ.d
  refine ⟨none,_,run_endLoop hJ.l (by simp),?_⟩
  gi_wp2
  refine ⟨by simp,.inl ⟨_,_,rfl,run_takeDeferred (p1 _),?_⟩⟩
  have K:∀ o o',KeptV W2 ((W2.putObj (w.heap.size+1+1+1+1) o).putObj (w.heap.size+1+1+1) o'):=fun o o'=>(keptV_put hJ.l (fun c T fz h=>by cases h)).trans (keptV_put (p1 o) (fun c T fz h=>by cases h))
  have hsl:hs.length=N:=by have:=hhs.1;simpa using this
  refine ⟨_,results_tmp rfl _ _ _,(Ty,uy),rfl,hJ.below.trans ⟨rfl,rfl,rfl,by simp [World.putObj],fun k hk=>(World.putObj_heap_other (by omega)).trans (World.putObj_heap_other (by omega))⟩,?_,?_⟩
  ·intro x hx
   rcases hput with ⟨h1,h2⟩ | ⟨x0,h1,h2⟩
   ·rw [List.getElem?_eq_none (by omega)] at hx
    cases hx
   ·rw [h1] at hx
    cases hx
    exact h2.keep ((mask_kept by_.lt).trans (K _ _))
  ·intro h0
   rcases hput with ⟨h1,h2⟩ | ⟨x0,h1,h2⟩
   ·exact h2
   ·rw [List.getElem?_eq_none (by omega)] at h1
    cases h1
end Go.Proofs.Tryz
