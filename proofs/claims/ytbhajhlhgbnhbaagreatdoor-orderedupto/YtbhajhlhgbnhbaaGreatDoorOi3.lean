import Derived.Test.YtbhajhlhgbnhbaaGreatDoorOf3
set_option linter.all false
namespace Go.Proofs.Tryz
set_option maxHeartbeats 16000000
open Go.RowKit
set_option maxRecDepth 10000
theorem Concat_none {w:World}{a n c1 c2 sb:Nat}{p2:Option Addr}{xs:List IV} (hx:w.ownsRow 0 32 1 (.slice (some ⟨a,0,none⟩) n c1) n (xs.map iv)) (hn:n≤100000000) (hn0:0 < n) (hs:w.heap[sb]? = some (.cells #[.slice (some ⟨a,0,none⟩) n c1,.slice p2 0 c2] 86 (0,0))) :
  Calls Tryz.prog 267 #[.slice (some ⟨sb,0,none⟩) 2 2] w fun e w'=>∃ g cap,e = .returned (.slice (some ⟨g,0,none⟩) n cap)∧w'.ownsRow w.heap.size 32 1 (.slice (some ⟨g,0,none⟩) n cap) n (xs.map iv)∧Below w.heap.size w w':=by
 obtain ⟨i0,hi0,hz0,hz1,hz2⟩:=info_parts (show (Tryz.prog.info? 32).map (fun i=>(i.zero,i.size,i.bytes))=some (some .nilIface,1,16) by kernel_rfl)
 have s0:w.cell? ⟨sb,0,none⟩=some (.slice (some ⟨a,0,none⟩) n c1):=by simp [World.cell?,hs]
 have s1:w.cell? ⟨sb,1,none⟩=some (.slice p2 0 c2):=by simp [World.cell?,hs]
 have sl:=lt_of_block hs
 have z1:¬ (n:Int) < 0:=by omega
 have hg:Calls Tryz.prog 299 #[.slice none 0 0,.int .i64 (n:Int)] w fun e w'=>∃ g cap,e = .returned (.slice (some ⟨g,0,none⟩) 0 cap)∧w'.ownsRow w.heap.size 32 1 (.slice (some ⟨g,0,none⟩) 0 cap) 0 []∧Below w.heap.size w w':=Grow_ok (w:=w) (n:=n) (by omega) (by omega)
 have hcx:∀ j v,(xs.map iv)[j]? = some v→w.cell? ⟨a,j,none⟩=some v:=fun j v hj=>by
  have hjl:=(List.getElem?_eq_some_iff.1 hj).1
  have:=hx.1
  rw [hx.cellAt j (by omega)]
  exact hj
 have hone:∀ (l:List IV) (v:Value),v∈l.map iv→v.oneCell'=true:=fun l v hv=>by
  obtain ⟨x,_,rfl⟩:=List.mem_map.1 hv
  rfl
 have hxl:(xs.map iv).length=n * 1:=hx.1
 have hal:=(hx.lt a rfl).2
 clear hs hx
 go_enter Tryz.func267,Tryz.ntmps267
 go_wp2_with fail
 refine wp_loop_rounds 3 ?_
 rw [rounds_succ]
 go_wp2_with fail
 rw [rounds_succ]
 go_wp2_with fail
 rw [rounds_succ]
 go_wp2_with (go_at_call 299;refine hg.mono ?_;rintro e w1 ⟨g1,cap1,rfl,ow1,k1⟩;have t0:=(k1.cell (p:=⟨sb,0,none⟩) sl).trans s0;have t1:=(k1.cell (p:=⟨sb,1,none⟩) sl).trans s1;have tl:=Nat.lt_of_lt_of_le sl k1.size)
 refine wp_loop_rounds 3 ?_
 rw [rounds_succ]
 go_wp2_with (refine wpList_append_lies _ (by rfl) _ _ _ (by rfl) w.heap.size 32 i0 _ 1 16 Tryz.underlying86 hi0 hz0 hz1 hz2 rfl (by omega) _ 0 [] (by rfl) ow1 ⟨a,0,none⟩ n c1 (xs.map iv) (by rfl) hxl (fun j v hj=>by rw [add_at];exact (k1.cell (p:=⟨a,j,none⟩) hal).trans (hcx j v hj)) (hone xs) hn0 (by unfold maxLen;omega) (by omega) k1.size w1.heap.size rfl ?_;intro g2 cap2 w2 ow2 gr2 hat2 hlt2)
 have k2:Below w.heap.size w w2:=k1.grown gr2 k1.size (fun q hq=>(ow1.lt q hq).1)
 have ow2':w2.ownsRow w.heap.size 32 1 (.slice (some ⟨g2,0,none⟩) n cap2) n (xs.map iv):=by simpa using ow2
 have u1:=(k2.cell (p:=⟨sb,1,none⟩) sl).trans s1
 have ul:=Nat.lt_of_lt_of_le sl k2.size
 have hnc:n≤cap2:=by
  rcases ow2'.2 with ⟨e,_⟩ | ⟨_,_,_,e,_,_,h1,_⟩
  ·cases e
  ·cases e;exact h1
 have hap:∀ ty w9,(Builtin.append_ #[86,86] ty #[.slice (some ⟨g2,0,none⟩) n cap2,.slice p2 0 c2]).run Tryz.prog w9 = .ok (.slice (some ⟨g2,0,none⟩) n cap2) w9:=fun ty w9=>by
  cases p2 with
  | none=>simp [Builtin.append_,run_underlying Tryz.underlying86,sizeOf,typeInfo,hi0,Builtin.lenOf,Builtin.firstCells,loadCells,loadCellsFrom,storeCells,hnc]
  | some q=>simp [Builtin.append_,run_underlying Tryz.underlying86,sizeOf,typeInfo,hi0,Builtin.lenOf,Builtin.firstCells,loadCells,loadCellsFrom,storeCells,hnc]
 rw [rounds_succ]
 go_wp2_with (at_builtin;refine Lib.wpList_append_run _ rfl _ _ _ _ rfl _ _ rfl rfl _ _ (hap _ _) ?_)
 rw [rounds_succ]
 go_wp2_with fail
 go_ret
 exact ⟨g2,cap2,by simp,ow2',k2⟩
theorem Add_none {w:World}{a n c1 c2:Nat}{p2:Option Addr}{xs:List IV} (hx:w.ownsRow 0 32 1 (.slice (some ⟨a,0,none⟩) n c1) n (xs.map iv)) (hn:n≤100000000) (hn0:0 < n) :
  Calls Tryz.prog 227 #[.iface 86 (.slice (some ⟨a,0,none⟩) n c1),.iface 86 (.slice p2 0 c2)] w fun e w'=>∃ g cap,e = .returned (.tuple #[.iface 86 (.slice (some ⟨g,0,none⟩) n cap),.nilIface])∧w'.ownsRow w.heap.size 32 1 (.slice (some ⟨g,0,none⟩) n cap) n (xs.map iv)∧Below w.heap.size w w':=by
 have m0:=missVNull;have m1:=missVNumber;have m2:=missVString;have m3:=hitVArray;have m4:=missVObject;have m5:=missVBool
 have k0:=below_alloc2 w (.cells #[] 95) (.cells #[.slice (some ⟨a,0,none⟩) n c1,.slice p2 0 c2] 86)
 have hc:=Concat_none (w:=(w.alloc (.cells #[] 95)).alloc (.cells #[.slice (some ⟨a,0,none⟩) n c1,.slice p2 0 c2] 86)) (owns_same hx (fun j hj=>k0.block j (hx.lt j hj).2)) hn hn0 (heap_new2' w _ _)
 clear hx
 go_enter Tryz.func227,Tryz.ntmps227
 go_wp2_with (go_at_call 267;refine hc.mono ?_;rintro e w1 ⟨g,cap,rfl,ow,k1⟩)
 refine bodyPost_ret (v:=.tuple #[.iface 86 (.slice (some ⟨g,0,none⟩) n cap),.nilIface]) (by simp [results,Tryz.results227,go_sem]) rfl ⟨g,cap,rfl,?_,k0.trans (k1.mono k0.size)⟩
 refine ⟨ow.1,?_⟩
 rcases ow.2 with ⟨e,_⟩ | ⟨g',cap',cur,e,hg,h3⟩
 ·cases e
 ·exact .inr ⟨g',cap',cur,e,Nat.le_trans k0.size hg,h3⟩
theorem enV_map (ts:List En):ts.map enV=(ts.map (·.1)).map iv:=by rw [List.map_map];rfl
theorem Add_rows {w:World}{r r':Value}{ts ts':List En} (hx:w.ownsRow 0 32 1 r ts.length (ts.map enV)) (hy:w.ownsRow 0 32 1 r' ts'.length (ts'.map enV)) (hn:ts.length≤100000000) (hm:ts'.length≤100000000) (hn0:0 < ts.length) :
  Calls Tryz.prog 227 #[.iface 86 r,.iface 86 r'] w fun e w'=>∃ g cap,e = .returned (.tuple #[.iface 86 (.slice (some ⟨g,0,none⟩) (ts ++ ts').length cap),.nilIface])∧w'.ownsRow w.heap.size 32 1 (.slice (some ⟨g,0,none⟩) (ts ++ ts').length cap) (ts ++ ts').length ((ts ++ ts').map enV)∧Below w.heap.size w w':=by
 rcases hx.2 with ⟨_,h0⟩ | ⟨a,c1,_,rfl,_⟩
 ·omega
 rw [enV_map] at hx hy
 rw [enV_map,List.map_append,List.length_append]
 by_cases h0:ts'.length=0
 ·obtain ⟨p2,l2,c2,rfl⟩:=owns_shape hy
  have e2:l2=0:=by
   rcases hy.2 with ⟨e,h1⟩ | ⟨_,_,_,e,_⟩
   ·cases e;rfl
   ·cases e;exact h0
  subst e2
  have:ts'=[]:=List.eq_nil_of_length_eq_zero h0
  subst this
  have:=Add_none (p2:=p2) (c2:=c2) hx hn hn0
  simpa using this
 ·rcases hy.2 with ⟨_,h1⟩ | ⟨b,c2,_,rfl,_⟩
  ·omega
  ·exact Add_arr hx hy hn hm hn0 (by omega)
def TruesC (n:Nat):SP:=fun w s=>s.2=none∧∃ r,s.1=(86,r)∧w.ownsRow 0 32 1 r n ((List.replicate n (boolV true)).map iv)
def trueE1:En:=(boolV true,[1,1],1)
theorem trues_coded (w:World) (n:Nat):Coded w (List.replicate n trueE1):=fun t ht=>by
 obtain ⟨_,rfl⟩:=List.mem_replicate.1 ht
 exact ⟨0,⟨Nat.le_refl _,.inr (.inl ⟨true,rfl,rfl⟩)⟩,by show 1≤100000000;omega⟩
theorem trues_enV (n:Nat):(List.replicate n trueE1).map enV=(List.replicate n (boolV true)).map iv:=by rw [List.map_replicate,List.map_replicate];rfl
theorem TruesC.arr {n:Nat} (hn:n≤90000000) {w:World}{s:Sp} (h:TruesC n w s):ArrC (List.replicate n [1,1]) w s:=by
 obtain ⟨e,r,e1,ow⟩:=h
 refine ⟨e,r,List.replicate n trueE1,e1,?_,trues_coded w n,?_,?_⟩
 ·rw [trues_enV,List.length_replicate];exact ow
 ·rw [List.map_replicate];rfl
 ·rw [List.map_replicate,List.sum_replicate_nat];show 1+n * 1≤_;omega
theorem truesC_of {G:Nat→Prop}{w:World}{n:Nat}{s:Sp} (h:HoldsP (ArrOf (List.replicate n (BoolP true))) G w s):HoldsP (TruesC n) G w s :=
 h.to (fun w' ⟨e2,v,ss,e1,ow,hA⟩=>by
  obtain ⟨h1,h2⟩:=allp_true hA
  rw [h1,h2] at ow
  exact ⟨e2,v,e1,ow⟩)
theorem oper_truesPlus {C:Nat→Prop}{w0:World}{n m:Nat} (hn:n≤10000000) (hm:m≤80000000) (hn0:0 < n):OperG C w0 ⟨#[43]⟩ (TruesC n) (TruesC m) (TruesC (n+m)):=by
 intro w t s G G' hs hl hP hQ
 obtain ⟨e2,r,e1,ow1⟩:=hP.here
 obtain ⟨f2,r',f1,ow2⟩:=hQ.here
 obtain ⟨t1,t2⟩:=t
 obtain ⟨s1,s2⟩:=s
 simp only at e1 e2 f1 f2
 subst e1
 subst f1
 have hc:=Add_rows (w:=w) (r:=r) (r':=r') (ts:=List.replicate n trueE1) (ts':=List.replicate m trueE1) (by rw [trues_enV,List.length_replicate];exact ow1) (by rw [trues_enV,List.length_replicate];exact ow2) (by rw [List.length_replicate];omega) (by rw [List.length_replicate];omega) (by rw [List.length_replicate];exact hn0)
 rw [List.replicate_append_replicate,List.length_replicate,trues_enV] at hc
 have HC:Aside _:=hc
 clear hP hQ ow1 ow2 hc
 simp only [iv]
 go_enter Tryz.func183,Tryz.ntmps183
 go_wp2_with (first
  | (go_at_call 227;refine Calls.mono HC.out ?_;rintro e w1 ⟨g,cap,rfl,ow,k1⟩)
  | (go_at_call 94;refine sure_none.mono ?_;rintro e w2 ⟨rfl,hw2⟩;subst hw2))
 go_ret
 refine ⟨k1,(86,.slice (some ⟨g,0,none⟩) (n+m) cap),(· = g),rfl,⟨fun k hk=>by subst hk;exact (ow.lt k rfl).2,fun w' hs' _=>⟨rfl,_,rfl,owns_low0 (owns_same ow (fun j hj=>hs' j (by simpa [Value.ownBlock] using hj.symm)))⟩⟩,fun k hk=>.inr (.inr (.inr (by subst hk;exact (ow.lt k rfl).1)))⟩
theorem sortC_trues (n:Nat):sortC (List.replicate n [1,1])=List.replicate n [1,1]:=by
 have h:=sortC_perm (List.replicate n ([1,1]:List Int))
 rw [List.eq_replicate_iff]
 refine ⟨by rw [h.length_eq,List.length_replicate],fun b hb=>?_⟩
 exact (List.mem_replicate.1 (h.mem_iff.1 hb)).2
theorem code_true {w:World}{s:Sp} (h:CodeP [1,1] w s):BoolP true w s:=by
 obtain ⟨e,d,n,he,_⟩:=h
 obtain ⟨s1,s2⟩:=s
 simp only at e he
 subst e
 have leaf:LeafC s1 [1,1]→s1=boolV true:=fun hl=>by
  rcases hl with ⟨_,h⟩ | ⟨b,rfl,h⟩ | ⟨n,_,h⟩ | ⟨t,_,h⟩
  ·simp at h
  ·cases b
   ·simp at h
   ·rfl
  ·simp at h
  ·simp at h
 have:s1=boolV true:=by
  cases d with
  | zero=>exact leaf he.2
  | succ d =>
   rcases he with he | ⟨r,ts,_,_,_,_,h⟩ | ⟨r,ts,_,_,_,_,h⟩
   ·exact leaf he.2
   ·simp at h
   ·simp at h
 subst this
 rfl
theorem ev_tailC (hS:SortsV) (hL:LenNought) {p C:Nat→Prop}{w:World}{kn:Option Addr}{d pos:Int}{x:IV}{m n:Nat} (hC:∀ k,C k→k < w.heap.size) (hp:∀ k,p k→C k) (hF:∀ C' w',(∀ k,C k→C' k)→SameOn C w w'→w.heap.size≤w'.heap.size→FindIs C' w' 2 ⟨#[115,111,114,116]⟩ 0 n kn none) (hx:HoldsP (ArrOf (List.replicate m (BoolP true))) C w (x,none)) (hm:m≤80000000):Ev p C w kn d (tTail pos) (x,none) [BoolP true]:=by
 refine ev_pipe1 (P:=TruesC (1+m)) hp ?_ ?_
 ·refine ev_bin1 plainly_plus hp ?_ (ev_ident hC (truesC_of hx) (fun _ h=>h)) (oper_truesPlus (n:=1) (by omega) hm (by omega))
  exact (ev_collect hp (ev_bool hC hp) (by simp)).to (fun G w s h=>truesC_of (n:=1) h)
 ·intro w' t G hs hl hP
  have hP':HoldsP (ArrC (List.replicate (1+m) [1,1])) G w' t:=hP.to (fun _ h=>h.arr (by omega))
  have ht2:t.2=none:=hP.here.1
  obtain ⟨t1,t2⟩:=t
  simp only at ht2
  subst ht2
  have hGl:=hP.1
  have hC':∀ k,(C k∨G k)→k < w'.heap.size:=by grind
  have hp':∀ k,p k→C k∨G k:=fun k hk=>.inl (hp k hk)
  refine ev_pipe1 (P:=ArrC (List.replicate (1+m) [1,1])) hp' ?_ ?_
  ·have h1:=ev_alone (p:=p) (d:=d) (pos:=pos) hC' hp' (hF _ _ (fun _ h=>.inl h) hs hl) notNamed_sort notGiven_sort (alone_sortC hS hL (hP'.more (fun _ h=>.inr h) hC'))
   rw [sortC_trues] at h1
   exact h1
  ·intro w2 t G2 hs2 hl2 hP2
   have ht2:t.2=none:=hP2.here.1
   obtain ⟨t1,t2⟩:=t
   simp only at ht2
   subst ht2
   have hGl2:=hP2.1
   have hC2:∀ k,((C k∨G k)∨G2 k)→k < w2.heap.size:=by
    rintro k (h | h)
    ·exact Nat.lt_of_lt_of_le (hC' k h) hl2
    ·exact hGl2 k h
   have hp2:∀ k,p k→(C k∨G k)∨G2 k:=fun k hk=>.inl (hp' k hk)
   exact (ev_index hp2 (ev_ident hC2 hP2 (fun _ h=>.inr h)) (ev_num (n:=((0:Nat):Int)) hC2 hp2) (idx_code (i:=0) (c:=[1,1]) (by rw [List.getElem?_replicate];simp) (by rw [List.length_replicate];omega))).to (fun G w s h=>h.to (fun _=>code_true))
theorem upNums_mem:∀ {m:Nat}{i j:Int},j∈upNums i m→∃ k:Nat,k < m∧j=i+k
 | 0,_,_,h=>by simp [upNums] at h
 | m+1,i,j,h=>by
  rw [upNums] at h
  rcases List.mem_cons.1 h with rfl | h
  ·exact ⟨0,by omega,by omega⟩
  ·obtain ⟨k,hk,e⟩:=upNums_mem h
   exact ⟨k+1,by omega,by omega⟩
theorem upNums_len:∀ (m:Nat) (i:Int),(upNums i m).length=m
 | 0,_=>rfl
 | m+1,i=>by rw [upNums,List.length_cons,upNums_len m]
theorem flat_trues {α:Type} (f:α→SP×List SP) (hf:∀ a,(f a).2=[BoolP true]):∀ l:List α,(l.map f).flatMap (·.2)=List.replicate l.length (BoolP true)
 | []=>rfl
 | a :: l=>by
  rw [List.map_cons,List.flatMap_cons,flat_trues f hf l,hf a,List.length_cons,List.replicate_succ]
  rfl
def sS:ByteArray:=⟨#[115]⟩
def sI:ByteArray:=⟨#[105]⟩
def tLe (p1 p2 p3 p4:Int):Tr:=.bin (.index (.var sS p1) (.var sI p2)) ⟨#[60,61]⟩ (.index (.var sS p3) (.bin (.var sI p4) ⟨#[43]⟩ (.num 1)))
theorem ev_le (hS:ComparesStr) {p C Gs Gi:Nat→Prop}{w:World}{kn:Option Addr}{d p1 p2 p3 p4:Int}{x ys yi:IV}{ds:List (List Int)}{i n sb ib:Nat}{ar ar2:Value} (hC:∀ k,C k→k < w.heap.size) (hp:∀ k,p k→C k)
  (hFs:FindIs C w 0 sS 0 n kn (some ⟨sb,0,none⟩)) (hs:C sb) (hks:KnB w sb 0 sS 0 (iv ys) (.pointer none) .nilIface (.pointer none) ar) (hPs:HoldsP (ArrC ds) Gs w (ys,none)) (hGs:∀ k,Gs k→C k)
  (hFi:FindIs C w 0 sI 0 1 kn (some ⟨ib,0,none⟩)) (hi:C ib) (hki:KnB w ib 0 sI 0 (iv yi) (.pointer none) .nilIface (.pointer none) ar2) (hPi:HoldsP (Just (numI i,none)) Gi w (yi,none)) (hGi:∀ k,Gi k→C k)
  (hr:ds.Pairwise (fun a b=>lexC a b≤0)) (hil:i+1 < ds.length) (hn:ds.length≤90000000):Ev p C w kn d (tLe p1 p2 p3 p4) (x,none) [BoolP true]:=by
 obtain ⟨a,ha⟩:∃ a,ds[i]? = some a:=⟨_,List.getElem?_eq_getElem (by omega)⟩
 obtain ⟨b,hb⟩:∃ b,ds[i+1]? = some b:=⟨_,List.getElem?_eq_getElem hil⟩
 have hab:lexC a b≤0:=by
  obtain ⟨h1,rfl⟩:=List.getElem?_eq_some_iff.1 ha
  obtain ⟨h2,rfl⟩:=List.getElem?_eq_some_iff.1 hb
  exact List.pairwise_iff_getElem.1 hr i (i+1) h1 h2 (by omega)
 have vs:∀ ps,Ev p C w kn d (.var sS ps) (x,none) [ArrC ds]:=fun ps=>ev_var hC hp hFs hs hks hPs hGs
 have vi:∀ ps,Ev p C w kn d (.var sI ps) (x,none) [Just (numI i,none)]:=fun ps=>ev_var hC hp hFi hi hki hPi hGi
 have e1:=ev_index hp (vs p1) (vi p2) (idx_code ha (by omega))
 have e2:=ev_bin1 plainly_plus hp (vi p4) (ev_num (n:=1) hC hp) (oper_numPlus (a:=(i:Int)) (b:=1) (by omega) (by omega) (by omega) (by omega))
 have e3:=ev_index hp (vs p3) e2 (idx_code (i:=i+1) hb (by omega))
 have h:=ev_bin1 plainly_le hp e1 e3 (oper_code_le hS)
 rw [show decide (lexC a b≤0)=true from decide_eq_true hab] at h
 exact h
theorem ev_O2 (hC:ComparesStr) (hS:SortsV) (hL:LenNought) {p C:Nat→Prop}{w:World}{kn:Option Addr}{d:Int}{x:IV}{cs:List (List Int)} (h:OnC p C w kn x cs) (hn8:cs.length≤80000000):Ev p C w kn d tO2 (x,none) [BoolP true]:=by
 refine ev_pipe1 h.hp (ev_sort hS hL h) (fun w1 t1 G1 hs1 hl1 hP1=>?_)
 obtain ⟨et,h1⟩:=h.next hs1 hl1 hP1 (by rw [sortC_len];exact h.hn)
 rw [et]
 obtain ⟨y1,q1⟩:=t1
 have hlen:(sortC cs).length=cs.length:=sortC_len cs
 obtain ⟨ds,hds⟩:∃ ds,ds=sortC cs:=⟨_,rfl⟩
 have hrise:ds.Pairwise (fun a b=>lexC a b≤0):=hds ▸ sortC_rise cs
 rw [← hds] at h1 hlen
 clear hds hP1 et
 simp only at h1 ⊢
 refine ev_bind (Lo:=[(ArrC ds,[BoolP true])]) h1.hp (ev_dot h1) (fun y hy w2 t2 G2 sb hs2 hl2 hP2 hk2=>?_)
 rw [List.mem_singleton] at hy
 subst hy
 obtain ⟨et2,h2⟩:=h1.next hs2 hl2 hP2 h1.hn
 have hG2:=hP2.1
 have hCb:∀ k,((C k∨G1 k)∨G2 k∨k=sb)→k < w2.heap.size:=by
  rintro k (hk | hk | rfl)
  ·exact Nat.lt_of_lt_of_le (h1.hC k hk) hl2
  ·exact hG2 k hk
  ·exact hk2.lt
 have hpb:∀ k,p k→((C k∨G1 k)∨G2 k∨k=sb):=fun k hk=>.inl (h1.hp k hk)
 have hx2:HoldsP (ArrC ds) (fun k=>(C k∨G1 k)∨G2 k∨k=sb) w2 (y1,none):=(h1.hx.move hs2 hl2).more (fun _ h=>.inl h) hCb
 have fnd:∀ name na,noneOf sOthers name=true→(sMap.toList == name.toList)=false→FindIs (fun k=>(C k∨G1 k)∨G2 k∨k=sb) w2 2 name na 9 (some ⟨sb,0,none⟩) none:=fun name na a b =>
  FindIs.past (FindIs.move hs2 (fun _ h=>.inl h) (h1.isNone a b)) (.inr (.inr rfl)) hk2
 refine ev_pipe1 (P:=ArrOf (List.replicate (ds.length - 1) (BoolP true))) hpb ?_ ?_
 ·have hb:Ev p (fun k=>(C k∨G1 k)∨G2 k∨k=sb) w2 (some ⟨sb,0,none⟩) d (.bind (.call2 sRange (.num 0) (.bin (.call0 ⟨#[108,101,110,103,116,104]⟩ 27) ⟨#[45]⟩ (.num 1)) 18) sI (tLe 47 50 57 60)) (y1,none) (((upNums 0 (ds.length - 1)).map (fun j=>(Just (numI j,none),[BoolP true]))).flatMap (·.2)):=by
   refine ev_bind hpb ?_ (fun y hy w3 t3 G3 ib hs3 hl3 hP3 hk3=>?_)
   ·have hr:=ev_range (p:=p) (pos:=18) (i:=0) (e:=(ds.length:Int) - 1) (m:=ds.length - 1) hpb (fnd sRange 2 (by kernel_rfl) (by kernel_rfl)) (ev_num (n:=0) hCb hpb) (ev_bin1 plainly_minus hpb (ev_alone (pos:=27) hCb hpb (fnd _ 0 (by kernel_rfl) (by kernel_rfl)) notNamed_length notGiven_length (alone_lengthC hx2)) (ev_num (n:=1) hCb hpb) (oper_numMinus (by omega) (by omega) (by omega) (by omega))) (d:=d) (by omega) (by omega) (by omega)
    rw [List.map_map]
    exact hr
   ·obtain ⟨j,hj,rfl⟩:=List.mem_map.1 hy
    obtain ⟨k,hk,rfl⟩:=upNums_mem hj
    simp only at hP3 ⊢
    rw [Int.zero_add] at hP3
    have hG3:=hP3.1
    have e3:t3=(numI k,none):=hP3.here
    subst e3
    have hCc:∀ q,(((C q∨G1 q)∨G2 q∨q=sb)∨G3 q∨q=ib)→q < w3.heap.size:=by
     rintro q (hq | hq | rfl)
     ·exact Nat.lt_of_lt_of_le (hCb q hq) hl3
     ·exact hG3 q hq
     ·exact hk3.lt
    have hks:KnB w3 sb 0 sS 0 (iv t2.1) (.pointer none) .nilIface (.pointer none) (.pointer kn):=hk2.same (hs3 sb (.inr (.inr rfl)))
    have hPs:HoldsP (ArrC ds) G2 w3 (t2.1,none):=by
     have:=hP2.move (hs3.mono (fun _ h=>.inr (.inl h))) hl3
     rw [et2] at this
     exact this
    exact ev_le hC (n:=2) (sb:=sb) (ib:=ib) hCc (fun q hq=>.inl (hpb q hq)) (FindIs.next (FindIs.here (.inl (.inr (.inr rfl))) hks) (.inr (.inr rfl)) hk3 (by kernel_rfl)) (.inl (.inr (.inr rfl))) hks hPs (fun _ h=>.inl (.inr (.inl h))) (FindIs.here (.inr (.inr rfl)) hk3) (.inr (.inr rfl)) hk3 hP3 (fun _ h=>.inr (.inl h)) hrise (by omega) h1.hn
  rw [flat_trues _ (fun _=>rfl),upNums_len] at hb
  exact ev_collect hpb hb (by rw [List.length_replicate];omega)
 ·intro w3 t3 G3 hs3 hl3 hP3
  have e3:t3.2=none:=hP3.here.1
  obtain ⟨y3,q3⟩:=t3
  simp only at e3
  subst e3
  have hG3:=hP3.1
  have hCc:∀ q,(((C q∨G1 q)∨G2 q∨q=sb)∨G3 q)→q < w3.heap.size:=by
   rintro q (hq | hq)
   ·exact Nat.lt_of_lt_of_le (hCb q hq) hl3
   ·exact hG3 q hq
  exact ev_tailC hS hL (n:=9) hCc (fun q hq=>.inl (hpb q hq)) (fun C' w' hC' hs' _=>FindIs.move (hs3.trans (hs'.mono (fun _ h=>.inl h))) (fun q hq=>hC' q (.inl hq)) (fnd _ 0 (by kernel_rfl) (by kernel_rfl))) (hP3.more (fun _ h=>.inr h) hCc) (by omega)
end Go.Proofs.Tryz
