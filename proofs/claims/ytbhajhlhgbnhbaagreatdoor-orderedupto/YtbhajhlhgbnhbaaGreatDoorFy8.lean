import Derived.Test.YtbhajhlhgbnhbaaGreatDoorFy5
set_option linter.all false
namespace Go.Proofs.Tryz
set_option maxHeartbeats 16000000
open Go.RowKit
set_option maxRecDepth 10000
theorem els_at:∀ (ms:List El) (i:Nat) (x:El),ms[i]? = some x→(ms.flatMap elC)[i * 2]? = some (.string x.1)∧(ms.flatMap elC)[i * 2+1]? = some (iv x.2.1)
 | [],i,x,h=>by simp at h
 | m :: ms,0,x,h=>by
  simp at h
  subst h
  simp [elC]
 | m :: ms,i+1,x,h=>by
  have ih:=els_at ms i x (by simpa using h)
  rw [List.flatMap_cons]
  have hl:(elC m).length=2:=rfl
  rw [List.getElem?_append_right (by rw [hl];omega),List.getElem?_append_right (by rw [hl];omega),hl,show (i+1) * 2 - 2=i * 2 by omega,show (i+1) * 2+1 - 2=i * 2+1 by omega]
  exact ih
theorem owns_mem {w:World}{N g n cap:Nat}{ms:List El} (h:w.ownsRow N 107 2 (.slice (some ⟨g,0,none⟩) n cap) ms.length (ms.flatMap elC)):n=ms.length∧Mem w g (cap * 2) ms∧ms.length≤cap∧cap≤9223372036854775807∧N≤g:=by
 rcases h.2 with ⟨e,_⟩ | ⟨g',cap',cur,e,hg,hb,hn,hm,hs,ht⟩
 ·cases e
 ·cases e
  refine ⟨rfl,⟨cur,hb,hs,by omega,fun i x hi=>?_⟩,hn,by simpa [maxLen] using hm,hg⟩
  have hil:i < ms.length:=(List.getElem?_eq_some_iff.1 hi).1
  obtain ⟨e1,e2⟩:=els_at ms i x hi
  rw [← ht,List.getElem?_take_of_lt (by omega)] at e1
  rw [← ht,List.getElem?_take_of_lt (by omega)] at e2
  exact ⟨by simpa using e1,by simpa using e2⟩
theorem mem_owns {w:World}{N g cap:Nat}{ms:List El} (h:Mem w g (cap * 2) ms) (hc:ms.length≤cap) (hm:cap≤9223372036854775807) (hN:N≤g):w.ownsRow N 107 2 (.slice (some ⟨g,0,none⟩) ms.length cap) ms.length (ms.flatMap elC):=by
 obtain ⟨cs,h0,h1,h2,h3⟩:=h
 refine ⟨els_len ms,.inr ⟨g,cap,cs,rfl,hN,h0,hc,by simpa [maxLen] using hm,h1,?_⟩⟩
 apply List.ext_getElem?
 intro j
 by_cases hj:j < ms.length * 2
 ·rw [List.getElem?_take_of_lt hj]
  obtain ⟨i,hi⟩:∃ i,j=i * 2∨j=i * 2+1:=⟨j / 2,by omega⟩
  have hil:i < ms.length:=by omega
  obtain ⟨x,hx⟩:∃ x,ms[i]? = some x:=⟨_,List.getElem?_eq_getElem hil⟩
  obtain ⟨e1,e2⟩:=els_at ms i x hx
  obtain ⟨f1,f2⟩:=h3 i x hx
  rcases hi with rfl | rfl
  ·rw [e1];simpa using f1
  ·rw [e2];simpa using f2
 ·rw [List.getElem?_eq_none (by simp;omega),List.getElem?_eq_none (by rw [els_len];omega)]
theorem ddp_mem {α:Type}{key:α→Bys}:∀ (l:List α) (x:α),x∈ddp key l→x∈l
 | [],_,h=>by simp [ddp] at h
 | [_],_,h=>by simpa [ddp] using h
 | a :: b :: r,x,h=>by
  rw [ddp] at h
  split at h
  ·exact List.mem_cons_of_mem _ (ddp_mem (b :: r) x h)
  ·rcases List.mem_cons.1 h with e | e
   ·rw [e];simp
   ·exact List.mem_cons_of_mem _ (ddp_mem (b :: r) x e)
theorem ddp_len {α:Type}{key:α→Bys}:∀ (l:List α),(ddp key l).length≤l.length
 | []=>by simp [ddp]
 | [_]=>by simp [ddp]
 | a :: b :: r=>by
  rw [ddp]
  have:=ddp_len (key:=key) (b :: r)
  split
  ·simp at this ⊢;omega
  ·simp at this ⊢;omega
def inOrd (ms:List El):List El:=ddp elKey (sortB elKey ms)
theorem inOrd_mem {ms:List El}{x:El} (h:x∈inOrd ms):x∈ms:=(sortB_sts ms).mem x |>.1 (ddp_mem _ _ h)
theorem ddp_riseE:∀ (l:List El),Srt elKey l→RiseE (ddp elKey l)
 | [],_=>List.Pairwise.nil
 | [x],_=>by simp [ddp,RiseE]
 | x :: y :: l,h=>by
  have h1:=List.pairwise_cons.1 h
  rw [ddp]
  split
  ·exact ddp_riseE (y :: l) h1.2
  ·rename_i hne
   refine List.pairwise_cons.2 ⟨fun z hz=>?_,ddp_riseE (y :: l) h1.2⟩
   have hxy:klt (elKey x) (elKey y):=(kle_cases (h1.1 y (by simp))).resolve_right (fun e=>hne e.symm)
   rcases List.mem_cons.1 (ddp_mem _ _ hz) with rfl | hz
   ·exact hxy
   ·exact klt_kle_trans hxy ((List.pairwise_cons.1 h1.2).1 z hz)
theorem inOrd_rise (ms:List El):RiseE (inOrd ms):=ddp_riseE _ (sortB_sts ms).srt
theorem inOrd_len (ms:List El):(inOrd ms).length≤ms.length:=by
 have:=ddp_len (key:=elKey) (sortB elKey ms)
 rw [(sortB_sts (key:=elKey) ms).len] at this
 exact this
def Hd.text (h:Hd):Bys:=if h.obj then objT ((inOrd h.ms).map fun x=>(elKey x,x.2.2)) else arrT (h.its.map (·.2))
theorem hvalue_arr {w:World}{g o:Nat}{h:Hd}{ra:Option Addr}{rl rc:Nat} (ho:h.obj=false) (hr:h.row = .slice ra rl rc) (ht:TopAt w g o h) :
  Calls Tryz.prog 73 #[.pointer (some ⟨g,o,none⟩)] w fun e w'=>e = .returned (.iface 86 (.slice ra rl rc))∧∃ n,w'=w.drewN n:=by
 obtain ⟨t0,t1,t2,t3,tf,tl⟩:=ht.facts
 simp only [ho,Bool.false_eq_true,if_false,hr] at t0 t1 t2
 go_enter Tryz.func73,Tryz.ntmps73
 go_wp2_with fail
 go_ret
 exact ⟨rfl,0,rfl⟩
theorem hvalue_obj {w:World}{g o:Nat}{h:Hd} (ho:h.obj=true) (ht:TopAt w g o h) {post:Ending→World→Prop} (hio:Calls Tryz.prog 131 #[h.row] w fun e w'=>∃ a l c,e = .returned (.slice a l c)∧post (.returned (.iface 102 (.slice a l c))) w') (hsh:∃ a l c,h.row = .slice a l c) :
  Calls Tryz.prog 73 #[.pointer (some ⟨g,o,none⟩)] w post:=by
 obtain ⟨t0,t1,t2,t3,tf,tl⟩:=ht.facts
 obtain ⟨ra,rl,rc,hr⟩:=hsh
 simp only [ho,if_true,hr] at t0 t1 t2 hio
 have HI:Aside _:=hio
 clear hio
 go_enter Tryz.func73,Tryz.ntmps73
 go_wp2_with fail
 refine Calls.mono HI.out ?_
 rintro e w1 ⟨a,l,c,rfl,hp⟩
 go_wp2_with fail
 exact hp
structure At (w:World) (vb:Nat) (s:ByteArray) (a:Nat) (hs:List Hd):Prop where
 blk:∃ ov,VBlk w vb s a ov∧Stk w vb ov hs
def AtV (w:World) (vb:Nat) (s:ByteArray) (a:Nat) (hs:List Hd) (v:IV) (c:Bys):Prop:=∃ ov,VBlk w vb s a ov∧Stk w vb ov hs∧Vl w (Done w vb ov hs) v c
theorem VBlk.openV {w:World}{vb a:Nat}{s:ByteArray}{ov:Value} (h:VBlk w vb s a ov) (u:Value):VBlk (w.setCell ⟨vb,2,none⟩ u) vb s a u:=cells_set h
theorem close_ok2 (hC:ComparesStr) {w:World}{vb g cap a:Nat}{s:ByteArray}{lo:List Hd}{h:Hd} (hv:VBlk w vb s a (.slice (some ⟨g,0,none⟩) (lo.length+1) cap)) (st:Stk w vb (.slice (some ⟨g,0,none⟩) (lo.length+1) cap) (lo ++ [h])) (ha:a≤10000000) (hlo:lo.length≤1000) (hk:h.ms.length≤10000000) :
  Calls Tryz.prog 30 #[.pointer (some ⟨vb,0,none⟩)] w fun e w'=>∃ x:IV,e = .returned (iv x)∧AtV w' vb s (a+1) lo x h.text∧Fr (fun b=>vb≤b) w w':=by
 obtain ⟨v0,v1,v2,g0,g1,g2,vl⟩:=three_facts' hv
 obtain ⟨g',cap',e,hgv,hcap,hcm,ht⟩:=st.top
 cases e
 have hgne:g≠vb:=by omega
 obtain ⟨W1,hW1⟩:∃ W1,w.setCell ⟨vb,1,none⟩ (.int .i64 ((a:Int)+1))=W1:=⟨_,rfl⟩
 have hb1:∀ b,b≠vb→W1.heap[b]? = w.heap[b]?:=fun b hne=>by rw [← hW1];exact Below.heap_setCell _ _ _ _ (by simpa using hne)
 have hs1:W1.heap.size=w.heap.size:=by rw [← hW1];simp
 have vW:VBlk W1 vb s (a+1) (.slice (some ⟨g,0,none⟩) (lo.length+1) cap):=by rw [← hW1];exact hv.set (b:=a+1)
 have sW:Stk W1 vb (.slice (some ⟨g,0,none⟩) (lo.length+1) cap) (lo ++ [h]):=st.frame (fun b hb _=>hb1 b (by omega)) (by omega)
 have tW:TopAt W1 g (lo.length * 4) h:=ht.same (hb1 g hgne)
 have okh:=sW.ok h (by simp)
 have hval:Calls Tryz.prog 73 #[.pointer (some ⟨g,lo.length * 4,none⟩)] W1 fun e w'=>∃ x:IV,e = .returned (iv x)∧W1.heap.size≤w'.heap.size∧(∀ b,b < W1.heap.size→h.row.ownBlock≠some b→w'.heap[b]? = W1.heap[b]?)∧Stk w' vb (.slice (some ⟨g,0,none⟩) lo.length cap) lo∧Vl w' (Done w' vb (.slice (some ⟨g,0,none⟩) lo.length cap) lo) x h.text∧Fr (fun b=>vb < b) W1 w':=by
  cases ho:h.obj with
  | false =>
   have okh':=okh
   unfold HOk at okh'
   rw [if_neg (by simp [ho])] at okh'
   obtain ⟨ra,rl,rc,hrow⟩:=owns_shape okh'.1
   refine (hvalue_arr ho hrow tW).mono ?_
   rintro e w' ⟨rfl,n,rfl⟩
   have hpop:=sW.pop (w':=W1.drewN n) (Nat.le_refl _) (fun b _ _ _=>rfl)
   refine ⟨(86,.slice ra rl rc),rfl,Nat.le_refl _,fun b _ _=>rfl,hpop.1,?_,(Fr.refl _ _).drewN _⟩
   unfold Hd.text
   rw [if_neg (by simp [ho]),← hrow]
   exact Vl.arr (owns_same okh'.1 (fun _ _=>rfl)) (fun q hq=>hpop.2.2 q hq) (fun x hx=>(okh'.2 x hx).mono hpop.2.1)
  | true =>
   have okh':=okh
   unfold HOk at okh'
   rw [if_pos (by simp [ho])] at okh'
   refine hvalue_obj ho tW ?_ (owns_shape2 okh'.1)
   rcases okh'.1.2 with ⟨hr,hn⟩ | ⟨gr,cr,cur,hr,hgr,_⟩
   ·rw [hr]
    refine (inOrder_nil W1).mono ?_
    rintro e w' ⟨rfl,hw⟩
    subst w'
    have hpop:=sW.pop (w':=W1) (Nat.le_refl _) (fun b _ _ _=>rfl)
    refine ⟨_,_,_,rfl,(102,.slice none 0 0),rfl,Nat.le_refl _,fun b _ _=>rfl,hpop.1,?_,Fr.refl _ _⟩
    have hms:h.ms=[]:=List.eq_nil_of_length_eq_zero hn
    unfold Hd.text
    rw [if_pos (by simp [ho]),hms]
    exact Vl.obj (N:=0) (ms:=[]) (World.ownsRow_nil _ _ _ _) (fun q hq=>by cases hq) (by simp) List.Pairwise.nil
   ·have ow:=okh'.1
    rw [hr] at ow
    obtain ⟨hn,hM,hc,hcm2,hN⟩:=owns_mem ow
    rw [hr]
    refine (inOrder_ok hC hM rfl hk hc hcm2).mono ?_
    rintro e w' ⟨rfl,hM',fr'⟩
    have hrb:h.row.ownBlock=some gr:=by rw [hr];rfl
    have hfr:∀ b,b < W1.heap.size→h.row.ownBlock≠some b→w'.heap[b]? = W1.heap[b]?:=fun b hb hne=>fr'.block b hb (fun e=>hne (by rw [e];exact hrb))
    have hpop:=sW.pop (w':=w') fr'.size (fun b _ hb hne=>hfr b hb hne)
    refine ⟨_,_,_,rfl,(102,.slice (some ⟨gr,0,none⟩) (inOrd h.ms).length cr),rfl,fr'.size,fun b hb hne=>hfr b hb (by rw [hr];exact hne),hpop.1,?_,fr'.mono (fun b e=>by omega)⟩
    unfold Hd.text
    rw [if_pos (by simp [ho])]
    refine Vl.obj (N:=0) (ms:=inOrd h.ms) (mem_owns hM' (Nat.le_trans (inOrd_len _) hc) hcm2 (Nat.zero_le _)) (fun q hq=>hpop.2.2 q (by cases hq;exact hrb)) (fun x hx=>?_) (inOrd_rise _)
    exact (okh'.2 x (inOrd_mem hx)).mono hpop.2.1
 have HV:Aside (Calls Tryz.prog 73 #[.pointer (some ⟨g,lo.length * 4,none⟩)] W1 fun e w'=>∃ x:IV,e = .returned (iv x)∧W1.heap.size≤w'.heap.size∧(∀ b,b < W1.heap.size→h.row.ownBlock≠some b→w'.heap[b]? = W1.heap[b]?)∧Stk w' vb (.slice (some ⟨g,0,none⟩) lo.length cap) lo∧Vl w' (Done w' vb (.slice (some ⟨g,0,none⟩) lo.length cap) lo) x h.text∧Fr (fun b=>vb < b) W1 w'):=hval
 have hrv:h.row.ownBlock≠some vb:=fun e=>by have:=(okh.range vb e).1;omega
 clear hval
 have c1:(a:Int)+1≤10000001:=by omega
 obtain ⟨w0,w1',w2',f0,f1,f2,wl⟩:=three_facts' vW
 go_enter Tryz.func30,Tryz.ntmps30
 go_wp2_with fail
 refine Calls.mono HV.out ?_
 rintro e w1 ⟨⟨T,u⟩,rfl,hsz,hfr,st1,vl1,fr1⟩
 simp only [iv]
 have v1:VBlk w1 vb s (a+1) (.slice (some ⟨g,0,none⟩) (lo.length+1) cap):=vW.same (hfr vb wl hrv)
 obtain ⟨x0,x1,x2,y0,y1,y2,xl⟩:=three_facts' v1
 have hl1:lo.length≤cap:=by omega
 go_wp2_with fail
 refine bodyPost_ret (v:=.iface T u) (by simp [results,Tryz.results30,go_sem]) rfl ⟨(T,u),rfl,⟨.slice (some ⟨g,0,none⟩) lo.length cap,v1.openV _,?_,?_⟩,?_⟩
 ·exact st1.frame (fun b hb _=>Below.heap_setCell _ _ _ _ (by simp;omega)) (by simp)
 ·exact vl1.frame (fun b hb _=>Below.heap_setCell _ _ _ _ (by simp;omega)) (by simp)
 ·have f1:Fr (fun b=>vb≤b) w W1:=by rw [← hW1];exact (Fr.refl _ _).setCell _ (.inl (Nat.le_refl _))
  exact (f1.trans fr1 (fun _ _ e=>Nat.le_of_lt e)).setCell _ (.inl (Nat.le_refl _))
structure HL where
 obj:Bool
 its:List Bys
 ms:List (Bys×Bys)
 key:Bys
def HL.text (l:HL):Bys:=if l.obj then objT (ddp (·.1) (sortB (·.1) l.ms)) else arrT l.its
def HL.add (l:HL) (c:Bys):HL:=if l.obj then { l with ms:=l.ms ++ [(l.key,c)] } else { l with its:=l.its ++ [c] }
def elP (x:El):Bys×Bys:=(elKey x,x.2.2)
def Hd.abs (h:Hd):HL:=⟨h.obj,h.its.map (·.2),h.ms.map elP,h.key.data.toList⟩
theorem insB_map (x:El):∀ l:List El,(insB elKey x l).map elP=insB (·.1) (elP x) (l.map elP)
 | []=>rfl
 | y :: l=>by
  simp only [insB,List.map_cons]
  by_cases h:Lib.compareBytes (elKey y) (elKey x) < 0
  ·rw [if_pos h,if_pos (show Lib.compareBytes (elP y).1 (elP x).1 < 0 from h),List.map_cons,insB_map x l]
  ·rw [if_neg h,if_neg (show ¬ Lib.compareBytes (elP y).1 (elP x).1 < 0 from h),List.map_cons,List.map_cons]
theorem sortB_map:∀ l:List El,(sortB elKey l).map elP=sortB (·.1) (l.map elP)
 | []=>rfl
 | x :: l=>by simp only [sortB,List.map_cons];rw [insB_map,sortB_map l]
theorem ddp_map:∀ l:List El,(ddp elKey l).map elP=ddp (·.1) (l.map elP)
 | []=>rfl
 | [_]=>rfl
 | x :: y :: l=>by
  simp only [ddp,List.map_cons]
  have ih:=ddp_map (y :: l)
  by_cases h:elKey y=elKey x
  ·rw [if_pos h,if_pos (show (elP y).1=(elP x).1 from h),ih];rfl
  ·rw [if_neg h,if_neg (show ¬ (elP y).1=(elP x).1 from h),List.map_cons,ih];rfl
theorem text_abs (h:Hd):h.text=h.abs.text:=by
 unfold Hd.text HL.text Hd.abs
 by_cases ho:h.obj
 ·simp only [ho,if_true]
  congr 1
  show ((ddp elKey (sortB elKey h.ms)).map elP)=_
  rw [ddp_map,sortB_map]
 ·simp only [ho,Bool.false_eq_true,if_false]
theorem add_abs (h:Hd) (row:Value) (x:IV) (c:Bys):(h.add row x c).abs=h.abs.add c:=by
 unfold Hd.add HL.add Hd.abs
 by_cases ho:h.obj
 ·simp [ho,elP,elKey]
 ·simp [ho]
abbrev Bg:=Nat×Option (Sum Bys HL)
def BgPost (vb:Nat) (s:ByteArray) (R:Bg) (hs:List Hd) (e:Ending) (w:World):Prop:=match R.2 with
 | none=>(∃ v,e = .returned (.tuple #[v,.bool false]))∧∃ ov,VBlk w vb s R.1 ov
 | some (.inl t)=>∃ x:IV,e = .returned (.tuple #[iv x,.bool true])∧AtV w vb s R.1 hs x t
 | some (.inr l)=>e = .returned (.tuple #[.nilIface,.bool true])∧∃ h:Hd,h.abs=l∧At w vb s R.1 (hs ++ [h])
def clB (obj:Bool):Int:=if obj then 125 else 93
def newL (obj:Bool) (k:Bys):HL:=⟨obj,[],[],k⟩
def bhL (s:ByteArray) (a n:Nat) (obj:Bool):Bg :=
 if n=64 then (a,none)
 else if byteAt s (blk s (a+1))=clB obj then (blk s (a+1)+1,some (.inl (newL obj []).text))
 else if obj then (if (keyAt s (blk s (a+1))).2.2 then ((keyAt s (blk s (a+1))).2.1,some (.inr (newL obj (keyAt s (blk s (a+1))).1))) else ((keyAt s (blk s (a+1))).2.1,none))
 else (blk s (a+1),some (.inr (newL obj [])))
theorem bh_arr (hC:ComparesStr) {w:World}{vb a:Nat}{s:ByteArray}{hs:List Hd} (hat:At w vb s a hs) (ha:a < s.size) (hm:s.size≤10000000) (hn:hs.length≤64) :
  Calls Tryz.prog 70 #[.pointer (some ⟨vb,0,none⟩),.int .u8 93] w fun e w'=>BgPost vb s (bhL s a hs.length false) hs e w'∧Fr (fun b=>vb≤b) w w':=by
 obtain ⟨j0,hj0,hy0,hy1,hy2⟩:=info_parts (show (Tryz.prog.info? 89).map (fun i=>(i.zero,i.size,i.bytes))=some (some (.agg #[.int .u8 0,.slice none 0 0,.slice none 0 0,.string ⟨#[]⟩]),4,72) by kernel_rfl)
 obtain ⟨ov,hv,st⟩:=hat.blk
 clear hat
 obtain ⟨v0,v1,v2,g0,g1,g2,vl⟩:=three_facts' hv
 obtain ⟨R,hR⟩:∃ R,bhL s a hs.length false=R:=⟨_,rfl⟩
 rw [hR]
 unfold bhL at hR
 obtain ⟨oa,ol,oc,rfl⟩:=owns_shape2 st.own
 have hol:ol=hs.length:=by
  rcases st.own.2 with ⟨e,h0⟩ | ⟨gg,cc,cur,e,_⟩
  ·cases e;omega
  ·cases e;omega
 subst hol
 by_cases h64:hs.length=64
 ·rw [if_pos h64] at hR
  have h64':((hs.length:Int) == 64)=true:=by simp;omega
  have HR:Hid _:=hR
  clear hR
  go_enter Tryz.func70,Tryz.ntmps70
  go_wp2_with fail
  refine bodyPost_ret (v:=.tuple #[.nilIface,.bool false]) (by simp [results,Tryz.results70,go_sem]) rfl ?_
  rw [← HR.out]
  exact ⟨⟨⟨_,rfl⟩,_,hv⟩,Fr.refl _ _⟩
 ·rw [if_neg h64] at hR
  have h64':((hs.length:Int) == 64)=false:=by simp;omega
  clear h64
  obtain ⟨p,hp⟩:∃ p,blk s (a+1)=p:=⟨_,rfl⟩
  have hpl:=blk_le (s:=s) (a:=a+1) (by omega)
  rw [hp] at hR hpl
  have HSK:Aside (∀ (w1:World) (o:Value),VBlk w1 vb s (a+1) o→Calls Tryz.prog 26 #[.pointer (some ⟨vb,0,none⟩)] w1 fun e w'=>e = .returned (.tuple #[])∧VBlk w' vb s p o∧Fr (· = vb) w1 w'):=by
   show ∀ (w1:World) (o:Value),_→_
   intro w1 o h1
   have h2:Calls Tryz.prog 26 #[.pointer (some ⟨vb,0,none⟩)] w1 fun e w'=>e = .returned (.tuple #[])∧VBlk w' vb s (blk s (a+1)) o∧Fr (· = vb) w1 w':=skipV_ok h1 (by omega) hm
   rwa [hp] at h2
  clear hp
  obtain ⟨nH,hnH⟩:∃ nH:Hd,nH=⟨false,.slice none 0 0,⟨#[]⟩,[],[]⟩:=⟨_,rfl⟩
  have hcells:nH.cells=[.int .u8 93,.slice none 0 0,.slice none 0 0,.string ⟨#[]⟩]:=by rw [hnH];rfl
  have ST:Aside (Stk w vb (.slice oa hs.length oc) hs):=st
  have OW:Aside _:=st.own
  have hlv:∀ b,(Value.slice oa hs.length oc).ownBlock=some b→vb < b:=fun b hb=>(st.own.lt b hb).1
  have HLV:Aside _:=hlv
  have ow:=st.own
  clear st hlv
  by_cases hcl:byteAt s p=93
  ·rw [if_pos (by rw [hcl];rfl)] at hR
   have hplt:p < s.size:=byte_pos (by rw [hcl];omega)
   have bcl:(byteAt s p == 93)=true:=by simpa using hcl
   have HR:Hid _:=hR
   clear hR hcl
   go_enter Tryz.func70,Tryz.ntmps70
   go_wp2_with (refine wpList_append_lies _ (by rfl) _ _ _ (by rfl) (vb+1) 89 j0 _ 4 72 Tryz.underlying45 hj0 hy0 hy1 hy2 rfl (by omega) _ hs.length (hs.flatMap Hd.cells) (by rfl) (ow.alloc _) ⟨w.heap.size,0,none⟩ 1 1 [.int .u8 93,.slice none 0 0,.slice none 0 0,.string ⟨#[]⟩] (by rfl) (by rfl) (World.news_of_block (cs:=#[.int .u8 93,.slice none 0 0,.slice none 0 0,.string ⟨#[]⟩]) (t:=89) (fr:=(0,0)) (heap_new w _)) (by simp [Value.oneCell']) (by omega) (by unfold maxLen;omega) (by omega) (by simp;omega) (w.heap.size+1) (by simp) ?_;intro gb cap w1 hown hgr hat hlt;have hv1:VBlk w1 vb s a (.slice oa hs.length oc):=hv.same ((hgr.block vb (by simp;omega) (fun e=>by have:=HLV.out vb e.symm;omega)).trans ((below_alloc w _).block vb vl));obtain ⟨x0,x1,x2,y0,y1,y2,xl⟩:=three_facts' hv1)
   have hgbv:vb < gb:=by
    rcases hat with e | e
    ·exact HLV.out gb e
    ·omega
   have fr1:Fr (fun b=>vb≤b) w w1:=((Fr.refl (fun b=>vb≤b) w).alloc _).trans (E:=fun b=>vb≤b) (Fr.of_grownBy hgr (fun k e=>Nat.le_of_lt (HLV.out k e.symm))) (fun _ _ e=>e)
   have st1:Stk w1 vb (.slice (some ⟨gb,0,none⟩) (hs.length+1) cap) (hs ++ [nH]):=by
    refine ST.out.push fr1.size ?_ (fun b h1 h2 h3=>(hgr.block b (by simp;omega) (fun e=>h3 e.symm)).trans ((below_alloc w _).block b h2)) ?_ (by rw [hnH]) (by rw [hnH]) (by rw [hnH])
    ·rw [List.flatMap_append]
     simpa [hcells] using hown
    ·rcases hat with e | e
     ·exact .inl e.symm
     ·exact .inr ⟨gb,rfl,by omega⟩
   obtain ⟨W2,hW2⟩:∃ W2,(w1.setCell ⟨vb,2,none⟩ (.slice (some ⟨gb,0,none⟩) (hs.length+1) cap)).setCell ⟨vb,1,none⟩ (.int .i64 ((a:Int)+1))=W2:=⟨_,rfl⟩
   rw [hW2]
   have vW:VBlk W2 vb s (a+1) (.slice (some ⟨gb,0,none⟩) (hs.length+1) cap):=by rw [← hW2];exact (hv1.openV _).set (b:=a+1)
   have hbW:∀ b,b≠vb→W2.heap[b]? = w1.heap[b]?:=fun b hne=>by rw [← hW2,Below.heap_setCell _ _ _ _ (by simpa using hne),Below.heap_setCell _ _ _ _ (by simpa using hne)]
   have hsW:W2.heap.size=w1.heap.size:=by rw [← hW2];simp
   have sW:Stk W2 vb (.slice (some ⟨gb,0,none⟩) (hs.length+1) cap) (hs ++ [nH]):=st1.frame (fun b hb _=>hbW b (by omega)) (by omega)
   have fW:Fr (fun b=>vb≤b) w W2:=by rw [← hW2];exact (fr1.setCell _ (.inl (Nat.le_refl _))).setCell _ (.inl (Nat.le_refl _))
   have VW:Aside (VBlk W2 vb s (a+1) (.slice (some ⟨gb,0,none⟩) (hs.length+1) cap)):=vW
   have SW:Aside (Stk W2 vb (.slice (some ⟨gb,0,none⟩) (hs.length+1) cap) (hs ++ [nH])):=sW
   clear vW sW st1 hown hgr hat ow hbW hsW hv hv1 fr1
   refine Calls.mono (HSK.out _ _ VW.out) ?_
   rintro e w3 ⟨rfl,v3,fr3⟩
   have s3:=SW.out.frame fr3.vb fr3.size
   have S3:Aside (Stk w3 vb (.slice (some ⟨gb,0,none⟩) (hs.length+1) cap) (hs ++ [nH])):=s3
   have f3:Fr (fun b=>vb≤b) w w3:=fW.trans fr3 (fun _ _ e=>by omega)
   have hA3:=v3.va hpl.2 hm
   clear s3 fr3 fW hW2 VW SW
   go_wp2_with (go_at_call 28;refine (nextV_ok hA3).mono ?_;rintro e w4 ⟨rfl,m4,rfl⟩)
   refine Calls.mono (close_ok2 hC (v3.drewN m4) (S3.out.frame (fun _ _ _=>rfl) (Nat.le_refl _)) (by omega) (by omega) (by rw [hnH];simp)) ?_
   rintro e w5 ⟨⟨T,u⟩,rfl,hAt,fr5⟩
   simp only [iv]
   go_wp2_with fail
   refine bodyPost_ret (v:=.tuple #[.iface T u,.bool true]) (by simp [results,Tryz.results70,go_sem]) rfl ?_
   rw [← HR.out]
   refine ⟨⟨(T,u),rfl,?_⟩,(f3.drewN m4).trans fr5 (fun _ _ e=>e)⟩
   have ht:nH.text=(newL false []).text:=by rw [text_abs,hnH];rfl
   rw [← ht]
   exact hAt
  ·rw [if_neg (by intro e;exact hcl e)] at hR
   have bcl:(byteAt s p == 93)=false:=by simpa using hcl
   have HR:Hid ((p,some (.inr (newL false [])))=R):=hR
   clear hR hcl
   go_enter Tryz.func70,Tryz.ntmps70
   go_wp2_with (refine wpList_append_lies _ (by rfl) _ _ _ (by rfl) (vb+1) 89 j0 _ 4 72 Tryz.underlying45 hj0 hy0 hy1 hy2 rfl (by omega) _ hs.length (hs.flatMap Hd.cells) (by rfl) (ow.alloc _) ⟨w.heap.size,0,none⟩ 1 1 [.int .u8 93,.slice none 0 0,.slice none 0 0,.string ⟨#[]⟩] (by rfl) (by rfl) (World.news_of_block (cs:=#[.int .u8 93,.slice none 0 0,.slice none 0 0,.string ⟨#[]⟩]) (t:=89) (fr:=(0,0)) (heap_new w _)) (by simp [Value.oneCell']) (by omega) (by unfold maxLen;omega) (by omega) (by simp;omega) (w.heap.size+1) (by simp) ?_;intro gb cap w1 hown hgr hat hlt;have hv1:VBlk w1 vb s a (.slice oa hs.length oc):=hv.same ((hgr.block vb (by simp;omega) (fun e=>by have:=HLV.out vb e.symm;omega)).trans ((below_alloc w _).block vb vl));obtain ⟨x0,x1,x2,y0,y1,y2,xl⟩:=three_facts' hv1)
   have hgbv:vb < gb:=by
    rcases hat with e | e
    ·exact HLV.out gb e
    ·omega
   have fr1:Fr (fun b=>vb≤b) w w1:=((Fr.refl (fun b=>vb≤b) w).alloc _).trans (E:=fun b=>vb≤b) (Fr.of_grownBy hgr (fun k e=>Nat.le_of_lt (HLV.out k e.symm))) (fun _ _ e=>e)
   have st1:Stk w1 vb (.slice (some ⟨gb,0,none⟩) (hs.length+1) cap) (hs ++ [nH]):=by
    refine ST.out.push fr1.size ?_ (fun b h1 h2 h3=>(hgr.block b (by simp;omega) (fun e=>h3 e.symm)).trans ((below_alloc w _).block b h2)) ?_ (by rw [hnH]) (by rw [hnH]) (by rw [hnH])
    ·rw [List.flatMap_append]
     simpa [hcells] using hown
    ·rcases hat with e | e
     ·exact .inl e.symm
     ·exact .inr ⟨gb,rfl,by omega⟩
   obtain ⟨W2,hW2⟩:∃ W2,(w1.setCell ⟨vb,2,none⟩ (.slice (some ⟨gb,0,none⟩) (hs.length+1) cap)).setCell ⟨vb,1,none⟩ (.int .i64 ((a:Int)+1))=W2:=⟨_,rfl⟩
   rw [hW2]
   have vW:VBlk W2 vb s (a+1) (.slice (some ⟨gb,0,none⟩) (hs.length+1) cap):=by rw [← hW2];exact (hv1.openV _).set (b:=a+1)
   have hbW:∀ b,b≠vb→W2.heap[b]? = w1.heap[b]?:=fun b hne=>by rw [← hW2,Below.heap_setCell _ _ _ _ (by simpa using hne),Below.heap_setCell _ _ _ _ (by simpa using hne)]
   have hsW:W2.heap.size=w1.heap.size:=by rw [← hW2];simp
   have sW:Stk W2 vb (.slice (some ⟨gb,0,none⟩) (hs.length+1) cap) (hs ++ [nH]):=st1.frame (fun b hb _=>hbW b (by omega)) (by omega)
   have fW:Fr (fun b=>vb≤b) w W2:=by rw [← hW2];exact (fr1.setCell _ (.inl (Nat.le_refl _))).setCell _ (.inl (Nat.le_refl _))
   have VW:Aside (VBlk W2 vb s (a+1) (.slice (some ⟨gb,0,none⟩) (hs.length+1) cap)):=vW
   have SW:Aside (Stk W2 vb (.slice (some ⟨gb,0,none⟩) (hs.length+1) cap) (hs ++ [nH])):=sW
   clear vW sW st1 hown hgr hat ow hbW hsW hv hv1 fr1
   refine Calls.mono (HSK.out _ _ VW.out) ?_
   rintro e w3 ⟨rfl,v3,fr3⟩
   have s3:=SW.out.frame fr3.vb fr3.size
   have S3:Aside (Stk w3 vb (.slice (some ⟨gb,0,none⟩) (hs.length+1) cap) (hs ++ [nH])):=s3
   have f3:Fr (fun b=>vb≤b) w w3:=fW.trans fr3 (fun _ _ e=>by omega)
   have hA3:=v3.va hpl.2 hm
   clear s3 fr3 fW hW2 VW SW
   go_wp2_with (go_at_call 28;refine (nextV_ok hA3).mono ?_;rintro e w4 ⟨rfl,m4,rfl⟩)
   refine bodyPost_ret (v:=.tuple #[.nilIface,.bool true]) (by simp [results,Tryz.results70,go_sem]) rfl ?_
   rw [← HR.out]
   refine ⟨⟨rfl,nH,by rw [hnH];rfl,⟨_,v3.drewN m4,S3.out.frame (fun _ _ _=>rfl) (Nat.le_refl _)⟩⟩,f3.drewN m4⟩
theorem bh_obj (hC:ComparesStr) (hA:AppendsRune) {w:World}{vb a:Nat}{s:ByteArray}{hs:List Hd} (hat:At w vb s a hs) (ha:a < s.size) (hm:s.size≤10000000) (hn:hs.length≤64) :
  Calls Tryz.prog 70 #[.pointer (some ⟨vb,0,none⟩),.int .u8 125] w fun e w'=>BgPost vb s (bhL s a hs.length true) hs e w'∧Fr (fun b=>vb≤b) w w':=by
 obtain ⟨j0,hj0,hy0,hy1,hy2⟩:=info_parts (show (Tryz.prog.info? 89).map (fun i=>(i.zero,i.size,i.bytes))=some (some (.agg #[.int .u8 0,.slice none 0 0,.slice none 0 0,.string ⟨#[]⟩]),4,72) by kernel_rfl)
 obtain ⟨ov,hv,st⟩:=hat.blk
 clear hat
 obtain ⟨v0,v1,v2,g0,g1,g2,vl⟩:=three_facts' hv
 obtain ⟨R,hR⟩:∃ R,bhL s a hs.length true=R:=⟨_,rfl⟩
 rw [hR]
 unfold bhL at hR
 obtain ⟨oa,ol,oc,rfl⟩:=owns_shape2 st.own
 have hol:ol=hs.length:=by
  rcases st.own.2 with ⟨e,h0⟩ | ⟨gg,cc,cur,e,_⟩
  ·cases e;omega
  ·cases e;omega
 subst hol
 by_cases h64:hs.length=64
 ·rw [if_pos h64] at hR
  have h64':((hs.length:Int) == 64)=true:=by simp;omega
  have HR:Hid _:=hR
  clear hR
  go_enter Tryz.func70,Tryz.ntmps70
  go_wp2_with fail
  refine bodyPost_ret (v:=.tuple #[.nilIface,.bool false]) (by simp [results,Tryz.results70,go_sem]) rfl ?_
  rw [← HR.out]
  exact ⟨⟨⟨_,rfl⟩,_,hv⟩,Fr.refl _ _⟩
 ·rw [if_neg h64] at hR
  have h64':((hs.length:Int) == 64)=false:=by simp;omega
  clear h64
  obtain ⟨p,hp⟩:∃ p,blk s (a+1)=p:=⟨_,rfl⟩
  have hpl:=blk_le (s:=s) (a:=a+1) (by omega)
  rw [hp] at hR hpl
  have HSK:Aside (∀ (w1:World) (o:Value),VBlk w1 vb s (a+1) o→Calls Tryz.prog 26 #[.pointer (some ⟨vb,0,none⟩)] w1 fun e w'=>e = .returned (.tuple #[])∧VBlk w' vb s p o∧Fr (· = vb) w1 w'):=by
   show ∀ (w1:World) (o:Value),_→_
   intro w1 o h1
   have h2:Calls Tryz.prog 26 #[.pointer (some ⟨vb,0,none⟩)] w1 fun e w'=>e = .returned (.tuple #[])∧VBlk w' vb s (blk s (a+1)) o∧Fr (· = vb) w1 w':=skipV_ok h1 (by omega) hm
   rwa [hp] at h2
  clear hp
  obtain ⟨nH,hnH⟩:∃ nH:Hd,nH=⟨true,.slice none 0 0,⟨#[]⟩,[],[]⟩:=⟨_,rfl⟩
  have hcells:nH.cells=[.int .u8 125,.slice none 0 0,.slice none 0 0,.string ⟨#[]⟩]:=by rw [hnH];rfl
  have ST:Aside (Stk w vb (.slice oa hs.length oc) hs):=st
  have OW:Aside _:=st.own
  have hlv:∀ b,(Value.slice oa hs.length oc).ownBlock=some b→vb < b:=fun b hb=>(st.own.lt b hb).1
  have HLV:Aside _:=hlv
  have ow:=st.own
  clear st hlv
  by_cases hcl:byteAt s p=125
  ·rw [if_pos (by rw [hcl];rfl)] at hR
   have hplt:p < s.size:=byte_pos (by rw [hcl];omega)
   have bcl:(byteAt s p == 125)=true:=by simpa using hcl
   have HR:Hid _:=hR
   clear hR hcl
   go_enter Tryz.func70,Tryz.ntmps70
   go_wp2_with (refine wpList_append_lies _ (by rfl) _ _ _ (by rfl) (vb+1) 89 j0 _ 4 72 Tryz.underlying45 hj0 hy0 hy1 hy2 rfl (by omega) _ hs.length (hs.flatMap Hd.cells) (by rfl) (ow.alloc _) ⟨w.heap.size,0,none⟩ 1 1 [.int .u8 125,.slice none 0 0,.slice none 0 0,.string ⟨#[]⟩] (by rfl) (by rfl) (World.news_of_block (cs:=#[.int .u8 125,.slice none 0 0,.slice none 0 0,.string ⟨#[]⟩]) (t:=89) (fr:=(0,0)) (heap_new w _)) (by simp [Value.oneCell']) (by omega) (by unfold maxLen;omega) (by omega) (by simp;omega) (w.heap.size+1) (by simp) ?_;intro gb cap w1 hown hgr hat hlt;have hv1:VBlk w1 vb s a (.slice oa hs.length oc):=hv.same ((hgr.block vb (by simp;omega) (fun e=>by have:=HLV.out vb e.symm;omega)).trans ((below_alloc w _).block vb vl));obtain ⟨x0,x1,x2,y0,y1,y2,xl⟩:=three_facts' hv1)
   have hgbv:vb < gb:=by
    rcases hat with e | e
    ·exact HLV.out gb e
    ·omega
   have fr1:Fr (fun b=>vb≤b) w w1:=((Fr.refl (fun b=>vb≤b) w).alloc _).trans (E:=fun b=>vb≤b) (Fr.of_grownBy hgr (fun k e=>Nat.le_of_lt (HLV.out k e.symm))) (fun _ _ e=>e)
   have st1:Stk w1 vb (.slice (some ⟨gb,0,none⟩) (hs.length+1) cap) (hs ++ [nH]):=by
    refine ST.out.push fr1.size ?_ (fun b h1 h2 h3=>(hgr.block b (by simp;omega) (fun e=>h3 e.symm)).trans ((below_alloc w _).block b h2)) ?_ (by rw [hnH]) (by rw [hnH]) (by rw [hnH])
    ·rw [List.flatMap_append]
     simpa [hcells] using hown
    ·rcases hat with e | e
     ·exact .inl e.symm
     ·exact .inr ⟨gb,rfl,by omega⟩
   obtain ⟨W2,hW2⟩:∃ W2,(w1.setCell ⟨vb,2,none⟩ (.slice (some ⟨gb,0,none⟩) (hs.length+1) cap)).setCell ⟨vb,1,none⟩ (.int .i64 ((a:Int)+1))=W2:=⟨_,rfl⟩
   rw [hW2]
   have vW:VBlk W2 vb s (a+1) (.slice (some ⟨gb,0,none⟩) (hs.length+1) cap):=by rw [← hW2];exact (hv1.openV _).set (b:=a+1)
   have hbW:∀ b,b≠vb→W2.heap[b]? = w1.heap[b]?:=fun b hne=>by rw [← hW2,Below.heap_setCell _ _ _ _ (by simpa using hne),Below.heap_setCell _ _ _ _ (by simpa using hne)]
   have hsW:W2.heap.size=w1.heap.size:=by rw [← hW2];simp
   have sW:Stk W2 vb (.slice (some ⟨gb,0,none⟩) (hs.length+1) cap) (hs ++ [nH]):=st1.frame (fun b hb _=>hbW b (by omega)) (by omega)
   have fW:Fr (fun b=>vb≤b) w W2:=by rw [← hW2];exact (fr1.setCell _ (.inl (Nat.le_refl _))).setCell _ (.inl (Nat.le_refl _))
   have VW:Aside (VBlk W2 vb s (a+1) (.slice (some ⟨gb,0,none⟩) (hs.length+1) cap)):=vW
   have SW:Aside (Stk W2 vb (.slice (some ⟨gb,0,none⟩) (hs.length+1) cap) (hs ++ [nH])):=sW
   clear vW sW st1 hown hgr hat ow hbW hsW hv hv1 fr1
   refine Calls.mono (HSK.out _ _ VW.out) ?_
   rintro e w3 ⟨rfl,v3,fr3⟩
   have s3:=SW.out.frame fr3.vb fr3.size
   have S3:Aside (Stk w3 vb (.slice (some ⟨gb,0,none⟩) (hs.length+1) cap) (hs ++ [nH])):=s3
   have f3:Fr (fun b=>vb≤b) w w3:=fW.trans fr3 (fun _ _ e=>by omega)
   have hA3:=v3.va hpl.2 hm
   clear s3 fr3 fW hW2 VW SW
   go_wp2_with (go_at_call 28;refine (nextV_ok hA3).mono ?_;rintro e w4 ⟨rfl,m4,rfl⟩)
   refine Calls.mono (close_ok2 hC (v3.drewN m4) (S3.out.frame (fun _ _ _=>rfl) (Nat.le_refl _)) (by omega) (by omega) (by rw [hnH];simp)) ?_
   rintro e w5 ⟨⟨T,u⟩,rfl,hAt,fr5⟩
   simp only [iv]
   go_wp2_with fail
   refine bodyPost_ret (v:=.tuple #[.iface T u,.bool true]) (by simp [results,Tryz.results70,go_sem]) rfl ?_
   rw [← HR.out]
   refine ⟨⟨(T,u),rfl,?_⟩,(f3.drewN m4).trans fr5 (fun _ _ e=>e)⟩
   have ht:nH.text=(newL true []).text:=by rw [text_abs,hnH];rfl
   rw [← ht]
   exact hAt
  ·rw [if_neg (by intro e;exact hcl e)] at hR
   have bcl:(byteAt s p == 125)=false:=by simpa using hcl
   simp only [if_true] at hR
   have HR:Hid _:=hR
   clear hR hcl
   go_enter Tryz.func70,Tryz.ntmps70
   go_wp2_with (refine wpList_append_lies _ (by rfl) _ _ _ (by rfl) (vb+1) 89 j0 _ 4 72 Tryz.underlying45 hj0 hy0 hy1 hy2 rfl (by omega) _ hs.length (hs.flatMap Hd.cells) (by rfl) (ow.alloc _) ⟨w.heap.size,0,none⟩ 1 1 [.int .u8 125,.slice none 0 0,.slice none 0 0,.string ⟨#[]⟩] (by rfl) (by rfl) (World.news_of_block (cs:=#[.int .u8 125,.slice none 0 0,.slice none 0 0,.string ⟨#[]⟩]) (t:=89) (fr:=(0,0)) (heap_new w _)) (by simp [Value.oneCell']) (by omega) (by unfold maxLen;omega) (by omega) (by simp;omega) (w.heap.size+1) (by simp) ?_;intro gb cap w1 hown hgr hat hlt;have hv1:VBlk w1 vb s a (.slice oa hs.length oc):=hv.same ((hgr.block vb (by simp;omega) (fun e=>by have:=HLV.out vb e.symm;omega)).trans ((below_alloc w _).block vb vl));obtain ⟨x0,x1,x2,y0,y1,y2,xl⟩:=three_facts' hv1)
   have hgbv:vb < gb:=by
    rcases hat with e | e
    ·exact HLV.out gb e
    ·omega
   have fr1:Fr (fun b=>vb≤b) w w1:=((Fr.refl (fun b=>vb≤b) w).alloc _).trans (E:=fun b=>vb≤b) (Fr.of_grownBy hgr (fun k e=>Nat.le_of_lt (HLV.out k e.symm))) (fun _ _ e=>e)
   have st1:Stk w1 vb (.slice (some ⟨gb,0,none⟩) (hs.length+1) cap) (hs ++ [nH]):=by
    refine ST.out.push fr1.size ?_ (fun b h1 h2 h3=>(hgr.block b (by simp;omega) (fun e=>h3 e.symm)).trans ((below_alloc w _).block b h2)) ?_ (by rw [hnH]) (by rw [hnH]) (by rw [hnH])
    ·rw [List.flatMap_append]
     simpa [hcells] using hown
    ·rcases hat with e | e
     ·exact .inl e.symm
     ·exact .inr ⟨gb,rfl,by omega⟩
   obtain ⟨W2,hW2⟩:∃ W2,(w1.setCell ⟨vb,2,none⟩ (.slice (some ⟨gb,0,none⟩) (hs.length+1) cap)).setCell ⟨vb,1,none⟩ (.int .i64 ((a:Int)+1))=W2:=⟨_,rfl⟩
   rw [hW2]
   have vW:VBlk W2 vb s (a+1) (.slice (some ⟨gb,0,none⟩) (hs.length+1) cap):=by rw [← hW2];exact (hv1.openV _).set (b:=a+1)
   have hbW:∀ b,b≠vb→W2.heap[b]? = w1.heap[b]?:=fun b hne=>by rw [← hW2,Below.heap_setCell _ _ _ _ (by simpa using hne),Below.heap_setCell _ _ _ _ (by simpa using hne)]
   have hsW:W2.heap.size=w1.heap.size:=by rw [← hW2];simp
   have sW:Stk W2 vb (.slice (some ⟨gb,0,none⟩) (hs.length+1) cap) (hs ++ [nH]):=st1.frame (fun b hb _=>hbW b (by omega)) (by omega)
   have fW:Fr (fun b=>vb≤b) w W2:=by rw [← hW2];exact (fr1.setCell _ (.inl (Nat.le_refl _))).setCell _ (.inl (Nat.le_refl _))
   have VW:Aside (VBlk W2 vb s (a+1) (.slice (some ⟨gb,0,none⟩) (hs.length+1) cap)):=vW
   have SW:Aside (Stk W2 vb (.slice (some ⟨gb,0,none⟩) (hs.length+1) cap) (hs ++ [nH])):=sW
   clear vW sW st1 hown hgr hat ow hbW hsW hv hv1 fr1
   refine Calls.mono (HSK.out _ _ VW.out) ?_
   rintro e w3 ⟨rfl,v3,fr3⟩
   have s3:=SW.out.frame fr3.vb fr3.size
   have S3:Aside (Stk w3 vb (.slice (some ⟨gb,0,none⟩) (hs.length+1) cap) (hs ++ [nH])):=s3
   have f3:Fr (fun b=>vb≤b) w w3:=fW.trans fr3 (fun _ _ e=>by omega)
   have hA3:=v3.va hpl.2 hm
   clear s3 fr3 fW hW2 VW SW
   go_wp2_with (go_at_call 28;refine (nextV_ok hA3).mono ?_;rintro e w4 ⟨rfl,m4,rfl⟩)
   refine Calls.mono (readKey_ok hA (v3.drewN m4) (S3.out.frame (fun _ _ _=>rfl) (Nat.le_refl _)) hpl.2 hm (by omega)) ?_
   rintro e w5 ⟨rfl,v5,hke,fr5⟩
   go_wp2_with fail
   refine bodyPost_ret (v:=.tuple #[.nilIface,.bool (keyAt s p).2.2]) (by simp [results,Tryz.results70,go_sem]) rfl ?_
   rw [← HR.out]
   obtain ⟨k,hk,hst⟩:=hke
   refine ⟨?_,(f3.drewN m4).trans fr5 (fun _ _ e=>e)⟩
   cases hok:(keyAt s p).2.2 with
   | true =>
    rw [if_pos rfl]
    refine ⟨rfl,{ nH with key:=k },?_,⟨_,v5,hst hok⟩⟩
    rw [hnH,← hk]
    rfl
   | false =>
    rw [if_neg (by simp)]
    exact ⟨⟨_,rfl⟩,_,v5⟩
end Go.Proofs.Tryz
