import Derived.Test.YtbhajhlhgbnhbaaGreatDoorFz3
import Derived.Test.YtbhajhlhgbnhbaaGreatDoorOp1
set_option linter.all false
namespace Go.Proofs.Tryz
set_option maxHeartbeats 16000000
open Go.RowKit
set_option maxRecDepth 10000
structure Fq where
 lv:Value
 rv:Value
 ls:List En
 rs:List En
def Fq.cells (e:Fq):List Value:=[e.lv,e.rv]
def enN (ts:List En):Nat:=(ts.map (·.2.2)).sum
def FqOk (w:World) (e:Fq):Prop:=Sl w e.lv (e.ls.map (·.1))∧Sl w e.rv (e.rs.map (·.1))∧(∀ t∈e.ls,∃ d,EncV w d t.2.2 t.1 t.2.1)∧∀ t∈e.rs,∃ d,EncV w d t.2.2 t.1 t.2.1∧t.2.2≤1000000000
theorem FqOk.keep {w w':World} (h:KeptV w w') {e:Fq} (o:FqOk w e):FqOk w' e :=
 ⟨o.1.keep h,o.2.1.keep h,fun t ht=>by obtain ⟨d,hd⟩:=o.2.2.1 t ht;exact ⟨d,hd.keep h⟩,fun t ht=>by obtain ⟨d,hd,hn⟩:=o.2.2.2 t ht;exact ⟨d,hd.keep h,hn⟩⟩
def sqN (stk:List Fq):Nat:=(stk.map (fun e=>enN e.ls)).sum
def codeL (stk:List Fq):List Int:=stk.foldl (fun acc e=>listC (e.ls.map (·.2.1)) ++ acc) []
def codeR (stk:List Fq):List Int:=stk.foldl (fun acc e=>listC (e.rs.map (·.2.1)) ++ acc) []
theorem codeL_push (lo:List Fq) (e:Fq):codeL (lo ++ [e])=listC (e.ls.map (·.2.1)) ++ codeL lo:=by simp [codeL]
theorem codeR_push (lo:List Fq) (e:Fq):codeR (lo ++ [e])=listC (e.rs.map (·.2.1)) ++ codeR lo:=by simp [codeR]
structure CmpQ (w0 w:World) (v:Value) (stk:List Fq):Prop where
 row:w.ownsRow w0.heap.size 351 2 v stk.length (stk.flatMap Fq.cells)
 ok:∀ e∈stk,FqOk w e
 up:Up w0 w
def fqF (e:Fq):Fc:=⟨e.lv,e.rv,[]⟩
theorem fq_cells (stk:List Fq):stk.flatMap Fq.cells=(stk.map fqF).flatMap Fc.cells:=by
 rw [List.flatMap_map];rfl
theorem fq_len (stk:List Fq):(stk.flatMap Fq.cells).length=stk.length * 2:=by rw [fq_cells,fc_len,List.length_map]
theorem CmpQ.move {w0 w w':World}{v:Value}{stk:List Fq} (h:CmpQ w0 w v stk) (k:Up w w'):CmpQ w0 w' v stk :=
 ⟨owns_same h.row (fun b hb=>k.1.block b (h.row.lt b hb).2),fun e he=>(h.ok e he).keep (KeptV.of_below k.1),h.up.trans k⟩
theorem topFq {w:World}{B:Nat}{v:Value}{lo:List Fq}{e:Fq} (ow:w.ownsRow B 351 2 v (lo ++ [e]).length ((lo ++ [e]).flatMap Fq.cells)):∃ g cap,v = .slice (some ⟨g,0,none⟩) (lo.length+1) cap∧B≤g∧lo.length+1≤cap∧cap≤9223372036854775807∧w.cell? ⟨g,lo.length * 2,none⟩=some e.lv∧w.cell? ⟨g,lo.length * 2+1,none⟩=some e.rv∧(∀ q,w.frozen? ⟨g,q,none⟩=false)∧g < w.heap.size:=by
 have h:=topFc (lo:=lo.map fqF) (e:=fqF e) (w:=w) (B:=B) (v:=v) (by
  rw [fq_cells] at ow
  simpa using ow)
 rw [List.length_map] at h
 exact h
theorem popFq {w:World}{B g cap:Nat}{lo:List Fq}{e:Fq} (h:w.ownsRow B 351 2 (.slice (some ⟨g,0,none⟩) (lo.length+1) cap) (lo ++ [e]).length ((lo ++ [e]).flatMap Fq.cells)):w.ownsRow B 351 2 (.slice (some ⟨g,0,none⟩) lo.length cap) lo.length (lo.flatMap Fq.cells):=by
 have h2:=popFc (w:=w) (B:=B) (g:=g) (cap:=cap) (lo:=lo.map fqF) (e:=fqF e) (by
  rw [fq_cells] at h
  simpa using h)
 rw [fq_cells]
 simpa using h2
theorem CmpQ.took {w0 wr:World}{g cap q:Nat}{lo:List Fq}{e:Fq}{t t':En}{ts ts':List En}{nl nr:Value} (h:CmpQ w0 wr (.slice (some ⟨g,0,none⟩) (lo.length+1) cap) (lo ++ [e])) (ht:e.ls=t :: ts) (ht':e.rs=t' :: ts') (hl:Sl wr nl (ts.map (·.1))) (hr:Sl wr nr (ts'.map (·.1))) :
  CmpQ w0 (((wr.drewN q).setCell ⟨g,lo.length * 2,none⟩ nl).setCell ⟨g,lo.length * 2+1,none⟩ nr) (.slice (some ⟨g,0,none⟩) (lo.length+1) cap) (lo ++ [⟨nl,nr,ts,ts'⟩])∧KeptV wr (((wr.drewN q).setCell ⟨g,lo.length * 2,none⟩ nl).setCell ⟨g,lo.length * 2+1,none⟩ nr):=by
 have hgB:=(h.row.lt g rfl).1
 obtain ⟨cg,fg,hcg⟩:=own_kind h.row g rfl
 have hk:KeptV wr (((wr.drewN q).setCell ⟨g,lo.length * 2,none⟩ nl).setCell ⟨g,lo.length * 2+1,none⟩ nr):=fun b c fz hb=>by
  have hne:b≠g:=fun e=>by
   subst e
   rcases hb with hb | hb <;> rw [hcg] at hb <;> simp at hb
  rw [Below.heap_setCell _ _ _ _ (by simpa using hne),Below.heap_setCell _ _ _ _ (by simpa using hne)]
  rfl
 refine ⟨⟨?_,fun x hx=>?_,⟨?_,?_⟩⟩,hk⟩
 ·have hrow:=h.row
  rw [List.length_append,List.length_singleton] at hrow ⊢
  have h1:(wr.drewN q).ownsRow w0.heap.size 351 2 (.slice (some ⟨g,0,none⟩) (lo.length+1) cap) (lo.length+1) ((lo ++ [e]).flatMap Fq.cells):=owns_same hrow (fun _ _=>rfl)
  have h2:=((h1.stored (lo.length * 2) nl).1.stored (lo.length * 2+1) nr).1
  have e1:(((lo ++ [e]).flatMap Fq.cells).set (lo.length * 2) nl).set (lo.length * 2+1) nr=(lo ++ [(⟨nl,nr,ts,ts'⟩:Fq)]).flatMap Fq.cells:=by
   rw [List.flatMap_append,List.flatMap_append,List.set_append_right _ _ (by rw [fq_len];omega),fq_len,Nat.sub_self,List.set_append_right _ _ (by rw [fq_len];omega),fq_len,Nat.add_sub_cancel_left]
   simp [Fq.cells]
  rw [e1] at h2
  exact h2
 ·rcases List.mem_append.1 hx with hx | hx
  ·exact (h.ok x (by simp [hx])).keep hk
  ·rw [List.mem_singleton.1 hx]
   refine ⟨hl.keep hk,hr.keep hk,fun s hs=>?_,fun s hs=>?_⟩
   ·obtain ⟨d,hd⟩:=(h.ok e (by simp)).2.2.1 s (by rw [ht];simp [show s∈ts from hs])
    exact ⟨d,hd.keep hk⟩
   ·obtain ⟨d,hd,hn⟩:=(h.ok e (by simp)).2.2.2 s (by rw [ht'];simp [show s∈ts' from hs])
    exact ⟨d,hd.keep hk,hn⟩
 ·exact ((h.up.1.trans (belowD _ _ q)).setCell (p:=⟨g,lo.length * 2,none⟩) hgB _).setCell (p:=⟨g,lo.length * 2+1,none⟩) hgB _
 ·have:=h.up.2
  show w0.drawn≤wr.drawn+q
  omega
theorem code_differ {p q p' q' R R':List Int}{o:Int} (h:OutC p p' o) (ho:o≠0):lexC (p ++ q ++ R) (p' ++ q' ++ R')=o:=by
 rw [List.append_assoc,List.append_assoc,h.2.2 ho]
theorem code_same {x x':IV}{w:World}{p q p' q':List Int}{ts ts':List En} (hp:HdV w x p) (hp':HdV w x' p') (e:p=p') (h:(ts=[]∧q=[]∧rankT x.1 < 4)∨(q=listC (ts.map (·.2.1))∧4≤rankT x.1)) (h':(ts'=[]∧q'=[]∧rankT x'.1 < 4)∨(q'=listC (ts'.map (·.2.1))∧4≤rankT x'.1)) :
  (ts=[]∧ts'=[]∧q=q')∨(q=listC (ts.map (·.2.1))∧q'=listC (ts'.map (·.2.1))):=by
 obtain ⟨_,l,e1⟩:=hp.kind
 obtain ⟨_,l',e2⟩:=hp'.kind
 rw [e1,e2] at e
 injection e with er _
 rcases h with ⟨h1,h2,h3⟩ | ⟨h1,h2⟩
 ·rcases h' with ⟨k1,k2,k3⟩ | ⟨k1,k2⟩
  ·exact .inl ⟨h1,k1,by rw [h2,k2]⟩
  ·omega
 ·rcases h' with ⟨k1,k2,k3⟩ | ⟨k1,k2⟩
  ·omega
  ·exact .inr ⟨h1,k1⟩
theorem en_le_sum:∀ {ts:List En}{t:En},t∈ts→t.2.2≤(ts.map (·.2.2)).sum
 | a :: l,t,h=>by
  rcases List.mem_cons.1 h with rfl | h
  ·simp
  ·have:=en_le_sum h
   simp at this ⊢
   omega
theorem ordI_lt {a b:Int} (h:a < b):ordI a b = -1:=by simp [ordI,h]
theorem ordI_gt {a b:Int} (h:b < a):ordI a b=1:=by simp [ordI,h,show ¬ a < b by omega]
theorem Compare_cmp (hC:ComparesStr) {w:World}{d n d' n':Nat}{x y:IV}{c0 c0':List Int} (h:EncV w d n x c0) (h':EncV w d' n' y c0') (hn:n≤100000000) (hn':n'≤1000000000) :
  Calls Tryz.prog 223 #[iv x,iv y] w fun e w'=>e = .returned (.int .i64 (lexC c0 c0'))∧Up w w':=by
 obtain ⟨i0,hi0,hz0,hz1,hz2⟩:=info_parts (show (Tryz.prog.info? 351).map (fun i=>(i.zero,i.size,i.bytes))=some (some (.agg #[.slice none 0 0,.slice none 0 0]),2,48) by kernel_rfl)
 have H:Aside (EncV w d n x c0):=h
 have H':Aside (EncV w d' n' y c0'∧n'≤1000000000):=⟨h',hn'⟩
 clear h h' hn'
 obtain ⟨F,hF⟩:∃ F,Hid (F=lexC c0 c0'):=⟨_,rfl⟩
 rw [← hF.out]
 obtain ⟨T,u⟩:=x
 obtain ⟨T',u'⟩:=y
 simp only [iv]
 go_enter Tryz.func223,Tryz.ntmps223
 go_wp2_with fail
 go_step3
 go_wp2_with fail
 go_step3
 go_wp2_with fail
 go_loopg [0,1,5] n (fun k v0 v1 v5 wr=>∃ (T T':Nat) (u u':Value) (d m d' m':Nat) (c c':List Int) (stk:List Fq),v0 = .iface T u∧v1 = .iface T' u'∧m+sqN stk≤k∧stk.length+k≤n∧Aside (EncV wr d m (T,u) c)∧Aside (EncV wr d' m' (T',u') c'∧m'≤1000000000)∧Aside (CmpQ w wr v5 stk)∧Hid (F=lexC (c ++ codeL stk) (c' ++ codeR stk)))
 case atStart=>exact ⟨T,T',u,u',d,n,d',n',c0,c0',[],rfl,rfl,by simp [sqN],by simp,H,H',⟨World.ownsRow_nil _ _ _ _,by simp,Up.refl _⟩,by simpa [codeL,codeR] using hF⟩
 case round =>
  obtain ⟨T,T',u,u',d,m,d',m',c,c',stk,rfl,rfl,hk,hkn,HE,HE',HC,hFF⟩:=hrel
  obtain ⟨sp,sc,rfl⟩:∃ sp sc,u5=Value.slice sp stk.length sc:=by
   rcases HC.out.row.2 with ⟨e,h0⟩ | ⟨_,_,_,e,_⟩
   ·exact ⟨none,0,by rw [e,h0]⟩
   ·exact ⟨_,_,e⟩
  obtain ⟨p,q,ts,hhd,hcode,hkind,hs,hl,hE,hpL⟩:=enc_step HE.out (by omega)
  obtain ⟨p',q',ts',hhd',hcode',hkind',hs',hl',hE',hpR⟩:=enc_step HE'.out.1 HE'.out.2
  have hm9:=HE'.out.2
  match gk,hk,hkn with
  | 0,hk,hkn=>omega
  | K+1,hk,hkn =>
   have HO:Aside (Calls Tryz.prog 263 #[.iface T u,.iface T' u'] wr fun e w'=>∃ o,e = .returned (.int .i64 o)∧OutC p p' o∧Up wr w'):=outside_cmp (x:=(T,u)) (y:=(T',u')) hC (hhd wr (Up.refl _)) (hhd' wr (Up.refl _))
   have HHD:Aside (HdV wr (T,u) p∧HdV wr (T',u') p'):=⟨hhd wr (Up.refl _),hhd' wr (Up.refl _)⟩
   have HPL:Aside (∀ w1,Up wr w1→Calls Tryz.prog 264 #[.iface T u] w1 fun e w2=>∃ v,e = .returned v∧Up w1 w2∧Sl w2 v (ts.map (·.1))):=hpL
   have HPR:Aside (∀ w1,Up wr w1→Calls Tryz.prog 264 #[.iface T' u'] w1 fun e w2=>∃ v,e = .returned v∧Up w1 w2∧Sl w2 v (ts'.map (·.1))):=hpR
   have HEE:Aside (∀ t∈ts,EncV wr d t.2.2 t.1 t.2.1):=hE
   have HEE':Aside (∀ t∈ts',EncV wr d' t.2.2 t.1 t.2.1):=hE'
   have HKK:Aside (((ts=[]∧q=[]∧rankT T < 4)∨(q=listC (ts.map (·.2.1))∧4≤rankT T))∧((ts'=[]∧q'=[]∧rankT T' < 4)∨(q'=listC (ts'.map (·.2.1))∧4≤rankT T'))):=⟨hkind,hkind'⟩
   have HCC:Hid (c=p ++ q∧c'=p' ++ q'):=⟨hcode,hcode'⟩
   clear hhd hhd' hpL hpR hE hE' hkind hkind' hcode hcode'
   go_wp2_with fail
   refine Calls.mono HO.out ?_
   rintro e w1 ⟨o,rfl,hout,k1⟩
   by_cases ho:o=0
   case neg =>
    have hres:Hid (F=o):=by
     have h1:=hFF.out
     rw [HCC.out.1,HCC.out.2,code_differ hout ho] at h1
     exact h1
    have kk:Up w w1:=HC.out.up.trans k1
    clear hout HO HPL HPR HEE HEE' HKK HHD HE HE' HC
    go_wp2_with fail
    simp only [Exit.noGoto]
    exact bodyPost_ret (v:=.int .i64 o) (by simp [results,Tryz.results223,go_sem]) rfl ⟨by rw [hres.out],kk⟩
   subst ho
   have hpp:Hid (p=p'):=hout.2.1 rfl
   clear hout
   go_wp2_with fail
   refine Calls.mono (HPL.out w1 k1) ?_
   rintro e w2 ⟨lv,rfl,k2,sl2⟩
   have k12:=k1.trans k2
   go_wp2_with fail
   refine Calls.mono (HPR.out w2 k12) ?_
   rintro e w3 ⟨rv,rfl,k3,sr3⟩
   have k13:=k12.trans k3
   have CS3:Aside (CmpQ w w3 (.slice sp stk.length sc) stk):=HC.out.move k13
   have hF3:FqOk w3 ⟨lv,rv,ts,ts'⟩:=⟨sl2.keep (KeptV.of_below k3.1),sr3,fun t ht=>⟨d,(HEE.out t ht).keep (KeptV.of_below k13.1)⟩,fun t ht=>⟨d',(HEE'.out t ht).keep (KeptV.of_below k13.1),by
    have h9:=en_le_sum (ts:=ts') ht
    omega⟩⟩
   have HF3:Aside (FqOk w3 ⟨lv,rv,ts,ts'⟩):=hF3
   obtain ⟨p1,c1,rfl,_⟩:=sl2
   obtain ⟨p2,c2,rfl,_⟩:=sr3
   rw [List.length_map,List.length_map]
   clear hF3
   have push:∀ g4 cap4 w4,w4.ownsRow w.heap.size 351 2 (.slice (some ⟨g4,0,none⟩) (stk.length+1) cap4) (stk.length+1) (stk.flatMap Fq.cells ++ [.slice p1 ts.length c1,.slice p2 ts'.length c2])→(w3.alloc (.cells #[.slice p1 ts.length c1,.slice p2 ts'.length c2] 351)).grownBy w4 (Value.slice sp stk.length sc).ownBlock→w3.drawn≤w4.drawn→CmpQ w w4 (.slice (some ⟨g4,0,none⟩) (stk.length+1) cap4) (stk ++ [⟨.slice p1 ts.length c1,.slice p2 ts'.length c2,ts,ts'⟩]):=fun g4 cap4 w4 ow4 gr4 dr4=>by
    have hrow:=CS3.out.row
    have hle:=CS3.out.up.1.size
    have hok:KeptV w3 w4:=KeptV.of_others (T:=351) (((Lib.OthersKept.refl _ _ w3).alloc _).grown gr4 (own_kind (hrow.alloc _))) (by decide) (by decide)
    refine ⟨?_,fun e he=>?_,(CS3.out.up.1.alloc (by omega) _).grown gr4 (by simp;omega) (fun q hq=>(hrow.lt q hq).1),Nat.le_trans CS3.out.up.2 dr4⟩
    ·rw [List.length_append,List.length_singleton,List.flatMap_append]
     exact ow4
    ·rcases List.mem_append.1 he with he | he
     ·exact (CS3.out.ok e he).keep hok
     ·rw [List.mem_singleton.1 he]
      have:=HF3.out.keep hok
      simpa only [List.length_map] using this
   have PUSH:Aside _:=push
   have HROW:Aside (w3.ownsRow w.heap.size 351 2 (.slice sp stk.length sc) stk.length (stk.flatMap Fq.cells)):=CS3.out.row
   have hle3:=CS3.out.up.1.size
   have HSAME:Hid ((ts=[]∧ts'=[]→F=lexC (codeL stk) (codeR stk))∧(¬ (ts=[]∧ts'=[])→F=lexC (listC (ts.map (·.2.1)) ++ codeL stk) (listC (ts'.map (·.2.1)) ++ codeR stk))):=by
    have hc:=code_same HHD.out.1 HHD.out.2 hpp.out HKK.out.1 HKK.out.2
    have h1:=hFF.out
    rw [HCC.out.1,HCC.out.2,hpp.out,List.append_assoc,List.append_assoc,lexC_append] at h1
    rcases hc with ⟨e1,e2,e3⟩ | ⟨e1,e2⟩
    ·rw [e3,lexC_append] at h1
     exact ⟨fun _=>h1,fun hne=>absurd ⟨e1,e2⟩ hne⟩
    ·rw [e1,e2] at h1
     refine ⟨fun he=>?_,fun _=>h1⟩
     rw [he.1,he.2,lexC_append] at h1
     exact h1
   clear push
   by_cases hm0:ts=[]∧ts'=[]
   case' pos =>
    obtain ⟨hm1,hm2⟩:=hm0
    have hres:Hid (F=lexC (codeL stk) (codeR stk)):=HSAME.out.1 ⟨hm1,hm2⟩
    subst hm1
    subst hm2
    go_wp2_with fail
    obtain ⟨stk1,HC1,hlen1,hsum1,hF1⟩:∃ stk1,Aside (CmpQ w w3 (.slice sp stk.length sc) stk1)∧stk1.length≤stk.length+1∧sqN stk1≤K∧Hid (F=lexC (codeL stk1) (codeR stk1)):=⟨stk,CS3,by omega,by simp at hs;omega,hres⟩
   case' neg =>
    have hres:Hid (F=lexC (listC (ts.map (·.2.1)) ++ codeL stk) (listC (ts'.map (·.2.1)) ++ codeR stk)):=HSAME.out.2 hm0
    have hm1:0 < ts.length+ts'.length:=by
     rcases ts with _ | ⟨a,l⟩
     ·rcases ts' with _ | ⟨b,l'⟩
      ·exact absurd ⟨rfl,rfl⟩ hm0
      ·simp
     ·simp;omega
    have hz3:(0:Int) < (ts.length:Int)+(ts'.length:Int):=by omega
    go_wp2_with (refine wpList_append_up _ (by rfl) _ _ _ (by rfl) w.heap.size 351 i0 _ 2 48 Tryz.underlying348 hi0 hz0 hz1 hz2 rfl (by omega) (.slice sp stk.length sc) stk.length (stk.flatMap Fq.cells) (by rfl) (HROW.out.alloc _) ⟨w3.heap.size,0,none⟩ 1 1 [.slice p1 ts.length c1,.slice p2 ts'.length c2] (by rfl) (by rfl) (World.news_of_block (cs:=#[.slice p1 ts.length c1,.slice p2 ts'.length c2]) (t:=351) (fr:=(0,0)) (heap_new w3 _)) (by simp [Value.oneCell']) (by omega) (by unfold maxLen;omega) (by omega) (by simp;omega) (w3.heap.size+1) (by simp) ?_;intro g4 cap4 w4 ow4 gr4 dr4 hat4 hlt4;have CS4:Aside (CmpQ w w4 (.slice (some ⟨g4,0,none⟩) (stk.length+1) cap4) (stk ++ [⟨.slice p1 ts.length c1,.slice p2 ts'.length c2,ts,ts'⟩])):=PUSH.out g4 cap4 w4 ow4 gr4 (by simpa using dr4);clear ow4)
    obtain ⟨stk1,HC1,hlen1,hsum1,hF1⟩:∃ stk1,Aside (CmpQ w w4 (.slice (some ⟨g4,0,none⟩) (stk.length+1) cap4) stk1)∧stk1.length≤stk.length+1∧sqN stk1≤K∧Hid (F=lexC (codeL stk1) (codeR stk1)):=⟨_,CS4,by simp,by simp [sqN,enN] at hk hs ⊢;omega,by
     have:=hres.out
     show F=_
     rw [codeL_push,codeR_push]
     exact this⟩
   all_goals
    go_loopg [5] stk1.length (fun kk v5 wi=>∃ stk2:List Fq,stk2.length≤kk∧stk2.length≤stk.length+1∧sqN stk2≤K∧Aside (CmpQ w wi v5 stk2)∧Hid (F=lexC (codeL stk2) (codeR stk2)))
    case atStart=>exact ⟨stk1,Nat.le_refl _,hlen1,hsum1,HC1,hF1⟩
    case round =>
     clear HC1 CS3 HF3 PUSH HROW HO HPL HPR HEE HEE' HKK HHD HE HE' HC hF1 HSAME hres hpp HCC hFF hs hl hs' hl'
     obtain ⟨stk2,h1,h2,h3,HC2,hF2⟩:=hrel
     by_cases he:stk2=[]
     ·subst he
      have hv:=HC2.out.row
      obtain ⟨sp2,sc2,rfl⟩:∃ sp sc,u5=Value.slice sp 0 sc:=by
       rcases hv.2 with ⟨e,h0⟩ | ⟨_,_,_,e,_⟩
       ·exact ⟨none,0,e⟩
       ·exact ⟨_,_,e⟩
      clear hv
      go_wp2_with fail
      simp only [Exit.noGoto]
      exact bodyPost_ret (v:=.int .i64 0) (by simp [results,Tryz.results223,go_sem]) rfl ⟨by rw [hF2.out];rfl,HC2.out.up⟩
     ·obtain ⟨lo,e,rfl⟩:∃ lo e,stk2=lo ++ [e]:=⟨stk2.dropLast,stk2.getLast he,(List.dropLast_concat_getLast he).symm⟩
      have hrow:=HC2.out.row
      obtain ⟨g,cap,rfl,hgB,hcap,hcm,e0,e1,hfz,hgl⟩:=topFq hrow
      have hfe:=HC2.out.ok e (by simp)
      obtain ⟨q1,d1,hq1,hq1c,hq1m,hq1x⟩:=hfe.1
      obtain ⟨q2,d2,hq2,hq2c,hq2m,hq2x⟩:=hfe.2.1
      rw [List.length_map] at hq1 hq2 hq1c hq2c
      rw [hq1] at e0
      rw [hq2] at e1
      have hpop:=popFq hrow
      clear hrow
      have hFx:=hF2.out
      rw [codeL_push,codeR_push] at hFx
      have z2:lo.length≤200000000:=by rw [List.length_append,List.length_singleton] at h2;omega
      have z8:stk.length≤200000000:=by omega
      have HH:Hid (lo.length+1≤gk∧lo.length+1≤stk.length+1∧sqN (lo ++ [e])≤K):=by
       rw [List.length_append,List.length_singleton] at h1 h2
       exact ⟨h1,h2,h3⟩
      clear h1 h2 h3
      cases hts:e.ls with
      | nil =>
       rw [hts,List.length_nil] at e0
       cases hts':e.rs with
       | nil =>
        rw [hts',List.length_nil] at e1
        have hF3:Hid (F=lexC (codeL lo) (codeR lo)):=by
         rw [hts,hts',lexC_append] at hFx
         exact hFx
        have HPOP:Aside (wr.ownsRow w.heap.size 351 2 (.slice (some ⟨g,0,none⟩) lo.length cap) lo.length (lo.flatMap Fq.cells)):=hpop
        clear hpop hfe hq1 hq2 hq1c hq2c hq1m hq2m hq1x hq2x hFx hF2
        go_wp2_with fail
        go_region_with ((go_at_call 265;refine (cmpInt_id _ _).mono ?_;rintro e w9 ⟨rfl,hw9⟩;subst hw9))
        all_goals
         go_wp2_with fail
         have hh:=HH.out
         go_roundg (gk - 1)
         case measure=>omega
         case rel=>exact ⟨lo,by omega,by omega,by have h9:=hh.2.2;simp [sqN] at h9 ⊢;omega,⟨World.ownsRow.drew HPOP.out,fun e' he'=>FqOk.keep (w:=wr) (w':=wr.drew) (fun _ _ _ _=>rfl) (HC2.out.ok e' (by simp [he'])),HC2.out.up.drew⟩,hF3⟩
       | cons t' ts2' =>
        obtain ⟨M,hM⟩:∃ M,e.rs.length=M:=⟨_,rfl⟩
        have z3:(0:Int) < (M:Int):=by rw [← hM,hts'];simp
        have z4:(M:Int)≠0:=by omega
        rw [hM] at e1
        have hF3:Hid (F = -1):=by
         rw [hts,hts'] at hFx
         rw [hFx,List.map_nil,listC_nil,List.map_cons,listC_cons]
         rfl
        have HCM:Aside (∀ ww,Calls Tryz.prog 265 #[.int .i64 0,.int .i64 (M:Int)] ww fun e w'=>e = .returned (.int .i64 (-1))∧w'=ww):=fun ww=>by
         have:=cmpInt_ok 0 (M:Int) ww
         rw [ordI_lt z3] at this
         exact this
        clear hpop hfe hq1 hq2 hq1c hq2c hq1m hq2m hq1x hq2x hFx hF2
        go_wp2_with fail
        go_region_with ((go_at_call 265;refine Calls.mono (HCM.out _) ?_;rintro e w9 ⟨rfl,hw9⟩;subst hw9))
        all_goals
         go_wp2_with fail
         simp only [Exit.noGoto]
         exact bodyPost_ret (v:=.int .i64 (-1)) (by simp [results,Tryz.results223,go_sem]) rfl ⟨by rw [hF3.out],by first | exact HC2.out.up.drew | exact HC2.out.up⟩
      | cons t ts2 =>
       cases hts':e.rs with
       | nil =>
        rw [hts',List.length_nil] at e1
        obtain ⟨M,hM⟩:∃ M,e.ls.length=M:=⟨_,rfl⟩
        have z3:(0:Int) < (M:Int):=by rw [← hM,hts];simp
        have z4:(M:Int)≠0:=by omega
        rw [hM] at e0
        have hF3:Hid (F=1):=by
         rw [hts,hts'] at hFx
         rw [hFx,List.map_nil,listC_nil,List.map_cons,listC_cons]
         rfl
        have HCM:Aside (∀ ww,Calls Tryz.prog 265 #[.int .i64 (M:Int),.int .i64 0] ww fun e w'=>e = .returned (.int .i64 1)∧w'=ww):=fun ww=>by
         have:=cmpInt_ok (M:Int) 0 ww
         rw [ordI_gt z3] at this
         exact this
        clear hpop hfe hq1 hq2 hq1c hq2c hq1m hq2m hq1x hq2x hFx hF2
        go_wp2_with fail
        go_region_with ((go_at_call 265;refine Calls.mono (HCM.out _) ?_;rintro e w9 ⟨rfl,hw9⟩;subst hw9))
        all_goals
         go_wp2_with fail
         simp only [Exit.noGoto]
         exact bodyPost_ret (v:=.int .i64 1) (by simp [results,Tryz.results223,go_sem]) rfl ⟨by rw [hF3.out],by first | exact HC2.out.up.drew | exact HC2.out.up⟩
       | cons t' ts2' =>
        obtain ⟨⟨A,au⟩,tc,tn⟩:=t
        obtain ⟨⟨A',au'⟩,tc',tn'⟩:=t'
        rw [hts] at hq1x
        rw [hts'] at hq2x
        rcases hq1x with hq1x | ⟨a1,o1,cc1,rfl,hb1,hx1⟩
        ·simp at hq1x
        rcases hq2x with hq2x | ⟨a2,o2,cc2,rfl,hb2,hx2⟩
        ·simp at hq2x
        have f1:wr.cell? ⟨a1,o1,none⟩=some (.iface A au):=cells_cell hb1 (by simpa [iv] using hx1 0 _ rfl)
        have f2:wr.cell? ⟨a2,o2,none⟩=some (.iface A' au'):=cells_cell hb2 (by simpa [iv] using hx2 0 _ rfl)
        obtain ⟨M,hM⟩:∃ M,e.ls.length=M:=⟨_,rfl⟩
        obtain ⟨M',hM'⟩:∃ M,e.rs.length=M:=⟨_,rfl⟩
        have z3:(0:Int) < (M:Int):=by rw [← hM,hts];simp
        have z4:(0:Int) < (M':Int):=by rw [← hM',hts'];simp
        rw [hM] at e0 hq1c
        rw [hM'] at e1 hq2c
        have hl1:∀ p,(p=some ⟨a1,o1+1,none⟩∨d1 - 1=0)→Sl wr (.slice p (M - 1) (d1 - 1)) (ts2.map (·.1)):=fun p hp=>Sl.tail (x:=(A,au)) hb1 hx1 (by rw [← hM,hts];simp) hq1c hq1m p hp
        have hl2:∀ p,(p=some ⟨a2,o2+1,none⟩∨d2 - 1=0)→Sl wr (.slice p (M' - 1) (d2 - 1)) (ts2'.map (·.1)):=fun p hp=>Sl.tail (x:=(A',au')) hb2 hx2 (by rw [← hM',hts'];simp) hq2c hq2m p hp
        obtain ⟨dd,hdd⟩:=hfe.2.2.1 ((A,au),tc,tn) (by rw [hts];simp)
        obtain ⟨dd',hdd',hdn'⟩:=hfe.2.2.2 ((A',au'),tc',tn') (by rw [hts'];simp)
        have HDD:Aside (EncV wr dd tn (A,au) tc):=hdd
        have HDD':Aside (EncV wr dd' tn' (A',au') tc'∧tn'≤1000000000):=⟨hdd',hdn'⟩
        have HTOOK:Aside (∀ q nl nr,Sl wr nl (ts2.map (·.1))→Sl wr nr (ts2'.map (·.1))→CmpQ w (((wr.drewN q).setCell ⟨g,lo.length * 2,none⟩ nl).setCell ⟨g,lo.length * 2+1,none⟩ nr) (.slice (some ⟨g,0,none⟩) (lo.length+1) cap) (lo ++ [⟨nl,nr,ts2,ts2'⟩])∧KeptV wr (((wr.drewN q).setCell ⟨g,lo.length * 2,none⟩ nl).setCell ⟨g,lo.length * 2+1,none⟩ nr)):=fun q nl nr h5 h6=>HC2.out.took hts hts' h5 h6
        have HL1:Aside (∀ p,p=some ⟨a1,o1+1,none⟩→Sl wr (.slice p (M - 1) (d1 - 1)) (ts2.map (·.1))):=fun p hp=>hl1 p (.inl hp)
        have HL2:Aside (∀ p,p=some ⟨a2,o2+1,none⟩→Sl wr (.slice p (M' - 1) (d2 - 1)) (ts2'.map (·.1))):=fun p hp=>hl2 p (.inl hp)
        have HZ1:Aside (∀ p,d1 - 1=0→Sl wr (.slice p (M - 1) 0) (ts2.map (·.1))):=fun p hp=>by have:=hl1 p (.inr hp);rw [hp] at this;exact this
        have HZ2:Aside (∀ p,d2 - 1=0→Sl wr (.slice p (M' - 1) 0) (ts2'.map (·.1))):=fun p hp=>by have:=hl2 p (.inr hp);rw [hp] at this;exact this
        have HI:Hid ((∀ nl nr,tn+sqN (lo ++ [⟨nl,nr,ts2,ts2'⟩])≤K)∧lo.length+1≤stk.length+1∧∀ nl nr,F=lexC (tc ++ codeL (lo ++ [⟨nl,nr,ts2,ts2'⟩])) (tc' ++ codeR (lo ++ [⟨nl,nr,ts2,ts2'⟩]))):=by
         refine ⟨fun nl nr=>?_,HH.out.2.1,fun nl nr=>?_⟩
         ·have h9:=HH.out.2.2
          simp [sqN,enN,hts] at h9 ⊢
          omega
         ·rw [codeL_push,codeR_push]
          rw [hts,hts',List.map_cons,List.map_cons,listC_cons,listC_cons,List.cons_append,List.cons_append,lexC_cons,List.append_assoc,List.append_assoc] at hFx
          exact hFx
        clear hl1 hl2 hdd hdd' hdn' hfe hpop hb1 hb2 hx1 hx2 hq1 hq2 hFx hF2 HH
        go_wp2_with fail
        go_quiet (fail)
        go_wp2_with fail
        have mixed:Tryz.prog.follows Departure.mixedOrders=true:=by kernel_rfl
        go_big_region_o
        go_wp2_with fail
        ·go_roundg K
         case measure=>omega
         case rel =>
          have hk:=HTOOK.out (nq+1) (.slice (some ⟨a1,o1,none⟩) (M - 1) 0) (.slice (some ⟨a2,o2,none⟩) (M' - 1) 0) (HZ1.out _ (by omega)) (HZ2.out _ (by omega))
          exact ⟨A,A',au,au',dd,tn,dd',tn',tc,tc',lo ++ [(⟨.slice (some ⟨a1,o1,none⟩) (M - 1) 0,.slice (some ⟨a2,o2,none⟩) (M' - 1) 0,ts2,ts2'⟩:Fq)],rfl,rfl,HI.out.1 _ _,by have:=HI.out.2.1;rw [List.length_append,List.length_singleton];omega,HDD.out.keep hk.2,⟨HDD'.out.1.keep hk.2,HDD'.out.2⟩,hk.1,HI.out.2.2 _ _⟩
        ·go_roundg K
         case measure=>omega
         case rel =>
          have hk:=HTOOK.out (nq+1) (.slice (some ⟨a1,o1,none⟩) (M - 1) 0) (.slice (some ⟨a2,o2+1,none⟩) (M' - 1) (d2 - 1)) (HZ1.out _ (by omega)) (HL2.out _ rfl)
          exact ⟨A,A',au,au',dd,tn,dd',tn',tc,tc',lo ++ [(⟨.slice (some ⟨a1,o1,none⟩) (M - 1) 0,.slice (some ⟨a2,o2+1,none⟩) (M' - 1) (d2 - 1),ts2,ts2'⟩:Fq)],rfl,rfl,HI.out.1 _ _,by have:=HI.out.2.1;rw [List.length_append,List.length_singleton];omega,HDD.out.keep hk.2,⟨HDD'.out.1.keep hk.2,HDD'.out.2⟩,hk.1,HI.out.2.2 _ _⟩
        ·go_roundg K
         case measure=>omega
         case rel =>
          have hk:=HTOOK.out (nq+1) (.slice (some ⟨a1,o1+1,none⟩) (M - 1) (d1 - 1)) (.slice (some ⟨a2,o2,none⟩) (M' - 1) 0) (HL1.out _ rfl) (HZ2.out _ (by omega))
          exact ⟨A,A',au,au',dd,tn,dd',tn',tc,tc',lo ++ [(⟨.slice (some ⟨a1,o1+1,none⟩) (M - 1) (d1 - 1),.slice (some ⟨a2,o2,none⟩) (M' - 1) 0,ts2,ts2'⟩:Fq)],rfl,rfl,HI.out.1 _ _,by have:=HI.out.2.1;rw [List.length_append,List.length_singleton];omega,HDD.out.keep hk.2,⟨HDD'.out.1.keep hk.2,HDD'.out.2⟩,hk.1,HI.out.2.2 _ _⟩
        ·go_roundg K
         case measure=>omega
         case rel =>
          have hk:=HTOOK.out (nq+1) (.slice (some ⟨a1,o1+1,none⟩) (M - 1) (d1 - 1)) (.slice (some ⟨a2,o2+1,none⟩) (M' - 1) (d2 - 1)) (HL1.out _ rfl) (HL2.out _ rfl)
          exact ⟨A,A',au,au',dd,tn,dd',tn',tc,tc',lo ++ [(⟨.slice (some ⟨a1,o1+1,none⟩) (M - 1) (d1 - 1),.slice (some ⟨a2,o2+1,none⟩) (M' - 1) (d2 - 1),ts2,ts2'⟩:Fq)],rfl,rfl,HI.out.1 _ _,by have:=HI.out.2.1;rw [List.length_append,List.length_singleton];omega,HDD.out.keep hk.2,⟨HDD'.out.1.keep hk.2,HDD'.out.2⟩,hk.1,HI.out.2.2 _ _⟩
end Go.Proofs.Tryz
