import Derived.Test.YtbhajhlhgbnhbaaGreatDoorFz2
import Derived.Test.YtbhajhlhgbnhbaaGreatDoorOb4
set_option linter.all false
namespace Go.Proofs.Tryz
set_option maxHeartbeats 16000000
open Go.RowKit
set_option maxRecDepth 10000
def PathIs (w:World):List IV→Value→Prop
 | [],v=>∃ b,v = .pointer (some ⟨b,0,none⟩)∧w.heap[b]? = some (.cells #[.pointer none,.nilIface,.int .i64 0] 263 (0,0))
 | s :: rs,v=>∃ (b:Nat) (v':Value),v = .pointer (some ⟨b,0,none⟩)∧w.heap[b]? = some (.cells #[v',iv s,.int .i64 ((rs.length:Int)+1)] 263 (0,0))∧PathIs w rs v'
theorem PathIs.head {w:World}{rs:List IV}{v:Value} (h:PathIs w rs v):∃ b v' x,v = .pointer (some ⟨b,0,none⟩)∧w.heap[b]? = some (.cells #[v',x,.int .i64 (rs.length:Int)] 263 (0,0)):=by
 cases rs with
 | nil=>obtain ⟨b,e,hb⟩:=h;exact ⟨b,_,_,e,hb⟩
 | cons s rs=>obtain ⟨b,v',e,hb,_⟩:=h;exact ⟨b,v',_,e,by simpa using hb⟩
def listC (cs:List (List Int)):List Int:=cs.flatMap (fun c=>1 :: c) ++ [0]
theorem listC_cons (c:List Int) (cs:List (List Int)):listC (c :: cs)=1 :: (c ++ listC cs):=by simp [listC]
theorem listC_nil:listC []=[0]:=rfl
abbrev En:=IV×List Int×Nat
def emE (t:ByteArray×En):El:=(t.1,t.2.1,[])
def LeafC (x:IV) (c:List Int):Prop:=(x=(95,.agg #[])∧c=[0])∨(∃ b,x=(96,.bool b)∧c=[1,if b then 1 else 0])∨(∃ n:Int,x=(98,.int .i64 n)∧c=[2,n])∨∃ t:ByteArray,x=(100,.string t)∧c=3 :: strC t.data.toList
def EncV (w:World):Nat→Nat→IV→List Int→Prop
 | 0,n,x,c=>1≤n∧LeafC x c
 | d+1,n,x,c=>(1≤n∧LeafC x c)∨
   (∃ (r:Value) (ts:List En),x=(86,r)∧w.ownsRow 0 32 1 r ts.length (ts.map fun t=>iv t.1)∧(∀ t∈ts,EncV w d t.2.2 t.1 t.2.1)∧1+(ts.map (·.2.2)).sum≤n∧c=4 :: listC (ts.map (·.2.1)))∨
   (∃ (r:Value) (ts:List (ByteArray×En)),x=(102,r)∧w.ownsRow 0 107 2 r (ts.map emE).length ((ts.map emE).flatMap elC)∧(∀ t∈ts,EncV w d t.2.2.2 t.2.1 t.2.2.1)∧1+(ts.map (·.2.2.2)).sum≤n∧c=5 :: (keysC (ts.map fun t=>t.1.data.toList) ++ listC (ts.map (·.2.2.1))))
theorem EncV.keep {w w':World} (h:KeptV w w'):∀ {d n:Nat}{x:IV}{c:List Int},EncV w d n x c→EncV w' d n x c
 | 0,_,_,_,e=>e
 | d+1,n,x,c,e=>by
  rcases e with e | ⟨r,ts,e1,o1,ht,hn,hc⟩ | ⟨r,ts,e1,o1,ht,hn,hc⟩
  ·exact .inl e
  ·exact .inr (.inl ⟨r,ts,e1,h.rowV o1,fun t htt=>EncV.keep h (ht t htt),hn,hc⟩)
  ·exact .inr (.inr ⟨r,ts,e1,h.rowM o1,fun t htt=>EncV.keep h (ht t htt),hn,hc⟩)
theorem EncV.up {w:World}:∀ {d n:Nat}{x:IV}{c:List Int},EncV w d n x c→EncV w (d+1) n x c
 | 0,_,_,_,e=>.inl e
 | d+1,n,x,c,e=>by
  rcases e with e | ⟨r,ts,e1,o1,ht,hn,hc⟩ | ⟨r,ts,e1,o1,ht,hn,hc⟩
  ·exact .inl e
  ·exact .inr (.inl ⟨r,ts,e1,o1,fun t htt=>EncV.up (ht t htt),hn,hc⟩)
  ·exact .inr (.inr ⟨r,ts,e1,o1,fun t htt=>EncV.up (ht t htt),hn,hc⟩)
theorem EncV.pos {w:World}:∀ {d n:Nat}{x:IV}{c:List Int},EncV w d n x c→1≤n
 | 0,_,_,_,e=>e.1
 | d+1,n,x,c,e=>by
  rcases e with e | ⟨r,ts,e1,o1,ht,hn,hc⟩ | ⟨r,ts,e1,o1,ht,hn,hc⟩
  ·exact e.1
  ·omega
  ·omega
theorem len_le_sum {α:Type} (f:α→Nat):∀ (l:List α),(∀ t∈l,1≤f t)→l.length≤(l.map f).sum
 | [],_=>by simp
 | a :: l,h=>by
  have h1:=h a (by simp)
  have h2:=len_le_sum f l (fun t ht=>h t (by simp [ht]))
  simp
  omega
theorem LeafC.hd {w:World}{x:IV}{c:List Int} (h:LeafC x c):HdV w x c:=by
 rcases h with h | h | h | h
 ·exact .inl h
 ·exact .inr (.inl h)
 ·exact .inr (.inr (.inl h))
 ·exact .inr (.inr (.inr (.inl h)))
theorem LeafC.rank {x:IV}{c:List Int} (h:LeafC x c):rankT x.1 < 4:=by
 rcases h with ⟨rfl,_⟩ | ⟨b,rfl,_⟩ | ⟨n,rfl,_⟩ | ⟨t,rfl,_⟩
 ·show rankT 95 < 4;decide
 ·show rankT 96 < 4;decide
 ·show rankT 98 < 4;decide
 ·show rankT 100 < 4;decide
theorem LeafC.parts {x:IV}{c:List Int} (h:LeafC x c) (w:World):PartsIs w x []:=by
 have hT:x.1≠86∧x.1≠102:=by
  rcases h with ⟨rfl,_⟩ | ⟨b,rfl,_⟩ | ⟨n,rfl,_⟩ | ⟨t,rfl,_⟩
  ·exact ⟨by simp,by simp⟩
  ·exact ⟨by simp,by simp⟩
  ·exact ⟨by simp,by simp⟩
  ·exact ⟨by simp,by simp⟩
 refine (parts_other hT.1 hT.2 x.2 w).mono ?_
 rintro e w' ⟨he,rfl⟩
 exact ⟨_,he,Up.refl _,none,0,rfl,by simp,by omega,.inl rfl⟩
theorem owns_objR {w:World}{r:Value}{L:List El} (h:w.ownsRow 0 107 2 r L.length (L.flatMap elC)):ObjR w r L:=by
 rcases h.2 with ⟨hr,h0⟩ | ⟨g,c,cur,hr,_⟩
 ·have:L=[]:=List.eq_nil_of_length_eq_zero h0
  subst this
  exact ⟨none,0,hr,.inl rfl⟩
 ·rw [hr] at h ⊢
  obtain ⟨_,hM,_⟩:=owns_mem h
  exact ⟨_,c,rfl,.inr ⟨g,_,rfl,hM⟩⟩
theorem objR_parts {w:World}{r:Value}{L:List El} (h:ObjR w r L) (hmax:L.length≤1000000000):PartsIs w (102,r) (L.map (·.2.1)):=by
 obtain ⟨p,c,rfl,h⟩:=h
 rcases h with rfl | ⟨a,C,rfl,hM⟩
 ·exact (parts_objNilUp p c w).mono fun e w' ⟨he,k⟩=>⟨_,he,k,_,0,rfl,by simp,by omega,.inl rfl⟩
 ·refine (parts_objUp hM rfl hmax).mono fun e w' ⟨he,ow,k⟩=>⟨_,he,k,?_⟩
  have:L.length=(L.map (·.2.1)).length:=by simp
  rw [this] at ow ⊢
  refine Sl.of_row (N:=w.heap.size) ?_
  rw [List.map_map]
  exact ow
theorem enc_step {w:World}{d n:Nat}{x:IV}{c:List Int} (h:EncV w d n x c) (hn:n≤1000000000) :
  ∃ (p q:List Int) (ts:List En),(∀ w1,Up w w1→HdV w1 x p)∧c=p ++ q∧((ts=[]∧q=[]∧rankT x.1 < 4)∨(q=listC (ts.map (·.2.1))∧4≤rankT x.1))∧1+(ts.map (·.2.2)).sum≤n∧ts.length≤n∧(∀ t∈ts,EncV w d t.2.2 t.1 t.2.1)∧∀ w1,Up w w1→PartsIs w1 x (ts.map (·.1)):=by
 have leaf:1≤n→LeafC x c→∃ (p q:List Int) (ts:List En),(∀ w1,Up w w1→HdV w1 x p)∧c=p ++ q∧((ts=[]∧q=[]∧rankT x.1 < 4)∨(q=listC (ts.map (·.2.1))∧4≤rankT x.1))∧1+(ts.map (·.2.2)).sum≤n∧ts.length≤n∧(∀ t∈ts,EncV w d t.2.2 t.1 t.2.1)∧∀ w1,Up w w1→PartsIs w1 x (ts.map (·.1)) :=
  fun h1 hl=>⟨c,[],[],fun _ _=>hl.hd,by simp,.inl ⟨rfl,rfl,hl.rank⟩,by simpa using h1,by simp,by simp,fun w1 _=>hl.parts w1⟩
 cases d with
 | zero=>exact leaf h.1 h.2
 | succ d =>
  rcases h with h | ⟨r,ts,rfl,o1,ht,hs,hc⟩ | ⟨r,ts,rfl,o1,ht,hs,hc⟩
  ·exact leaf h.1 h.2
  ·have hl:=len_le_sum (fun t:En=>t.2.2) ts (fun t htt=>(ht t htt).pos)
   refine ⟨[4],_,ts,fun w1 _=>.inr (.inr (.inr (.inr (.inl ⟨r,rfl,rfl⟩)))),hc,.inr ⟨rfl,by show 4≤rankT 86;decide⟩,hs,by omega,fun t htt=>(ht t htt).up,fun w1 k=>?_⟩
   obtain ⟨p1,m1,c1,rfl⟩:=owns_shape o1
   refine (parts_arrUp p1 m1 c1 w1).mono ?_
   rintro e w2 ⟨he,rfl⟩
   refine ⟨_,he,Up.refl _,Sl.of_row (N:=0) ?_⟩
   rw [List.length_map,List.map_map]
   exact (KeptV.of_below k.1).rowV o1
  ·have hl:=len_le_sum (fun t:ByteArray×En=>t.2.2.2) ts (fun t htt=>(ht t htt).pos)
   have hL:(ts.map emE).length≤1000000000:=by rw [List.length_map];omega
   have hsum:((ts.map (·.2)).map (·.2.2)).sum=(ts.map (·.2.2.2)).sum:=by rw [List.map_map];rfl
   have ho:∀ w1,Up w w1→ObjR w1 r (ts.map emE):=fun w1 k=>owns_objR ((KeptV.of_below k.1).rowM o1)
   refine ⟨5 :: keysC (ts.map fun t=>t.1.data.toList),listC (ts.map (·.2.2.1)),ts.map (·.2),fun w1 k=>.inr (.inr (.inr (.inr (.inr ⟨r,ts.map emE,rfl,ho w1 k,hL,?_⟩)))),by rw [hc];rfl,.inr ⟨by rw [List.map_map];rfl,by show 4≤rankT 102;decide⟩,by rw [hsum];exact hs,by rw [List.length_map];omega,fun t htt=>?_,fun w1 k=>?_⟩
   ·rw [List.map_map];rfl
   ·obtain ⟨s,hs',rfl⟩:=List.mem_map.1 htt
    exact (ht s hs').up
   ·have:=objR_parts (ho w1 k) hL
    rw [List.map_map] at this ⊢
    exact this
theorem wbegin_arr {w:World}{B W:Nat}{out:Bys}{fs:List Fm}{ra:Option Addr}{rl rc:Nat} (its:List (IV×Bys)) (hrow:w.ownsRow 0 32 1 (.slice ra rl rc) its.length (its.map itC)) (hrb:∀ g,(Value.slice ra rl rc).ownBlock=some g→g < W) (hvs:∀ x∈its,Vl w (· < W) x.1 x.2) (h:WS w B W out fs) (ho:out.length≤10000000000) (hf:fs.length≤10000000000) :
  Calls Tryz.prog 13 #[.pointer (some ⟨W,0,none⟩),.iface 86 (.slice ra rl rc)] w fun e w'=>e = .returned (.tuple #[])∧BegW B W out fs (arrT (its.map (·.2))) w w':=by
 obtain ⟨i0,hi0,hz0,hz1,hz2⟩:=info_parts (show (Tryz.prog.info? 5).map (fun i=>(i.zero,i.size,i.bytes))=some (some (.int .u8 0),1,1) by kernel_rfl)
 obtain ⟨j0,hj0,hy0,hy1,hy2⟩:=info_parts (show (Tryz.prog.info? 104).map (fun i=>(i.zero,i.size,i.bytes))=some (some (.agg #[.int .u8 0,.slice none 0 0,.slice none 0 0,.int .i64 0]),4,64) by kernel_rfl)
 obtain ⟨hlt,hle,⟨ov,pv,hb,hown,hpv⟩,hfs⟩:=h
 obtain ⟨c0,c1,c2,c3,c4⟩:=two_c0 hb
 obtain ⟨oa,ol,oc,rfl⟩:=owns_shape hown
 obtain ⟨pa,pl,pc,rfl⟩:=owns_shape2 hpv
 have HROW:Aside _:=hrow
 have HVS:Aside _:=hvs
 have HFS:Aside (∀ f∈fs,FOk w W f):=hfs
 have HRB:Aside _:=hrb
 clear hrow hvs hfs hrb
 have m0:=missVNull;have m1:=missVNumber;have m2:=missVString;have m3:=hitVArray;have m4:=missVObject;have m5:=missVBool
 go_enter Tryz.func13,Tryz.ntmps13
 go_wp2_with (first
  | (refine wpList_append_lies _ (by rfl) _ _ _ (by rfl) B 5 i0 _ 1 1 Tryz.underlying50 hi0 hz0 hz1 hz2 rfl (by omega) _ out.length (Lib.byteCells out) (by rfl) (hown.alloc _) ⟨w.heap.size,0,none⟩ 1 1 [.int .u8 91] (by rfl) (by rfl) (World.news_of_block (cs:=#[.int .u8 91]) (t:=5) (fr:=(0,0)) (heap_new w _)) (by simp [Value.oneCell']) (by omega) (by unfold maxLen;omega) (by omega) (by simp;omega) (w.heap.size+1) (by simp) ?_;intro g1 cap1 w1 hown1 hgrow1 hat1 hlt1;have k1:Below B w w1:=((Below.refl B w).alloc hle _).grown hgrow1 (by simp;omega) (fun q hq=>(hown.lt q hq).1);have hok1:Aside (Lib.OthersKept 5 none w w1):=((Lib.OthersKept.refl _ _ w).alloc _).grown hgrow1 (own_kind (hown.alloc _));have hb1:=(k1.block W hlt).trans hb;obtain ⟨d0,d1,d2,d3,d4⟩:=two_c0 hb1;have hp1:=others_row hok1.out hpv (by decide);have hpW:(w1.setCell ⟨W,0,none⟩ (.slice (some ⟨g1,0,none⟩) (out.length+1) cap1)).ownsRow B 104 4 (.slice pa pl pc) fs.length (fs.flatMap Fm.cells):=owns_same hp1 (fun k hk=>Below.heap_setCell _ _ _ _ (by have:=(hp1.lt k hk).1;simp;omega));have hsz1:=k1.size)
  | (refine wpList_append_lies _ (by rfl) _ _ _ (by rfl) B 104 j0 _ 4 64 Tryz.underlying51 hj0 hy0 hy1 hy2 rfl (by omega) _ fs.length (fs.flatMap Fm.cells) (by rfl) (hpW.alloc _) ⟨w1.heap.size,0,none⟩ 1 1 [.int .u8 93,.slice ra rl rc,.slice none 0 0,.int .i64 0] (by rfl) (by rfl) (World.news_of_block (cs:=#[.int .u8 93,.slice ra rl rc,.slice none 0 0,.int .i64 0]) (t:=104) (fr:=(0,0)) (heap_news _ _ (by simp))) (by simp [Value.oneCell']) (by omega) (by unfold maxLen;omega) (by omega) (by simp;omega) (w1.heap.size+1) (by simp) ?_;intro g2 cap2 w2 hown2 hgrow2 hat2 hlt2;have k2:Below B (w1.setCell ⟨W,0,none⟩ (.slice (some ⟨g1,0,none⟩) (out.length+1) cap1)) w2:=((Below.refl B _).alloc (by simp;omega) _).grown hgrow2 (by simp;omega) (fun q hq=>(hpW.lt q hq).1);have hb2:=(k2.block W hlt).trans (two_set0 (u:=.slice (some ⟨g1,0,none⟩) (out.length+1) cap1) hb1);obtain ⟨f0,f1,f2,f3,f4⟩:=two_c0 hb2))
 go_end0
 have hsz2:=k2.size
 simp at hsz2
 have hbW:∀ b,b < W→(w2.setCell ⟨W,1,none⟩ (.slice (some ⟨g2,0,none⟩) (fs.length+1) cap2)).heap[b]? = w.heap[b]?:=fun b hbl=>by
  rw [Below.heap_setCell _ _ _ _ (by simp;omega),k2.block b (by omega),Below.heap_setCell _ _ _ _ (by simp;omega)]
  exact k1.block b (by omega)
 have hf1:Fr (fun k=>k=W∨B≤k) w w2:=by
  have a1:Fr (fun k=>k=W∨B≤k) w w1:=⟨k1.os,k1.tape,k1.output,k1.size,fun k hk hd=>k1.block k (by omega)⟩
  exact (a1.setCell (b:=W) (o:=0) _ (.inl (.inl rfl))).trans (E:=fun k=>k=W∨B≤k) ⟨k2.os,k2.tape,k2.output,k2.size,fun k hk hd=>k2.block k (by omega)⟩ (fun _ _ e=>e)
 have hg12:(w1.setCell ⟨W,0,none⟩ (.slice (some ⟨g1,0,none⟩) (out.length+1) cap1)).ownsRow B 5 1 (.slice (some ⟨g1,0,none⟩) (out.length+1) cap1) (out.length+1) (Lib.byteCells out ++ [.int .u8 91]):=owns_off hown1 hlt
 have hne:∀ k,(Value.slice (some ⟨g1,0,none⟩) (out.length+1) cap1).ownBlock=some k→some k≠(Value.slice pa pl pc).ownBlock:=fun k hk e=>by
  obtain ⟨x1,y1,z1⟩:=own_kind hg12 k hk
  obtain ⟨x2,y2,z2⟩:=own_kind hpW k e.symm
  rw [z1] at z2
  simp at z2
 refine ⟨rfl,⟨⟨out ++ [91],[⟨false,.slice ra rl rc,0,its,[]⟩],⟨hlt,by simp;omega,⟨_,_,two_set1 hb2,?_,?_⟩,fun f hf=>?_⟩,?_,by simp⟩,hf1.setCell _ (.inl (.inl rfl))⟩⟩
 ·rw [List.length_append,byteCells_append]
  exact owns_off (owns_same hg12 (fun k hk=>(hgrow2.block k (by have:=(hg12.lt k hk).2;simp at this ⊢;omega) (hne k hk)).trans ((below_alloc _ _).block k (hg12.lt k hk).2))) hlt
 ·rw [List.length_append,List.flatMap_append]
  refine owns_same (w:=w2) ?_ (fun k hk=>Below.heap_setCell _ _ _ _ (by cases hk;have:=(hown2.lt g2 rfl).1;simp;omega))
  simpa [Fm.cells] using hown2
 ·rcases List.mem_append.1 hf with hf | hf
  ·exact (HFS.out f hf).keep hbW
  ·rw [List.mem_singleton] at hf
   subst hf
   refine ⟨?_,fun g hg=>HRB.out g hg,Nat.zero_le _⟩
   rw [if_neg (by simp)]
   exact ⟨owns_same HROW.out (fun k hk=>hbW k (HRB.out k hk)),fun x hx=>(HVS.out x hx).mono (fun g hg=>⟨hg,hbW g hg⟩)⟩
 ·rw [restAll_app]
  simp [Fm.rest,Fm.texts,arrT,join_rest]
theorem wbegin_obj {w:World}{B W:Nat}{out:Bys}{fs:List Fm}{ra:Option Addr}{rl rc:Nat} (ms:List El) (hrow:w.ownsRow 0 107 2 (.slice ra rl rc) ms.length (ms.flatMap elC)) (hrb:∀ g,(Value.slice ra rl rc).ownBlock=some g→g < W) (hvs:∀ x∈ms,Vl w (· < W) x.2.1 x.2.2) (h:WS w B W out fs) (ho:out.length≤10000000000) (hf:fs.length≤10000000000) :
  Calls Tryz.prog 13 #[.pointer (some ⟨W,0,none⟩),.iface 102 (.slice ra rl rc)] w fun e w'=>e = .returned (.tuple #[])∧BegW B W out fs (objT (ms.map fun x=>(elKey x,x.2.2))) w w':=by
 obtain ⟨i0,hi0,hz0,hz1,hz2⟩:=info_parts (show (Tryz.prog.info? 5).map (fun i=>(i.zero,i.size,i.bytes))=some (some (.int .u8 0),1,1) by kernel_rfl)
 obtain ⟨j0,hj0,hy0,hy1,hy2⟩:=info_parts (show (Tryz.prog.info? 104).map (fun i=>(i.zero,i.size,i.bytes))=some (some (.agg #[.int .u8 0,.slice none 0 0,.slice none 0 0,.int .i64 0]),4,64) by kernel_rfl)
 obtain ⟨hlt,hle,⟨ov,pv,hb,hown,hpv⟩,hfs⟩:=h
 obtain ⟨c0,c1,c2,c3,c4⟩:=two_c0 hb
 obtain ⟨oa,ol,oc,rfl⟩:=owns_shape hown
 obtain ⟨pa,pl,pc,rfl⟩:=owns_shape2 hpv
 have HROW:Aside _:=hrow
 have HVS:Aside _:=hvs
 have HFS:Aside (∀ f∈fs,FOk w W f):=hfs
 have HRB:Aside _:=hrb
 clear hrow hvs hfs hrb
 have m0:=missVNull;have m1:=missVNumber;have m2:=missVString;have m3:=missVArray;have m4:=hitVObject;have m5:=missVBool
 go_enter Tryz.func13,Tryz.ntmps13
 go_wp2_with (first
  | (refine wpList_append_lies _ (by rfl) _ _ _ (by rfl) B 5 i0 _ 1 1 Tryz.underlying50 hi0 hz0 hz1 hz2 rfl (by omega) _ out.length (Lib.byteCells out) (by rfl) (hown.alloc _) ⟨w.heap.size,0,none⟩ 1 1 [.int .u8 123] (by rfl) (by rfl) (World.news_of_block (cs:=#[.int .u8 123]) (t:=5) (fr:=(0,0)) (heap_new w _)) (by simp [Value.oneCell']) (by omega) (by unfold maxLen;omega) (by omega) (by simp;omega) (w.heap.size+1) (by simp) ?_;intro g1 cap1 w1 hown1 hgrow1 hat1 hlt1;have k1:Below B w w1:=((Below.refl B w).alloc hle _).grown hgrow1 (by simp;omega) (fun q hq=>(hown.lt q hq).1);have hok1:Aside (Lib.OthersKept 5 none w w1):=((Lib.OthersKept.refl _ _ w).alloc _).grown hgrow1 (own_kind (hown.alloc _));have hb1:=(k1.block W hlt).trans hb;obtain ⟨d0,d1,d2,d3,d4⟩:=two_c0 hb1;have hp1:=others_row hok1.out hpv (by decide);have hpW:(w1.setCell ⟨W,0,none⟩ (.slice (some ⟨g1,0,none⟩) (out.length+1) cap1)).ownsRow B 104 4 (.slice pa pl pc) fs.length (fs.flatMap Fm.cells):=owns_same hp1 (fun k hk=>Below.heap_setCell _ _ _ _ (by have:=(hp1.lt k hk).1;simp;omega));have hsz1:=k1.size)
  | (refine wpList_append_lies _ (by rfl) _ _ _ (by rfl) B 104 j0 _ 4 64 Tryz.underlying51 hj0 hy0 hy1 hy2 rfl (by omega) _ fs.length (fs.flatMap Fm.cells) (by rfl) (hpW.alloc _) ⟨w1.heap.size,0,none⟩ 1 1 [.int .u8 125,.slice none 0 0,.slice ra rl rc,.int .i64 0] (by rfl) (by rfl) (World.news_of_block (cs:=#[.int .u8 125,.slice none 0 0,.slice ra rl rc,.int .i64 0]) (t:=104) (fr:=(0,0)) (heap_news _ _ (by simp))) (by simp [Value.oneCell']) (by omega) (by unfold maxLen;omega) (by omega) (by simp;omega) (w1.heap.size+1) (by simp) ?_;intro g2 cap2 w2 hown2 hgrow2 hat2 hlt2;have k2:Below B (w1.setCell ⟨W,0,none⟩ (.slice (some ⟨g1,0,none⟩) (out.length+1) cap1)) w2:=((Below.refl B _).alloc (by simp;omega) _).grown hgrow2 (by simp;omega) (fun q hq=>(hpW.lt q hq).1);have hb2:=(k2.block W hlt).trans (two_set0 (u:=.slice (some ⟨g1,0,none⟩) (out.length+1) cap1) hb1);obtain ⟨f0,f1,f2,f3,f4⟩:=two_c0 hb2))
 go_end0
 have hsz2:=k2.size
 simp at hsz2
 have hbW:∀ b,b < W→(w2.setCell ⟨W,1,none⟩ (.slice (some ⟨g2,0,none⟩) (fs.length+1) cap2)).heap[b]? = w.heap[b]?:=fun b hbl=>by
  rw [Below.heap_setCell _ _ _ _ (by simp;omega),k2.block b (by omega),Below.heap_setCell _ _ _ _ (by simp;omega)]
  exact k1.block b (by omega)
 have hf1:Fr (fun k=>k=W∨B≤k) w w2:=by
  have a1:Fr (fun k=>k=W∨B≤k) w w1:=⟨k1.os,k1.tape,k1.output,k1.size,fun k hk hd=>k1.block k (by omega)⟩
  exact (a1.setCell (b:=W) (o:=0) _ (.inl (.inl rfl))).trans (E:=fun k=>k=W∨B≤k) ⟨k2.os,k2.tape,k2.output,k2.size,fun k hk hd=>k2.block k (by omega)⟩ (fun _ _ e=>e)
 have hg12:(w1.setCell ⟨W,0,none⟩ (.slice (some ⟨g1,0,none⟩) (out.length+1) cap1)).ownsRow B 5 1 (.slice (some ⟨g1,0,none⟩) (out.length+1) cap1) (out.length+1) (Lib.byteCells out ++ [.int .u8 123]):=owns_off hown1 hlt
 have hne:∀ k,(Value.slice (some ⟨g1,0,none⟩) (out.length+1) cap1).ownBlock=some k→some k≠(Value.slice pa pl pc).ownBlock:=fun k hk e=>by
  obtain ⟨x1,y1,z1⟩:=own_kind hg12 k hk
  obtain ⟨x2,y2,z2⟩:=own_kind hpW k e.symm
  rw [z1] at z2
  simp at z2
 refine ⟨rfl,⟨⟨out ++ [123],[⟨true,.slice ra rl rc,0,[],ms⟩],⟨hlt,by simp;omega,⟨_,_,two_set1 hb2,?_,?_⟩,fun f hf=>?_⟩,?_,by simp⟩,hf1.setCell _ (.inl (.inl rfl))⟩⟩
 ·rw [List.length_append,byteCells_append]
  exact owns_off (owns_same hg12 (fun k hk=>(hgrow2.block k (by have:=(hg12.lt k hk).2;simp at this ⊢;omega) (hne k hk)).trans ((below_alloc _ _).block k (hg12.lt k hk).2))) hlt
 ·rw [List.length_append,List.flatMap_append]
  refine owns_same (w:=w2) ?_ (fun k hk=>Below.heap_setCell _ _ _ _ (by cases hk;have:=(hown2.lt g2 rfl).1;simp;omega))
  simpa [Fm.cells] using hown2
 ·rcases List.mem_append.1 hf with hf | hf
  ·exact (HFS.out f hf).keep hbW
  ·rw [List.mem_singleton] at hf
   subst hf
   refine ⟨?_,fun g hg=>HRB.out g hg,Nat.zero_le _⟩
   rw [if_pos rfl]
   exact ⟨owns_same HROW.out (fun k hk=>hbW k (HRB.out k hk)),fun x hx=>(HVS.out x hx).mono (fun g hg=>⟨hg,hbW g hg⟩)⟩
 ·rw [restAll_app]
  simp [Fm.rest,Fm.texts,objT,join_rest,elP];rfl
end Go.Proofs.Tryz
