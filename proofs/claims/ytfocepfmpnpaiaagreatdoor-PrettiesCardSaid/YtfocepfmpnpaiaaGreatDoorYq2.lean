import Derived.Test.YtfocepfmpnpaiaaGreatDoorYs3
import Derived.Deep.LoopGhost
import Derived.Deep.AppendLies
import Derived.OwnWalk
set_option linter.all false
namespace Go.Proofs.Tryz
set_option maxHeartbeats 16000000
open Go.RowKit
set_option maxRecDepth 10000
section
variable {w w' w1 : World} {wb : Nat} {s : Bs × Bool}
theorem isLetter_b (c:UInt8) (w:World) {r:Bool} (h:isLetterB c=r):Calls Tryz.prog 61 #[.int .u8 c.toNat] w fun e w'=>e = .returned (.bool r)∧w'=w:=h ▸ isLetter_any c w
theorem isDigit_b (c:UInt8) (w:World) {r:Bool} (h:isDigitB c=r):Calls Tryz.prog 64 #[.int .u8 c.toNat] w fun e w'=>e = .returned (.bool r)∧w'=w:=h ▸ isDigit_any c w
theorem wrote1 {ov v':Value}{d:Bool}{out more:Bs} (hb:w.heap[wb]? = some (.cells #[ov,.bool d] 67 (0,0))) (k1:Below (wb+1) w w1) (o1:Lib.OthersKept 5 none w w1) (hown1:w1.ownsRow (wb+1) 5 1 v' (out.length+more.length) (Lib.byteCells out ++ Lib.byteCells more)) :
  (w1.setCell ⟨wb,0,none⟩ v').heap[wb]? = some (.cells #[v',.bool d] 67 (0,0))∧(w1.setCell ⟨wb,0,none⟩ v').ownsRow (wb+1) 5 1 v' (out ++ more).length (Lib.byteCells (out ++ more))∧KpW wb w (w1.setCell ⟨wb,0,none⟩ v'):=by
 have hb1:=(k1.block wb (by omega)).trans hb
 refine ⟨wset hb1,?_,?_,?_⟩
 ·rw [List.length_append,byteCells_append]
  exact owns_sameT hown1 (fun g e=>Below.heap_setCell _ _ _ _ (by have:=(hown1.lt g e).1;simp;omega))
 ·refine ⟨k1.os,k1.tape,k1.output,by simpa using k1.size,fun k hk=>?_⟩
  rw [Below.heap_setCell _ _ _ _ (by simp;omega)]
  exact k1.block k (by omega)
 ·intro k o hk hn ht
  rw [Below.heap_setCell _ _ _ _ (by intro e;exact hn (by rw [e]))]
  exact o1 k o hk (by simp) ht
theorem wroteB {ov:Value}{d d':Bool}{out:Bs} (hb:w.heap[wb]? = some (.cells #[ov,.bool d] 67 (0,0))) (hown:w.ownsRow (wb+1) 5 1 ov out.length (Lib.byteCells out)) :
  (w.setCell ⟨wb,1,none⟩ (.bool d')).heap[wb]? = some (.cells #[ov,.bool d'] 67 (0,0))∧(w.setCell ⟨wb,1,none⟩ (.bool d')).ownsRow (wb+1) 5 1 ov out.length (Lib.byteCells out)∧KpW wb w (w.setCell ⟨wb,1,none⟩ (.bool d')):=by
 refine ⟨wset hb,?_,?_,?_⟩
 ·exact owns_sameT hown (fun g e=>Below.heap_setCell _ _ _ _ (by have:=(hown.lt g e).1;simp;omega))
 ·exact ⟨rfl,rfl,rfl,by simp,fun k hk=>Below.heap_setCell _ _ _ _ (by simp;omega)⟩
 ·intro k o hk hn ht
  rw [Below.heap_setCell _ _ _ _ (by intro e;exact hn (by rw [e]))]
  exact hk
def NoB (w:World) (g:Nat):Prop:=∃ o,w.heap[g]? = some o∧∀ c fz,o≠.cells c 5 fz
theorem KpW.at (h:KpW wb w w') {g:Nat} (hn:NoB w g) (hg:g≠wb):w'.heap[g]? = w.heap[g]?:=by
 obtain ⟨o,h1,h2⟩:=hn
 rw [h1]
 exact h.oth g o h1 (by simp [hg]) h2
theorem PlW.mk' (h:PlW w wb s) {s':Bs×Bool}{ov:Value} (k:KpW wb w w') (hb:w'.heap[wb]? = some (.cells #[ov,.bool s'.2] 67 (0,0))) (ho:w'.ownsRow (wb+1) 5 1 ov s'.1.length (Lib.byteCells s'.1)):PlW w' wb s' :=
 ⟨⟨ov,hb,ho⟩,fun w2 h3=>h.tab w2 (k.low.trans h3)⟩
def PutP (wb:Nat) (s:Bs×Bool) (l:List Bs) (w:World) (e:Ending) (w':World):Prop:=e = .returned (.tuple #[])∧PlW w' wb (putL s l)∧KpW wb w w'
theorem put_ok (h:PlW w wb s) {xs:List ByteArray}{g cap n:Nat} (hn:xs.length=n) (hn2:n≤1000) (hg:∀ i x,xs[i]? = some x→w.cell? ⟨g,i,none⟩=some (.string x)) (hgb:NoB w g) (hgw:g≠wb) (hx:∀ x∈xs,x.size≠0) (hbd:s.1.length+lenL (xs.map fun x=>x.data.toList)≤10000000000) :
  Calls Tryz.prog 41 #[.pointer (some ⟨wb,0,none⟩),.slice (some ⟨g,0,none⟩) n cap] w (PutP wb s (xs.map fun x=>x.data.toList) w):=by
 obtain ⟨i0,hi0,hz0,hz1,hz2⟩:=info_parts (show (Tryz.prog.info? 5).map (fun i=>(i.zero,i.size,i.bytes))=some (some (.int .u8 0),1,1) by kernel_rfl)
 have HN:Hid _:=hn
 have H:Aside (PlW w wb s):=h
 have HG:Aside (∀ i x,xs[i]? = some x→w.cell? ⟨g,i,none⟩=some (.string x)):=hg
 have HX:Aside (∀ x∈xs,x.size≠0):=hx
 have HB:Aside (s.1.length+lenL (xs.map fun x=>x.data.toList)≤10000000000):=hbd
 clear hn h hg hx hbd
 go_enter Tryz.func41,Tryz.ntmps41
 go_wp2_with fail
 go_loopg [9] (n+1) (fun j t wr=>∃ i:Nat,i+j=n+1∧i≤n∧t = .int .i64 i∧KpW wb w wr∧PlW wr wb (putL s ((xs.take i).map fun x=>x.data.toList)))
 case atStart=>exact ⟨0,by omega,by omega,rfl,KpW.refl _ _,H.out⟩
 case round =>
  obtain ⟨i,hij,hin,rfl,hk,hp⟩:=hrel
  by_cases hi:i < n
  ·have hil:i < xs.length:=by have:=HN.out;omega
   obtain ⟨x,hxi⟩:∃ x,xs[i]? = some x:=⟨_,List.getElem?_eq_getElem hil⟩
   have hmem:x∈xs:=List.mem_of_getElem? hxi
   have cx:wr.cell? ⟨g,i,none⟩=some (.string x):=(World.cell?_of_block (w:=w) (hk.at hgb hgw)).trans (HG.out i x hxi)
   have hx0:0 < x.size:=by have:=HX.out x hmem;omega
   obtain ⟨S,hS⟩:∃ S,putL s ((xs.take i).map fun x=>x.data.toList)=S:=⟨_,rfl⟩
   have hnext:putL s ((xs.take (i+1)).map fun x=>x.data.toList)=putT S x.data.toList:=by
    rw [List.take_add_one,hxi,List.map_append,putL_app,hS]
    rfl
   have hlen:S.1.length+(x.size+1)≤10000000000:=by
    have h1:=HB.out
    have h2:=putL_len ((xs.take i).map fun x=>x.data.toList) s
    have e:xs=xs.take i ++ x :: xs.drop (i+1):=by
     rw [List.getElem?_eq_getElem hil] at hxi
     cases hxi
     simp
    rw [e,List.map_append,lenL_app,List.map_cons,lenL_cons,bsize] at h1
    rw [hS] at h2
    omega
   rw [hS] at hp
   clear hS hmem hxi
   obtain ⟨c,xs',hc⟩:∃ c xs',x.data.toList=c :: xs':=by
    match hh:x.data.toList with
    | []=>have:=bsize x;rw [hh] at this;simp at this;omega
    | c :: l=>exact ⟨c,l,rfl⟩
   have hcx:x[0]'hx0=c:=by
    have:=at_list x 0 hx0
    rw [hc] at this
    simpa using this.symm
   have hwl:wb+1≤wr.heap.size:=hp.lt
   have hnext:Aside (putL s ((xs.take (i+1)).map fun x=>x.data.toList)=putT S x.data.toList):=hnext
   have Hp:Aside (PlW wr wb S):=hp
   have hi':(i:Int) < (n:Int):=by omega
   have hi0':(0:Int)≤(i:Int):=by omega
   have hx0':(0:Int) < (x.size:Int):=by omega
   obtain ⟨out,d⟩:=S
   obtain ⟨ov,hb,hown⟩:=hp.has
   have hb:wr.heap[wb]? = some (.cells #[ov,.bool d] 67 (0,0)):=hb
   have hown:wr.ownsRow (wb+1) 5 1 ov out.length (Lib.byteCells out):=hown
   have hlen:out.length+(x.size+1)≤10000000000:=hlen
   obtain ⟨c0,c1,c2,c3,c4⟩:=wtwo hb
   obtain ⟨oa,ol,oc,rfl⟩:=owns_shape hown
   clear hp
   have hc:Hid (x.data.toList=c :: xs'):=hc
   have hcls:(isLetterB c=true)∨(isLetterB c=false∧isDigitB c=true)∨(isLetterB c=false∧isDigitB c=false∧c=36)∨(isLetterB c=false∧isDigitB c=false∧c≠36):=by
    cases isLetterB c
    ·cases isDigitB c
     ·by_cases h:c=36
      ·exact .inr (.inr (.inl ⟨rfl,rfl,h⟩))
      ·exact .inr (.inr (.inr ⟨rfl,rfl,h⟩))
     ·exact .inr (.inl ⟨rfl,rfl⟩)
    ·exact .inl rfl
   have hW:∀ b:Bool,wordT (c :: xs')=b→Aside (wordT x.data.toList=b):=fun b e=>by
    show wordT _=b
    rw [hc.out]
    exact e
   rcases hcls with hL | ⟨hL,hD⟩ | ⟨hL,hD,hE⟩ | ⟨hL,hD,hE⟩
   ·have hWT:=hW true (by simp [wordT,hL])
    cases d with
    | true =>
     go_wp2_with fail
     refine Calls.mono (isLetter_b c _ hL) ?_
     rintro e w1 ⟨rfl,h1⟩
     subst w1
     go_wp2_with (first
      | (refine wpList_append_lies _ (by rfl) _ _ _ (by rfl) (wb+1) 5 i0 _ 1 1 Tryz.underlying65 hi0 hz0 hz1 hz2 rfl (by omega) _ out.length (Lib.byteCells out) (by rfl) (hown.alloc _) ⟨wr.heap.size,0,none⟩ 1 1 [.int .u8 32] (by rfl) (by rfl) (World.news_of_block (cs:=#[.int .u8 32]) (t:=5) (fr:=(0,0)) (heap_new wr _)) (by simp [Value.oneCell']) (by omega) (by unfold maxLen;omega) (by omega) (by simp;omega) (wr.heap.size+1) (by simp) ?_;intro g4 cap4 w4 hown4 hgrow4 hat4 hlt4;have k4:Below (wb+1) wr w4:=((Below.refl (wb+1) wr).alloc hwl _).grown hgrow4 (by simp;omega) (fun q hq=>(hown.lt q hq).1);have o4:Lib.OthersKept 5 none wr w4:=((Lib.OthersKept.refl _ _ wr).alloc _).grown hgrow4 (wown_kind (hown.alloc _));obtain ⟨d0,d1,d2,d3,d4⟩:=wtwo ((k4.block wb (by omega)).trans hb);have H5:Aside ((w4.setCell ⟨wb,0,none⟩ (.slice (some ⟨g4,0,none⟩) (out.length+1) cap4)).heap[wb]? = some (.cells #[.slice (some ⟨g4,0,none⟩) (out.length+1) cap4,.bool true] 67 (0,0))∧(w4.setCell ⟨wb,0,none⟩ (.slice (some ⟨g4,0,none⟩) (out.length+1) cap4)).ownsRow (wb+1) 5 1 (.slice (some ⟨g4,0,none⟩) (out.length+1) cap4) (out ++ [32]).length (Lib.byteCells (out ++ [32]))∧KpW wb wr (w4.setCell ⟨wb,0,none⟩ (.slice (some ⟨g4,0,none⟩) (out.length+1) cap4))):=wrote1 (more:=[32]) hb k4 o4 (by simpa [Lib.byteCells] using hown4))
      | (refine Lib.wpList_append_own_string _ (by rfl) _ _ 65 9 (by rfl) (wb+1) 5 i0 Tryz.underlying65 Tryz.underlying9 hi0 hz0 hz1 hz2 _ (out ++ [32]).length (Lib.byteCells (out ++ [32])) (by rfl) H5.out.2.1 x (by rfl) (by unfold maxLen;simp;omega) (by simp;omega) (by first | exact hwl | (simp;have:=k4.size;omega)) ?_;intro v' w6 hown6 hgrow6 _;obtain ⟨a',l',c',rfl⟩:=owns_shape hown6;have k6:Below (wb+1) (w4.setCell ⟨wb,0,none⟩ (.slice (some ⟨g4,0,none⟩) (out.length+1) cap4)) w6:=(Below.refl (wb+1) _).grown hgrow6 (by first | exact hwl | (simp;have:=k4.size;omega)) (fun q hq=>(H5.out.2.1.lt q hq).1);obtain ⟨y0,y1,y2,y3,y4⟩:=wtwo ((k6.block wb (by omega)).trans H5.out.1)))
     have o6:Lib.OthersKept 5 none (w4.setCell ⟨wb,0,none⟩ (.slice (some ⟨g4,0,none⟩) (out.length+1) cap4)) w6:=(Lib.OthersKept.refl _ _ _).grown hgrow6 (wown_kind H5.out.2.1)
     obtain ⟨f1,f2,f3⟩:=wrote1 (out:=(out ++ [32])) (more:=x.data.toList) H5.out.1 k6 o6 (by exact hown6)
     obtain ⟨f4,f5,f6⟩:=wroteB (d':=true) f1 f2
     go_roundg (n+1 - (i+1))
     case measure=>omega
     case rel =>
      refine ⟨i+1,by omega,by omega,by go_num,((hk.trans H5.out.2.2).trans f3).trans f6,?_⟩
      rw [hnext.out]
      refine Hp.out.mk' ((H5.out.2.2.trans f3).trans f6) (ov:=.slice a' l' c') ?_ ?_
      ·unfold putT
       rw [hWT.out]
       exact f4
      ·unfold putT
       rw [hWT.out]
       simpa using f5
    | false =>
     go_wp2_with fail
     refine Calls.mono (isLetter_b c _ hL) ?_
     rintro e w1 ⟨rfl,h1⟩
     subst w1
     go_wp2_with (first
      | (refine Lib.wpList_append_own_string _ (by rfl) _ _ 65 9 (by rfl) (wb+1) 5 i0 Tryz.underlying65 Tryz.underlying9 hi0 hz0 hz1 hz2 _ out.length (Lib.byteCells out) (by rfl) hown x (by rfl) (by unfold maxLen;omega) (by omega) (by first | exact hwl | (simp;have:=k4.size;omega)) ?_;intro v' w6 hown6 hgrow6 _;obtain ⟨a',l',c',rfl⟩:=owns_shape hown6;have k6:Below (wb+1) wr w6:=(Below.refl (wb+1) _).grown hgrow6 (by first | exact hwl | (simp;have:=k4.size;omega)) (fun q hq=>(hown.lt q hq).1);obtain ⟨y0,y1,y2,y3,y4⟩:=wtwo ((k6.block wb (by omega)).trans hb)))
     have o6:Lib.OthersKept 5 none wr w6:=(Lib.OthersKept.refl _ _ _).grown hgrow6 (wown_kind hown)
     obtain ⟨f1,f2,f3⟩:=wrote1 (out:=out) (more:=x.data.toList) hb k6 o6 (by exact hown6)
     obtain ⟨f4,f5,f6⟩:=wroteB (d':=true) f1 f2
     go_roundg (n+1 - (i+1))
     case measure=>omega
     case rel =>
      refine ⟨i+1,by omega,by omega,by go_num,(hk.trans f3).trans f6,?_⟩
      rw [hnext.out]
      refine Hp.out.mk' (f3.trans f6) (ov:=.slice a' l' c') ?_ ?_
      ·unfold putT
       rw [hWT.out]
       exact f4
      ·unfold putT
       rw [hWT.out]
       simpa using f5
   ·have hWT:=hW true (by simp [wordT,hL,hD])
    cases d with
    | true =>
     go_wp2_with fail
     refine Calls.mono (isLetter_b c _ hL) ?_
     rintro e w1 ⟨rfl,h1⟩
     subst w1
     go_wp2_with fail
     refine Calls.mono (isDigit_b c _ hD) ?_
     rintro e w1 ⟨rfl,h1⟩
     subst w1
     go_wp2_with (first
      | (refine wpList_append_lies _ (by rfl) _ _ _ (by rfl) (wb+1) 5 i0 _ 1 1 Tryz.underlying65 hi0 hz0 hz1 hz2 rfl (by omega) _ out.length (Lib.byteCells out) (by rfl) (hown.alloc _) ⟨wr.heap.size,0,none⟩ 1 1 [.int .u8 32] (by rfl) (by rfl) (World.news_of_block (cs:=#[.int .u8 32]) (t:=5) (fr:=(0,0)) (heap_new wr _)) (by simp [Value.oneCell']) (by omega) (by unfold maxLen;omega) (by omega) (by simp;omega) (wr.heap.size+1) (by simp) ?_;intro g4 cap4 w4 hown4 hgrow4 hat4 hlt4;have k4:Below (wb+1) wr w4:=((Below.refl (wb+1) wr).alloc hwl _).grown hgrow4 (by simp;omega) (fun q hq=>(hown.lt q hq).1);have o4:Lib.OthersKept 5 none wr w4:=((Lib.OthersKept.refl _ _ wr).alloc _).grown hgrow4 (wown_kind (hown.alloc _));obtain ⟨d0,d1,d2,d3,d4⟩:=wtwo ((k4.block wb (by omega)).trans hb);have H5:Aside ((w4.setCell ⟨wb,0,none⟩ (.slice (some ⟨g4,0,none⟩) (out.length+1) cap4)).heap[wb]? = some (.cells #[.slice (some ⟨g4,0,none⟩) (out.length+1) cap4,.bool true] 67 (0,0))∧(w4.setCell ⟨wb,0,none⟩ (.slice (some ⟨g4,0,none⟩) (out.length+1) cap4)).ownsRow (wb+1) 5 1 (.slice (some ⟨g4,0,none⟩) (out.length+1) cap4) (out ++ [32]).length (Lib.byteCells (out ++ [32]))∧KpW wb wr (w4.setCell ⟨wb,0,none⟩ (.slice (some ⟨g4,0,none⟩) (out.length+1) cap4))):=wrote1 (more:=[32]) hb k4 o4 (by simpa [Lib.byteCells] using hown4))
      | (refine Lib.wpList_append_own_string _ (by rfl) _ _ 65 9 (by rfl) (wb+1) 5 i0 Tryz.underlying65 Tryz.underlying9 hi0 hz0 hz1 hz2 _ (out ++ [32]).length (Lib.byteCells (out ++ [32])) (by rfl) H5.out.2.1 x (by rfl) (by unfold maxLen;simp;omega) (by simp;omega) (by first | exact hwl | (simp;have:=k4.size;omega)) ?_;intro v' w6 hown6 hgrow6 _;obtain ⟨a',l',c',rfl⟩:=owns_shape hown6;have k6:Below (wb+1) (w4.setCell ⟨wb,0,none⟩ (.slice (some ⟨g4,0,none⟩) (out.length+1) cap4)) w6:=(Below.refl (wb+1) _).grown hgrow6 (by first | exact hwl | (simp;have:=k4.size;omega)) (fun q hq=>(H5.out.2.1.lt q hq).1);obtain ⟨y0,y1,y2,y3,y4⟩:=wtwo ((k6.block wb (by omega)).trans H5.out.1)))
     have o6:Lib.OthersKept 5 none (w4.setCell ⟨wb,0,none⟩ (.slice (some ⟨g4,0,none⟩) (out.length+1) cap4)) w6:=(Lib.OthersKept.refl _ _ _).grown hgrow6 (wown_kind H5.out.2.1)
     obtain ⟨f1,f2,f3⟩:=wrote1 (out:=(out ++ [32])) (more:=x.data.toList) H5.out.1 k6 o6 (by exact hown6)
     obtain ⟨f4,f5,f6⟩:=wroteB (d':=true) f1 f2
     go_roundg (n+1 - (i+1))
     case measure=>omega
     case rel =>
      refine ⟨i+1,by omega,by omega,by go_num,((hk.trans H5.out.2.2).trans f3).trans f6,?_⟩
      rw [hnext.out]
      refine Hp.out.mk' ((H5.out.2.2.trans f3).trans f6) (ov:=.slice a' l' c') ?_ ?_
      ·unfold putT
       rw [hWT.out]
       exact f4
      ·unfold putT
       rw [hWT.out]
       simpa using f5
    | false =>
     go_wp2_with fail
     refine Calls.mono (isLetter_b c _ hL) ?_
     rintro e w1 ⟨rfl,h1⟩
     subst w1
     go_wp2_with fail
     refine Calls.mono (isDigit_b c _ hD) ?_
     rintro e w1 ⟨rfl,h1⟩
     subst w1
     go_wp2_with (first
      | (refine Lib.wpList_append_own_string _ (by rfl) _ _ 65 9 (by rfl) (wb+1) 5 i0 Tryz.underlying65 Tryz.underlying9 hi0 hz0 hz1 hz2 _ out.length (Lib.byteCells out) (by rfl) hown x (by rfl) (by unfold maxLen;omega) (by omega) (by first | exact hwl | (simp;have:=k4.size;omega)) ?_;intro v' w6 hown6 hgrow6 _;obtain ⟨a',l',c',rfl⟩:=owns_shape hown6;have k6:Below (wb+1) wr w6:=(Below.refl (wb+1) _).grown hgrow6 (by first | exact hwl | (simp;have:=k4.size;omega)) (fun q hq=>(hown.lt q hq).1);obtain ⟨y0,y1,y2,y3,y4⟩:=wtwo ((k6.block wb (by omega)).trans hb)))
     have o6:Lib.OthersKept 5 none wr w6:=(Lib.OthersKept.refl _ _ _).grown hgrow6 (wown_kind hown)
     obtain ⟨f1,f2,f3⟩:=wrote1 (out:=out) (more:=x.data.toList) hb k6 o6 (by exact hown6)
     obtain ⟨f4,f5,f6⟩:=wroteB (d':=true) f1 f2
     go_roundg (n+1 - (i+1))
     case measure=>omega
     case rel =>
      refine ⟨i+1,by omega,by omega,by go_num,(hk.trans f3).trans f6,?_⟩
      rw [hnext.out]
      refine Hp.out.mk' (f3.trans f6) (ov:=.slice a' l' c') ?_ ?_
      ·unfold putT
       rw [hWT.out]
       exact f4
      ·unfold putT
       rw [hWT.out]
       simpa using f5
   ·have hWT:=hW true (by simp [wordT,hE])
    have hE':Hid ((((c.toNat:Nat):Int) == 36)=true):=by show _=_;rw [hE];rfl
    clear hE
    cases d with
    | true =>
     go_wp2_with fail
     refine Calls.mono (isLetter_b c _ hL) ?_
     rintro e w1 ⟨rfl,h1⟩
     subst w1
     go_wp2_with fail
     refine Calls.mono (isDigit_b c _ hD) ?_
     rintro e w1 ⟨rfl,h1⟩
     subst w1
     have hE2:=hE'.out
     go_wp2_with (first
      | (refine wpList_append_lies _ (by rfl) _ _ _ (by rfl) (wb+1) 5 i0 _ 1 1 Tryz.underlying65 hi0 hz0 hz1 hz2 rfl (by omega) _ out.length (Lib.byteCells out) (by rfl) (hown.alloc _) ⟨wr.heap.size,0,none⟩ 1 1 [.int .u8 32] (by rfl) (by rfl) (World.news_of_block (cs:=#[.int .u8 32]) (t:=5) (fr:=(0,0)) (heap_new wr _)) (by simp [Value.oneCell']) (by omega) (by unfold maxLen;omega) (by omega) (by simp;omega) (wr.heap.size+1) (by simp) ?_;intro g4 cap4 w4 hown4 hgrow4 hat4 hlt4;have k4:Below (wb+1) wr w4:=((Below.refl (wb+1) wr).alloc hwl _).grown hgrow4 (by simp;omega) (fun q hq=>(hown.lt q hq).1);have o4:Lib.OthersKept 5 none wr w4:=((Lib.OthersKept.refl _ _ wr).alloc _).grown hgrow4 (wown_kind (hown.alloc _));obtain ⟨d0,d1,d2,d3,d4⟩:=wtwo ((k4.block wb (by omega)).trans hb);have H5:Aside ((w4.setCell ⟨wb,0,none⟩ (.slice (some ⟨g4,0,none⟩) (out.length+1) cap4)).heap[wb]? = some (.cells #[.slice (some ⟨g4,0,none⟩) (out.length+1) cap4,.bool true] 67 (0,0))∧(w4.setCell ⟨wb,0,none⟩ (.slice (some ⟨g4,0,none⟩) (out.length+1) cap4)).ownsRow (wb+1) 5 1 (.slice (some ⟨g4,0,none⟩) (out.length+1) cap4) (out ++ [32]).length (Lib.byteCells (out ++ [32]))∧KpW wb wr (w4.setCell ⟨wb,0,none⟩ (.slice (some ⟨g4,0,none⟩) (out.length+1) cap4))):=wrote1 (more:=[32]) hb k4 o4 (by simpa [Lib.byteCells] using hown4))
      | (refine Lib.wpList_append_own_string _ (by rfl) _ _ 65 9 (by rfl) (wb+1) 5 i0 Tryz.underlying65 Tryz.underlying9 hi0 hz0 hz1 hz2 _ (out ++ [32]).length (Lib.byteCells (out ++ [32])) (by rfl) H5.out.2.1 x (by rfl) (by unfold maxLen;simp;omega) (by simp;omega) (by first | exact hwl | (simp;have:=k4.size;omega)) ?_;intro v' w6 hown6 hgrow6 _;obtain ⟨a',l',c',rfl⟩:=owns_shape hown6;have k6:Below (wb+1) (w4.setCell ⟨wb,0,none⟩ (.slice (some ⟨g4,0,none⟩) (out.length+1) cap4)) w6:=(Below.refl (wb+1) _).grown hgrow6 (by first | exact hwl | (simp;have:=k4.size;omega)) (fun q hq=>(H5.out.2.1.lt q hq).1);obtain ⟨y0,y1,y2,y3,y4⟩:=wtwo ((k6.block wb (by omega)).trans H5.out.1)))
     have o6:Lib.OthersKept 5 none (w4.setCell ⟨wb,0,none⟩ (.slice (some ⟨g4,0,none⟩) (out.length+1) cap4)) w6:=(Lib.OthersKept.refl _ _ _).grown hgrow6 (wown_kind H5.out.2.1)
     obtain ⟨f1,f2,f3⟩:=wrote1 (out:=(out ++ [32])) (more:=x.data.toList) H5.out.1 k6 o6 (by exact hown6)
     obtain ⟨f4,f5,f6⟩:=wroteB (d':=true) f1 f2
     go_roundg (n+1 - (i+1))
     case measure=>omega
     case rel =>
      refine ⟨i+1,by omega,by omega,by go_num,((hk.trans H5.out.2.2).trans f3).trans f6,?_⟩
      rw [hnext.out]
      refine Hp.out.mk' ((H5.out.2.2.trans f3).trans f6) (ov:=.slice a' l' c') ?_ ?_
      ·unfold putT
       rw [hWT.out]
       exact f4
      ·unfold putT
       rw [hWT.out]
       simpa using f5
    | false =>
     go_wp2_with fail
     refine Calls.mono (isLetter_b c _ hL) ?_
     rintro e w1 ⟨rfl,h1⟩
     subst w1
     go_wp2_with fail
     refine Calls.mono (isDigit_b c _ hD) ?_
     rintro e w1 ⟨rfl,h1⟩
     subst w1
     have hE2:=hE'.out
     go_wp2_with (first
      | (refine Lib.wpList_append_own_string _ (by rfl) _ _ 65 9 (by rfl) (wb+1) 5 i0 Tryz.underlying65 Tryz.underlying9 hi0 hz0 hz1 hz2 _ out.length (Lib.byteCells out) (by rfl) hown x (by rfl) (by unfold maxLen;omega) (by omega) (by first | exact hwl | (simp;have:=k4.size;omega)) ?_;intro v' w6 hown6 hgrow6 _;obtain ⟨a',l',c',rfl⟩:=owns_shape hown6;have k6:Below (wb+1) wr w6:=(Below.refl (wb+1) _).grown hgrow6 (by first | exact hwl | (simp;have:=k4.size;omega)) (fun q hq=>(hown.lt q hq).1);obtain ⟨y0,y1,y2,y3,y4⟩:=wtwo ((k6.block wb (by omega)).trans hb)))
     have o6:Lib.OthersKept 5 none wr w6:=(Lib.OthersKept.refl _ _ _).grown hgrow6 (wown_kind hown)
     obtain ⟨f1,f2,f3⟩:=wrote1 (out:=out) (more:=x.data.toList) hb k6 o6 (by exact hown6)
     obtain ⟨f4,f5,f6⟩:=wroteB (d':=true) f1 f2
     go_roundg (n+1 - (i+1))
     case measure=>omega
     case rel =>
      refine ⟨i+1,by omega,by omega,by go_num,(hk.trans f3).trans f6,?_⟩
      rw [hnext.out]
      refine Hp.out.mk' (f3.trans f6) (ov:=.slice a' l' c') ?_ ?_
      ·unfold putT
       rw [hWT.out]
       exact f4
      ·unfold putT
       rw [hWT.out]
       simpa using f5
   ·have hWT:=hW false (by simp [wordT,hL,hD,hE])
    have hE':(((c.toNat:Nat):Int) == 36)=false:=by
     simp
     intro e
     have e36:(36:UInt8).toNat=36:=rfl
     exact hE (UInt8.toNat_inj.1 (by omega))
    cases d with
    | true =>
     go_wp2_with fail
     refine Calls.mono (isLetter_b c _ hL) ?_
     rintro e w1 ⟨rfl,h1⟩
     subst w1
     go_wp2_with fail
     refine Calls.mono (isDigit_b c _ hD) ?_
     rintro e w1 ⟨rfl,h1⟩
     subst w1
     go_wp2_with (first
      | (refine Lib.wpList_append_own_string _ (by rfl) _ _ 65 9 (by rfl) (wb+1) 5 i0 Tryz.underlying65 Tryz.underlying9 hi0 hz0 hz1 hz2 _ out.length (Lib.byteCells out) (by rfl) hown x (by rfl) (by unfold maxLen;omega) (by omega) (by first | exact hwl | (simp;have:=k4.size;omega)) ?_;intro v' w6 hown6 hgrow6 _;obtain ⟨a',l',c',rfl⟩:=owns_shape hown6;have k6:Below (wb+1) wr w6:=(Below.refl (wb+1) _).grown hgrow6 (by first | exact hwl | (simp;have:=k4.size;omega)) (fun q hq=>(hown.lt q hq).1);obtain ⟨y0,y1,y2,y3,y4⟩:=wtwo ((k6.block wb (by omega)).trans hb)))
     have o6:Lib.OthersKept 5 none wr w6:=(Lib.OthersKept.refl _ _ _).grown hgrow6 (wown_kind hown)
     obtain ⟨f1,f2,f3⟩:=wrote1 (out:=out) (more:=x.data.toList) hb k6 o6 (by exact hown6)
     obtain ⟨f4,f5,f6⟩:=wroteB (d':=false) f1 f2
     go_roundg (n+1 - (i+1))
     case measure=>omega
     case rel =>
      refine ⟨i+1,by omega,by omega,by go_num,(hk.trans f3).trans f6,?_⟩
      rw [hnext.out]
      refine Hp.out.mk' (f3.trans f6) (ov:=.slice a' l' c') ?_ ?_
      ·unfold putT
       rw [hWT.out]
       exact f4
      ·unfold putT
       rw [hWT.out]
       simpa using f5
    | false =>
     go_wp2_with fail
     refine Calls.mono (isLetter_b c _ hL) ?_
     rintro e w1 ⟨rfl,h1⟩
     subst w1
     go_wp2_with fail
     refine Calls.mono (isDigit_b c _ hD) ?_
     rintro e w1 ⟨rfl,h1⟩
     subst w1
     go_wp2_with (first
      | (refine Lib.wpList_append_own_string _ (by rfl) _ _ 65 9 (by rfl) (wb+1) 5 i0 Tryz.underlying65 Tryz.underlying9 hi0 hz0 hz1 hz2 _ out.length (Lib.byteCells out) (by rfl) hown x (by rfl) (by unfold maxLen;omega) (by omega) (by first | exact hwl | (simp;have:=k4.size;omega)) ?_;intro v' w6 hown6 hgrow6 _;obtain ⟨a',l',c',rfl⟩:=owns_shape hown6;have k6:Below (wb+1) wr w6:=(Below.refl (wb+1) _).grown hgrow6 (by first | exact hwl | (simp;have:=k4.size;omega)) (fun q hq=>(hown.lt q hq).1);obtain ⟨y0,y1,y2,y3,y4⟩:=wtwo ((k6.block wb (by omega)).trans hb)))
     have o6:Lib.OthersKept 5 none wr w6:=(Lib.OthersKept.refl _ _ _).grown hgrow6 (wown_kind hown)
     obtain ⟨f1,f2,f3⟩:=wrote1 (out:=out) (more:=x.data.toList) hb k6 o6 (by exact hown6)
     obtain ⟨f4,f5,f6⟩:=wroteB (d':=false) f1 f2
     go_roundg (n+1 - (i+1))
     case measure=>omega
     case rel =>
      refine ⟨i+1,by omega,by omega,by go_num,(hk.trans f3).trans f6,?_⟩
      rw [hnext.out]
      refine Hp.out.mk' (f3.trans f6) (ov:=.slice a' l' c') ?_ ?_
      ·unfold putT
       rw [hWT.out]
       exact f4
      ·unfold putT
       rw [hWT.out]
       simpa using f5
  ·have hi':¬ (i:Int) < (n:Int):=by omega
   go_wp2_with fail
   go_end0
   refine ⟨rfl,?_,hk⟩
   rw [List.take_of_length_le (by have:=HN.out;omega)] at hp
   exact hp
end
end Go.Proofs.Tryz
