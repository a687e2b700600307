import Derived.Test.YtndoeeampclfaaaGreatDoorFz2
import Derived.Test.YtndoeeampclfaaaGreatDoorWk6
import Derived.Test.YtndoeeampclfaaaGreatDoorWd4
set_option linter.all false
namespace Go.Proofs.Tryz
set_option maxHeartbeats 16000000
open Go.RowKit
set_option maxRecDepth 10000
def PathIs (w:World):List IV→Value→Prop
 | [],v=>∃ b,v = .pointer (some ⟨b,0,none⟩)∧w.heap[b]? = some (.cells #[.pointer none,.nilIface,.int .i64 0] 263 (0,0))
 | s :: rs,v=>∃ (b:Nat) (v':Value),v = .pointer (some ⟨b,0,none⟩)∧w.heap[b]? = some (.cells #[v',iv s,.int .i64 ((rs.length:Int)+1)] 263 (0,0))∧PathIs w rs v'
theorem PathIs.keep {w w':World} (h:∀ (b:Nat) (c:Array Value) (fz:Nat×Nat),w.heap[b]? = some (.cells c 263 fz)→w'.heap[b]? = w.heap[b]?):∀ {rs:List IV}{v:Value},PathIs w rs v→PathIs w' rs v
 | [],v,⟨b,e,hb⟩=>⟨b,e,(h b _ _ hb).trans hb⟩
 | s :: rs,v,⟨b,v',e,hb,hr⟩=>⟨b,v',e,(h b _ _ hb).trans hb,PathIs.keep h hr⟩
theorem PathIs.move {w w':World}{rs:List IV}{v:Value} (h:PathIs w rs v) (k:Below w.heap.size w w'):PathIs w' rs v:=h.keep (fun b _ _ e=>k.block b (lt_of_block e))
theorem PathIs.head {w:World}{rs:List IV}{v:Value} (h:PathIs w rs v):∃ b v' x,v = .pointer (some ⟨b,0,none⟩)∧w.heap[b]? = some (.cells #[v',x,.int .i64 (rs.length:Int)] 263 (0,0)):=by
 cases rs with
 | nil=>obtain ⟨b,e,hb⟩:=h;exact ⟨b,_,_,e,hb⟩
 | cons s rs=>obtain ⟨b,v',e,hb,_⟩:=h;exact ⟨b,v',_,e,by simpa using hb⟩
theorem array_ok {w:World}{rs:List IV}{v:Value}{n:Nat} (h:PathIs w rs v) (hn:rs.length=n) (hl:n≤1000000) :
  Calls Tryz.prog 157 #[v] w fun e w'=>e = .returned (.slice (some ⟨w.heap.size,0,none⟩) n n)∧w'.ownsRow w.heap.size 32 1 (.slice (some ⟨w.heap.size,0,none⟩) n n) n (rs.reverse.map iv)∧Below w.heap.size w w':=by
 obtain ⟨i0,hi0,hz0,hz1,hz2⟩:=info_parts (show (Tryz.prog.info? 32).map (fun i=>(i.zero,i.size,i.bytes))=some (some .nilIface,1,16) by kernel_rfl)
 have H:Aside (PathIs w rs v):=h
 have HN:Hid (rs.length=n):=hn
 obtain ⟨b,v',x,rfl,hb⟩:=h.head
 rw [hn] at hb
 obtain ⟨c0,c1,c2,f0,f1,f2,hlt⟩:=three_facts' hb
 clear h hn hb
 go_enter Tryz.func157,Tryz.ntmps157
 go_wp2_with (refine wpList_make_full _ (by rfl) _ _ 86 (by rfl) w.heap.size 32 i0 .nilIface 1 Tryz.underlying86 hi0 hz0 hz1 .i64 .i64 n n n (by rfl) (by rfl) rfl rfl (by rw [hz2];omega) (by unfold maxLen;omega) (Nat.le_refl _) ?_;intro w1 ow1 gr1)
 have kw1:Below w.heap.size w w1:=(Below.refl _ _).grown gr1 (Nat.le_refl _) (fun q hq=>by cases hq)
 have hl1:((madeCells (Value.cells .nilIface) (n * 1)).toList).length=n:=by have:=ow1.1;simpa using this
 go_loopg [0] n (fun k v0 wr=>∃ (rs':List IV) (xs:List Value),rs'.length=k∧k≤n∧Aside (PathIs wr rs' v0∧(∃ dn,rs=dn ++ rs')∧xs.length=n∧(∀ j,k≤j→j < n→xs[j]? = (rs.reverse.map iv)[j]?)∧wr.ownsRow w.heap.size 32 1 (.slice (some ⟨w.heap.size,0,none⟩) n n) n xs∧Below w.heap.size w wr))
 case atStart=>exact ⟨rs,_,HN.out,Nat.le_refl _,H.out.move kw1,⟨[],rfl⟩,hl1,fun j h1 h2=>by omega,ow1,kw1⟩
 case round =>
  obtain ⟨rs',xs,hk,hkn,HR⟩:=hrel
  cases rs' with
  | nil =>
   obtain ⟨hp,_,h1,h2,h3,h4⟩:=HR.out
   obtain ⟨b',rfl,hb'⟩:=hp
   obtain ⟨d0,d1,d2,g0,g1,g2,hlt'⟩:=three_facts' hb'
   clear h3 hb'
   go_wp2_with fail
   go_ret
   obtain ⟨_,_,h1,h2,h3,h4⟩:=HR.out
   have hxs:xs=rs.reverse.map iv:=by
    apply List.ext_getElem?
    intro j
    by_cases hj:j < n
    ·exact h2 j (by simp at hk;omega) hj
    ·rw [List.getElem?_eq_none (by omega),List.getElem?_eq_none (by simp;have:=HN.out;omega)]
   exact ⟨rfl,hxs ▸ h3,h4⟩
  | cons s rs' =>
   obtain ⟨hp,⟨dn,hdn⟩,h1,h2,h3,h4⟩:=HR.out
   obtain ⟨b',v'',rfl,hb',hp'⟩:=hp
   obtain ⟨T,u⟩:=s
   simp only [iv] at hb'
   obtain ⟨d0,d1,d2,g0,g1,g2,hlt'⟩:=three_facts' hb'
   obtain ⟨b2,v2,x2,hv2,hb2⟩:=hp'.head
   subst hv2
   obtain ⟨M,hM⟩:∃ M,rs'.length=M:=⟨_,rfl⟩
   rw [hM] at d2
   have hMn:M < n:=by simp at hk;omega
   have z1:(M:Int) < (n:Int):=by omega
   have z2:(0:Int)≤(M:Int):=by omega
   have z3:(M:Int)+1 - 1=(M:Int):=by omega
   have hgl:=(h3.lt w.heap.size rfl).2
   obtain ⟨y,hy⟩:∃ y,xs[M]? = some y:=⟨_,List.getElem?_eq_getElem (by omega)⟩
   have c0':wr.cell? ⟨w.heap.size,M,none⟩=some y:=(h3.cellAt M (by omega)).trans hy
   have c1':wr.frozen? ⟨w.heap.size,M,none⟩=false:=by
    rcases h3.2 with ⟨e,_⟩ | ⟨g',cap',cur,e,_,hb3,_⟩
    ·cases e
    ·cases e;exact cells_free hb3
   have nb:¬ b'=w.heap.size:=fun e=>by
    obtain ⟨c,fz,hk2⟩:=own_kind h3 w.heap.size rfl
    rw [e,hk2] at hb'
    simp at hb'
   have nb2:¬ w.heap.size=b':=fun e=>nb e.symm
   have HP':Aside (PathIs wr rs' (.pointer (some ⟨b2,0,none⟩))):=hp'
   have HDN:Hid (rs=dn ++ (T,u) :: rs'):=hdn
   have HM:Hid (rs'.length=M):=hM
   clear h1 h2 h3 h4 hb' hp' hb2 hy hdn hM
   go_wp2_with fail
   go_region
   go_wp2_with fail
   all_goals
    go_roundg M
    case measure=>have:=HM.out;simp at hk;omega
    case rel =>
     obtain ⟨_,_,h1,h2,h3,h4⟩:=HR.out
     have hpk:PathIs (wr.setCell ⟨w.heap.size,M,none⟩ (.iface T u)).drew rs' (.pointer (some ⟨b2,0,none⟩)):=HP'.out.keep (fun b c fz e=>by
      have hne:b≠w.heap.size:=fun e2=>by
       obtain ⟨c3,fz3,hk3⟩:=own_kind h3 w.heap.size rfl
       rw [e2,hk3] at e
       simp at e
      show (wr.setCell ⟨w.heap.size,M,none⟩ (.iface T u)).heap[b]? = _
      rw [Below.heap_setCell _ _ _ _ (by simpa using hne)])
     refine ⟨rs',xs.set M (.iface T u),HM.out,by omega,hpk,⟨dn ++ [(T,u)],by rw [HDN.out];simp⟩,by simpa using h1,fun j hj1 hj2=>?_,World.ownsRow.drew (h3.stored M (.iface T u)).1,(h4.setCell (p:=⟨w.heap.size,M,none⟩) (Nat.le_refl _) _).trans (belowD _ _ 1)⟩
     by_cases hjM:j=M
     ·subst hjM
      rw [List.getElem?_set_self (by omega),HDN.out,List.getElem?_map,List.reverse_append,List.reverse_cons,List.append_assoc,List.getElem?_append_right (by rw [List.length_reverse,HM.out];omega),List.length_reverse,HM.out,Nat.sub_self]
      rfl
     ·rw [List.getElem?_set_ne (by omega)]
      exact h2 j (by have:=HM.out;simp at hk;omega) hj2
end Go.Proofs.Tryz
namespace Go.Proofs.Tryz
set_option maxHeartbeats 16000000
open Go.RowKit
set_option maxRecDepth 10000
theorem made_bing {C:Nat→Prop}{Ls:List SP}{w:World}{kn:Option Addr}{d:Int}{b:Nat}{x:IV} (h:∀ w1,Below w.heap.size w w1→Calls Tryz.prog 129 #[.agg #[.pointer kn,.int .i64 d],.pointer (some ⟨b,0,none⟩),.agg #[iv x,.pointer none]] w1 (MadeC Ls C w1)) :
  Calls Tryz.prog 66 #[.agg #[.pointer kn,.int .i64 d],.iface 171 (.pointer (some ⟨b,0,none⟩)),.agg #[iv x,.pointer none]] w (MadeC Ls C w):=by
 have m0:=missLiteral;have m1:=missVariable;have m2:=missCollect;have m3:=missBuild;have m4:=missMinus;have m5:=hitBinary
 obtain ⟨T,u⟩:=x
 simp only [iv] at h ⊢
 go_enter Tryz.func66,Tryz.ntmps66
 go_wp2_with (go_at_call 129;refine (h _ (below_alloc2 w _ _)).mono ?_;rintro e w1 ⟨k1,K,cap,rfl,hM⟩)
 go_ret
 exact MadeC.under ⟨k1,K,cap,rfl,hM⟩ (below_alloc2 w _ _)
theorem binary_defg {C:Nat→Prop}{Ls:List SP}{w0 w:World}{kn:Option Addr}{d:Int}{b:Nat}{x:IV}{op:ByteArray} (hC:∀ k,C k→k < w0.heap.size) (hb:C b) (c1:w0.cell? ⟨b,1,none⟩=some (.string op)) (o1:(op.toList == [124])=false) (o2:(op.toList == [44])=false) (o3:(op.toList == [47,47])=false) (hs:SameOn C w0 w) (hl:w0.heap.size≤w.heap.size)
  (h:∀ w1,Below w.heap.size w w1→Calls Tryz.prog 66 #[.agg #[.pointer kn,.int .i64 d],.iface 171 (.pointer (some ⟨b,0,none⟩)),.agg #[iv x,.pointer none]] w1 (MadeC Ls C w1)) :
  Calls Tryz.prog 64 #[.agg #[.pointer kn,.int .i64 d],.pointer (some ⟨b,0,none⟩),.agg #[iv x,.pointer none]] w (MadeC Ls C w):=by
 have n1:=hs.cell hb c1
 have n3:b < w.heap.size:=by have:=hC b hb;omega
 obtain ⟨T,u⟩:=x
 simp only [iv] at h ⊢
 have wn1:=((below_alloc3 w (.cells #[.pointer kn,.int .i64 d] 71) (.cells #[.pointer (some ⟨b,0,none⟩)] 171) (.cells #[.iface T u,.pointer none] 75)).cell (p:=⟨b,1,none⟩) n3).trans n1
 go_enter Tryz.func64,Tryz.ntmps64
 go_wp2_with fail
 obtain ⟨wA,hA,kW,wp,wf,wx,wl⟩:=three_boxes w kn d (.pointer (some ⟨b,0,none⟩)) 171 ((T,u),none)
 simp only [iv] at hA
 obtain ⟨x0,x1,_,_,x4⟩:=wx.facts
 have a0:=wp.c0
 have a1:=wp.c1
 have a2:=wf.cell
 have a3:=(kW.cell (p:=⟨b,1,none⟩) n3).trans n1
 have s0:=six ((Below.refl _ wA).drew) a0 a1 a2 a3 x0 x1
 rw [← hA]
 clear hA wn1
 go_region_held3 (fun w'=>w'.cell? ⟨w.heap.size,0,none⟩=some (.pointer kn)∧w'.cell? ⟨w.heap.size,1,none⟩=some (.int .i64 d)∧w'.cell? ⟨w.heap.size+1,0,none⟩=some (.pointer (some ⟨b,0,none⟩))∧w'.cell? ⟨b,1,none⟩=some (.string op)∧w'.cell? ⟨w.heap.size+2,0,none⟩=some (.iface T u)∧w'.cell? ⟨w.heap.size+2,1,none⟩=some (.pointer none)) (first | exact s0 | exact e4 | exact f4 | exact g4 | go_keep)
   (first
    | (go_at_call 50;refine plain_ok.mono ?_;rintro e w1 ⟨rfl,k1⟩;have kX:Below wA.heap.size wA w1:=(Below.refl _ _).drew.trans (k1.mono (by simp));have e4:=six kX a0 a1 a2 a3 x0 x1;have kA:=kW.trans (kX.mono kW.size))
    | (go_at_call 66;refine (h _ kA).mono ?_;rintro e w2 ⟨k2,K,cap,rfl,hM⟩;have kY:=kX.trans (k2.mono kX.size);have f4:=six kY a0 a1 a2 a3 x0 x1)
    | (go_at_call 65;refine pathless_ok.mono ?_;rintro e w3 ⟨rfl,k3⟩;have kZ:=kY.trans (k3.mono kY.size);have g4:=six kZ a0 a1 a2 a3 x0 x1))
 all_goals
  go_wp2_with fail
  go_ret
  exact (MadeC.under (L:=Ls) (C:=C) ⟨k2,K,cap,rfl,hM⟩ kA).same k3
theorem opensG_oper {C:Nat→Prop}{b T1 b1 T2 b2:Nat}{w0:World}{kn:Option Addr}{d:Int}{x:IV}{op:ByteArray}{Lo:List (SP×SP)}{Q:SP} (hop:Plainly op) (hb:C b) (c0:w0.cell? ⟨b,0,none⟩=some (.iface T1 (.pointer (some ⟨b1,0,none⟩)))) (c1:w0.cell? ⟨b,1,none⟩=some (.string op)) (c2:w0.cell? ⟨b,2,none⟩=some (.iface T2 (.pointer (some ⟨b2,0,none⟩))))
  (hO1:OpensG C w0 (.iface T1 (.pointer (some ⟨b1,0,none⟩))) kn d (x,none) (Lo.map (·.1))) (hO2:OpensG C w0 (.iface T2 (.pointer (some ⟨b2,0,none⟩))) kn d (x,none) [Q]) (h:∀ y∈Lo,OperG C w0 op y.1 Q y.2) :
  OpensG C w0 (.iface 171 (.pointer (some ⟨b,0,none⟩))) kn d (x,none) (Lo.map (·.2)):=by
 have hC:=hO1.1
 obtain ⟨_,_,_,_,o5,o6,o7⟩:=id hop
 refine ⟨hC,fun w hs hl=>open_bing (fun w1 k1=>?_)⟩
 have hs1:SameOn C w0 w1:=hs.trans (fun j hj=>k1.block j (Nat.lt_of_lt_of_le (hC j hj) hl))
 have hl1:w0.heap.size≤w1.heap.size:=Nat.le_trans hl k1.size
 refine binary_defg hC hb c1 o5 o6 o7 hs1 hl1 (fun w2 k2=>made_bing (fun w3 k3=>?_))
 have k23:=k2.trans (k3.mono k2.size)
 exact operation_g hop hb c0 c1 c2 hO1 hO2 h (hs1.trans (fun j hj=>k23.block j (Nat.lt_of_lt_of_le (hC j hj) hl1))) (Nat.le_trans hl1 k23.size)
end Go.Proofs.Tryz
namespace Go.Proofs.Tryz
set_option maxHeartbeats 16000000
open Go.RowKit
set_option maxRecDepth 10000
theorem wbegin_leaf (hA:AppendsIntK) {w:World}{B W:Nat}{out:Bys}{fs:List Fm}{v:IV}{c:Bys} (hv:leafV v c) (h:WS w B W out fs) (ho:out.length≤10000000000) (ht:Lib.TabBelow Tryz.prog B w "internal/strconv.uint64pow10" .u64 Lib.pow10Tab) :
  Calls Tryz.prog 13 #[.pointer (some ⟨W,0,none⟩),iv v] w fun e w'=>e = .returned (.tuple #[])∧BegW B W out fs c w w':=by
 rcases hv with ⟨rfl,rfl⟩ | ⟨b,rfl,rfl⟩ | ⟨n,h0,h1,rfl,rfl⟩ | ⟨t,h0,rfl,rfl⟩
 ·exact wbegin_null h ho
 ·exact wbegin_bool b h ho
 ·exact wbegin_num hA n h0 h1 h ho ht
 ·exact wbegin_str t h0 h ho
theorem wbegin_any (hA:AppendsIntK) {w:World}{B W:Nat}{out:Bys}{fs:List Fm}{v:IV}{c:Bys} (hv:Vl w (· < W) v c) (h:WS w B W out fs) (ho:out.length≤10000000000) (hf:fs.length≤10000000000) (ht:Lib.TabBelow Tryz.prog B w "internal/strconv.uint64pow10" .u64 Lib.pow10Tab) :
  Calls Tryz.prog 13 #[.pointer (some ⟨W,0,none⟩),iv v] w fun e w'=>e = .returned (.tuple #[])∧BegW B W out fs c w w':=by
 obtain ⟨d,hd⟩:=hv
 cases d with
 | zero=>exact wbegin_leaf hA hd h ho ht
 | succ d =>
  rcases hd with hd | ⟨r,its,rfl,ow,hp,hi,rfl⟩ | ⟨r,ms,rfl,ow,hp,hi,rfl,_⟩
  ·exact wbegin_leaf hA hd h ho ht
  ·obtain ⟨ra,rl,rc,rfl⟩:=owns_shape2 ow
   exact wbegin_arr its ow hp (fun x hx=>⟨d,hi x hx⟩) h ho hf
  ·obtain ⟨ra,rl,rc,rfl⟩:=owns_shape2 ow
   exact wbegin_obj ms ow hp (fun x hx=>⟨d,hi x hx⟩) h ho hf
def StepW (B W:Nat) (out:Bys) (fs:List Fm) (w w':World):Prop:=(∃ out' fs',WS w' B W out' fs'∧out' ++ restAll fs'=out ++ restAll fs∧out.length < out'.length)∧Fr (fun k=>k=W∨B≤k) w w'
theorem fcells_len (fs:List Fm):(fs.flatMap Fm.cells).length=fs.length * 4:=by
 induction fs with
 | nil=>rfl
 | cons h t ih=>rw [List.flatMap_cons,List.length_append,ih];simp [Fm.cells];omega
theorem topF {w:World}{B:Nat}{pv:Value}{lo:List Fm}{f:Fm} (ow:w.ownsRow B 104 4 pv (lo ++ [f]).length ((lo ++ [f]).flatMap Fm.cells)):∃ g cap,pv = .slice (some ⟨g,0,none⟩) (lo.length+1) cap∧B≤g∧lo.length+1≤cap∧cap≤9223372036854775807∧(∀ i v,f.cells[i]? = some v→w.cell? ⟨g,lo.length * 4+i,none⟩=some v)∧(∀ q,w.frozen? ⟨g,q,none⟩=false)∧g < w.heap.size:=by
 rw [List.length_append,List.length_singleton] at ow
 rcases ow.2 with ⟨_,h0⟩ | ⟨g,cap,cur,e,hg,hb,hn,hm,hs,ht⟩
 ·omega
 ·refine ⟨g,cap,e,hg,hn,by simpa [maxLen] using hm,fun i v hi=>?_,fun q=>cells_free hb,lt_of_block hb⟩
  have hi4:i < 4:=by have:=(List.getElem?_eq_some_iff.1 hi).1;simpa [Fm.cells] using this
  have h2:cur.toList[lo.length * 4+i]? = some v:=by
   rw [← List.getElem?_take_of_lt (show lo.length * 4+i < (lo.length+1) * 4 by omega),ht,List.flatMap_append,List.getElem?_append_right (by rw [fcells_len];omega),fcells_len,Nat.add_sub_cancel_left]
   simpa using hi
  exact cells_cell hb (by simpa using h2)
theorem texts_len_arr {f:Fm} (ho:f.obj=false):f.texts.length=f.its.length:=by unfold Fm.texts;simp [ho]
theorem texts_len_obj {f:Fm} (ho:f.obj=true):f.texts.length=f.ms.length:=by unfold Fm.texts;simp [ho]
theorem rest_end {f:Fm} (h:f.next=f.texts.length):f.rest=[if f.obj then 125 else 93]:=by
 unfold Fm.rest
 rw [h,List.drop_length]
 simp [restI]
theorem popF {w:World}{B g cap:Nat}{lo:List Fm}{f:Fm} (ow:w.ownsRow B 104 4 (.slice (some ⟨g,0,none⟩) (lo.length+1) cap) (lo ++ [f]).length ((lo ++ [f]).flatMap Fm.cells)):w.ownsRow B 104 4 (.slice (some ⟨g,0,none⟩) lo.length cap) lo.length (lo.flatMap Fm.cells):=by
 rw [List.length_append,List.length_singleton] at ow
 rcases ow.2 with ⟨e,_⟩ | ⟨g',cap',cur,e,hg,hb,hn,hm,hs,ht⟩
 ·cases e
 ·cases e
  refine ⟨fcells_len lo,.inr ⟨g,cap,cur,rfl,hg,hb,by omega,hm,hs,?_⟩⟩
  have:cur.toList.take (lo.length * 4)=(cur.toList.take ((lo.length+1) * 4)).take (lo.length * 4):=by
   rw [List.take_take];congr 1;omega
  rw [this,ht,List.flatMap_append,← fcells_len lo,List.take_left]
theorem step_end_arr {w:World}{B W:Nat}{out:Bys}{lo:List Fm}{f:Fm} (h:WS w B W out (lo ++ [f])) (hn:f.next=f.texts.length) (hob:f.obj=false) (ho:out.length≤10000000000) (hlo:lo.length≤10000000000) (hcnt:f.texts.length≤9223372036854775807) :
  Calls Tryz.prog 14 #[.pointer (some ⟨W,0,none⟩)] w fun e w'=>e = .returned (.tuple #[])∧StepW B W out (lo ++ [f]) w w':=by
 obtain ⟨i0,hi0,hz0,hz1,hz2⟩:=info_parts (show (Tryz.prog.info? 5).map (fun i=>(i.zero,i.size,i.bytes))=some (some (.int .u8 0),1,1) by kernel_rfl)
 obtain ⟨hlt,hle,⟨ov,pv,hb,hown,hpv⟩,hfs⟩:=h
 obtain ⟨c0,c1,c2,c3,c4⟩:=two_c0 hb
 obtain ⟨oa,ol,oc,rfl⟩:=owns_shape hown
 obtain ⟨g,cap,rfl,hgB,hcap,hcm,hcell,hfz,hgl⟩:=topF hpv
 have e0:=hcell 0 _ rfl
 have e1:=hcell 1 _ rfl
 have e2:=hcell 2 _ rfl
 have e3:=hcell 3 _ rfl
 simp only [hob,Bool.false_eq_true,if_false,Nat.add_zero] at e0 e1 e2
 have hl:=texts_len_arr hob
 have hfo:=hfs f (by simp)
 have hfo':=hfo.1
 rw [if_neg (by simp [hob])] at hfo'
 obtain ⟨ra,rl,rc,hrow⟩:=owns_shape hfo'.1
 have hrl:rl=f.next:=by
  have:=hfo'.1.2
  rw [hrow] at this
  rcases this with ⟨e,h0⟩ | ⟨_,_,_,e,_⟩
  ·cases e;omega
  ·cases e;omega
 rw [hrow] at e1
 subst hrl
 obtain ⟨nx,hnx⟩:∃ nx,f.next=nx:=⟨_,rfl⟩
 have hre:=rest_end hn
 rw [hob] at hre
 have HRE:Hid _:=hre
 have hnl:nx≤9223372036854775807:=by omega
 have ngW:¬ g=W:=by omega
 have nWg:¬ W=g:=by omega
 have HFS:Aside (∀ x∈lo ++ [f],FOk w W x):=hfs
 have HPV:Aside (w.ownsRow B 104 4 (.slice (some ⟨g,0,none⟩) (lo.length+1) cap) (lo ++ [f]).length ((lo ++ [f]).flatMap Fm.cells)):=hpv
 have hgo:some g≠(Value.slice oa ol oc).ownBlock:=fun e=>by
  obtain ⟨x1,y1,z1⟩:=own_kind hown g e.symm
  obtain ⟨x2,y2,z2⟩:=own_kind hpv g rfl
  rw [z1] at z2
  simp at z2
 have HGO:Aside _:=hgo
 clear hcell hfs hfo hfo' hpv hre hl hn hgo
 simp only [hnx] at e1 e2 e3
 clear hnx hcnt hrow
 go_enter Tryz.func14,Tryz.ntmps14
 go_wp2_with fail
 go_quiet (fail)
 go_wp2_with fail
 go_quiet (fail)
 go_wp2_with fail
 have y0:∀ m o,((w.drewN m).alloc o).cell? ⟨W,0,none⟩=some (.slice oa ol oc):=fun m o=>((below_alloc (w.drewN m) o).cell (p:=⟨W,0,none⟩) (by simpa using c4)).trans c0
 have y1:∀ m o,((w.drewN m).alloc o).frozen? ⟨W,0,none⟩=false:=fun m o=>((below_alloc (w.drewN m) o).frozen (p:=⟨W,0,none⟩) (by simpa using c4)).trans c2
 go_region_law ((refine step_append_lies _ (by rfl) _ _ _ (by rfl) B 5 i0 _ 1 1 Tryz.underlying50 hi0 hz0 hz1 hz2 rfl (by omega) (.slice oa ol oc) out.length (Lib.byteCells out) (by rfl) (owns_same hown (fun k hk=>(below_alloc w _).block k (hown.lt k hk).2)) ⟨w.heap.size,0,none⟩ 1 1 [.int .u8 93] (by rfl) (by rfl) (World.news_of_block (cs:=#[.int .u8 93]) (t:=5) (fr:=(0,0)) (heap_new w _)) (by simp [Value.oneCell']) (by omega) (by unfold maxLen;omega) (by omega) (by simp;omega) (w.heap.size+1) (by simp) ?_;intro g1 cap1 w1 hown1 hgrow1 hat1 hlt1;have hbl:∀ k,k < w.heap.size→some k≠(Value.slice oa ol oc).ownBlock→w1.heap[k]? = w.heap[k]?:=(fun k hk hd=>(hgrow1.block k (by simp;omega) hd).trans ((below_alloc w (.cells #[.int .u8 93] 5)).block k hk));have hnb:∀ k,k < B→some k≠(Value.slice oa ol oc).ownBlock:=(fun k hk e=>by have:=(hown.lt k e.symm).1;omega);obtain ⟨d0,d1,d2,d3,d4⟩:=two_c0 ((hbl W (by omega) (hnb W hlt)).trans hb)))
 all_goals
  go_wp2_with fail
  go_region
  all_goals
   go_wp2_with fail
   have hgs:=hgrow1.size
   simp at hgs
   have hf1:Fr (fun k=>k=W∨B≤k) w w1:=⟨hgrow1.os,hgrow1.tape,hgrow1.output,by omega,fun k hk hd=>hbl k hk (hnb k (by omega))⟩
   have hpo:=popF HPV.out
   refine bodyPost_ret (v:=.tuple #[]) (by simp [results,Tryz.results14,go_sem]) rfl ⟨rfl,⟨⟨out ++ [93],lo,⟨hlt,by simp;omega,⟨_,_,two_set1 (two_set0 ((hbl W (by omega) (hnb W hlt)).trans hb)),?_,?_⟩,fun x hx=>?_⟩,?_,by simp⟩,((hf1.setCell _ (.inl (.inl rfl))).setCell _ (.inl (.inl rfl))).drewN 1⟩⟩
   ·rw [List.length_append,byteCells_append]
    exact owns_off (owns_off hown1 hlt) hlt
   ·refine owns_same (w:=w) hpo (fun k hk=>?_)
    cases hk
    show ((w1.setCell ⟨W,0,none⟩ _).setCell ⟨W,1,none⟩ _).heap[g]? = _
    rw [Below.heap_setCell _ _ _ _ (by simp;omega),Below.heap_setCell _ _ _ _ (by simp;omega)]
    exact hbl g hgl HGO.out
   ·refine (HFS.out x (by simp [hx])).keep (fun b hb2=>?_)
    show ((w1.setCell ⟨W,0,none⟩ _).setCell ⟨W,1,none⟩ _).heap[b]? = _
    rw [Below.heap_setCell _ _ _ _ (by simp;omega),Below.heap_setCell _ _ _ _ (by simp;omega)]
    exact hbl b (by omega) (hnb b (by omega))
   ·rw [restAll_app,HRE.out]
    simp
theorem step_end_obj {w:World}{B W:Nat}{out:Bys}{lo:List Fm}{f:Fm} (h:WS w B W out (lo ++ [f])) (hn:f.next=f.texts.length) (hob:f.obj=true) (ho:out.length≤10000000000) (hlo:lo.length≤10000000000) (hcnt:f.texts.length≤9223372036854775807) :
  Calls Tryz.prog 14 #[.pointer (some ⟨W,0,none⟩)] w fun e w'=>e = .returned (.tuple #[])∧StepW B W out (lo ++ [f]) w w':=by
 obtain ⟨i0,hi0,hz0,hz1,hz2⟩:=info_parts (show (Tryz.prog.info? 5).map (fun i=>(i.zero,i.size,i.bytes))=some (some (.int .u8 0),1,1) by kernel_rfl)
 obtain ⟨hlt,hle,⟨ov,pv,hb,hown,hpv⟩,hfs⟩:=h
 obtain ⟨c0,c1,c2,c3,c4⟩:=two_c0 hb
 obtain ⟨oa,ol,oc,rfl⟩:=owns_shape hown
 obtain ⟨g,cap,rfl,hgB,hcap,hcm,hcell,hfz,hgl⟩:=topF hpv
 have e0:=hcell 0 _ rfl
 have e1:=hcell 1 _ rfl
 have e2:=hcell 2 _ rfl
 have e3:=hcell 3 _ rfl
 simp only [hob,if_true,Nat.add_zero] at e0 e1 e2
 have hl:=texts_len_obj hob
 have hfo:=hfs f (by simp)
 have hfo':=hfo.1
 rw [if_pos (by simp [hob])] at hfo'
 obtain ⟨ra,rl,rc,hrow⟩:=owns_shape2 hfo'.1
 have hrl:rl=f.next:=by
  have:=hfo'.1.2
  rw [hrow] at this
  rcases this with ⟨e,h0⟩ | ⟨_,_,_,e,_⟩
  ·cases e;omega
  ·cases e;omega
 rw [hrow] at e2
 subst hrl
 obtain ⟨nx,hnx⟩:∃ nx,f.next=nx:=⟨_,rfl⟩
 have hre:=rest_end hn
 rw [hob] at hre
 have HRE:Hid _:=hre
 have hnl:nx≤9223372036854775807:=by omega
 have ngW:¬ g=W:=by omega
 have nWg:¬ W=g:=by omega
 have HFS:Aside (∀ x∈lo ++ [f],FOk w W x):=hfs
 have HPV:Aside (w.ownsRow B 104 4 (.slice (some ⟨g,0,none⟩) (lo.length+1) cap) (lo ++ [f]).length ((lo ++ [f]).flatMap Fm.cells)):=hpv
 have hgo:some g≠(Value.slice oa ol oc).ownBlock:=fun e=>by
  obtain ⟨x1,y1,z1⟩:=own_kind hown g e.symm
  obtain ⟨x2,y2,z2⟩:=own_kind hpv g rfl
  rw [z1] at z2
  simp at z2
 have HGO:Aside _:=hgo
 clear hcell hfs hfo hfo' hpv hre hl hn hgo
 simp only [hnx] at e1 e2 e3
 clear hnx hcnt hrow
 go_enter Tryz.func14,Tryz.ntmps14
 go_wp2_with fail
 go_quiet (fail)
 go_wp2_with fail
 go_quiet (fail)
 go_wp2_with fail
 have y0:∀ m o,((w.drewN m).alloc o).cell? ⟨W,0,none⟩=some (.slice oa ol oc):=fun m o=>((below_alloc (w.drewN m) o).cell (p:=⟨W,0,none⟩) (by simpa using c4)).trans c0
 have y1:∀ m o,((w.drewN m).alloc o).frozen? ⟨W,0,none⟩=false:=fun m o=>((below_alloc (w.drewN m) o).frozen (p:=⟨W,0,none⟩) (by simpa using c4)).trans c2
 go_region_law ((refine step_append_lies _ (by rfl) _ _ _ (by rfl) B 5 i0 _ 1 1 Tryz.underlying50 hi0 hz0 hz1 hz2 rfl (by omega) (.slice oa ol oc) out.length (Lib.byteCells out) (by rfl) (owns_same hown (fun k hk=>(below_alloc w _).block k (hown.lt k hk).2)) ⟨w.heap.size,0,none⟩ 1 1 [.int .u8 125] (by rfl) (by rfl) (World.news_of_block (cs:=#[.int .u8 125]) (t:=5) (fr:=(0,0)) (heap_new w _)) (by simp [Value.oneCell']) (by omega) (by unfold maxLen;omega) (by omega) (by simp;omega) (w.heap.size+1) (by simp) ?_;intro g1 cap1 w1 hown1 hgrow1 hat1 hlt1;have hbl:∀ k,k < w.heap.size→some k≠(Value.slice oa ol oc).ownBlock→w1.heap[k]? = w.heap[k]?:=(fun k hk hd=>(hgrow1.block k (by simp;omega) hd).trans ((below_alloc w (.cells #[.int .u8 125] 5)).block k hk));have hnb:∀ k,k < B→some k≠(Value.slice oa ol oc).ownBlock:=(fun k hk e=>by have:=(hown.lt k e.symm).1;omega);obtain ⟨d0,d1,d2,d3,d4⟩:=two_c0 ((hbl W (by omega) (hnb W hlt)).trans hb)))
 all_goals
  go_wp2_with fail
  go_region
  all_goals
   go_wp2_with fail
   have hgs:=hgrow1.size
   simp at hgs
   have hf1:Fr (fun k=>k=W∨B≤k) w w1:=⟨hgrow1.os,hgrow1.tape,hgrow1.output,by omega,fun k hk hd=>hbl k hk (hnb k (by omega))⟩
   have hpo:=popF HPV.out
   refine bodyPost_ret (v:=.tuple #[]) (by simp [results,Tryz.results14,go_sem]) rfl ⟨rfl,⟨⟨out ++ [125],lo,⟨hlt,by simp;omega,⟨_,_,two_set1 (two_set0 ((hbl W (by omega) (hnb W hlt)).trans hb)),?_,?_⟩,fun x hx=>?_⟩,?_,by simp⟩,((hf1.setCell _ (.inl (.inl rfl))).setCell _ (.inl (.inl rfl))).drewN 1⟩⟩
   ·rw [List.length_append,byteCells_append]
    exact owns_off (owns_off hown1 hlt) hlt
   ·refine owns_same (w:=w) hpo (fun k hk=>?_)
    cases hk
    show ((w1.setCell ⟨W,0,none⟩ _).setCell ⟨W,1,none⟩ _).heap[g]? = _
    rw [Below.heap_setCell _ _ _ _ (by simp;omega),Below.heap_setCell _ _ _ _ (by simp;omega)]
    exact hbl g hgl HGO.out
   ·refine (HFS.out x (by simp [hx])).keep (fun b hb2=>?_)
    show ((w1.setCell ⟨W,0,none⟩ _).setCell ⟨W,1,none⟩ _).heap[b]? = _
    rw [Below.heap_setCell _ _ _ _ (by simp;omega),Below.heap_setCell _ _ _ _ (by simp;omega)]
    exact hbl b (by omega) (hnb b (by omega))
   ·rw [restAll_app,HRE.out]
    simp
end Go.Proofs.Tryz
