import Derived.Test.YtndoeeampclfaaaGreatDoorFz4
set_option linter.all false
namespace Go.Proofs.Tryz
set_option maxHeartbeats 16000000
open Go.RowKit
set_option maxRecDepth 10000
def Fm.up (f:Fm):Fm:={ f with next:=f.next+1 }
theorem rest_step {f:Fm}{t:Bys} (h:f.texts[f.next]? = some t):f.rest=(if f.next=0 then [] else [44]) ++ (t ++ f.up.rest):=by
 have hl:=(List.getElem?_eq_some_iff.1 h).1
 have hd:f.texts.drop f.next=t :: f.texts.drop (f.next+1):=by
  rw [List.drop_eq_getElem_cons hl,(List.getElem?_eq_some_iff.1 h).2]
 unfold Fm.rest Fm.up
 show restI (f.next == 0) (f.texts.drop f.next) ++ _=_ ++ (t ++ (restI (f.next+1 == 0) (f.texts.drop (f.next+1)) ++ _))
 rw [hd,show ((f.next+1 == 0)=false) by simp]
 by_cases h0:f.next=0
 ·rw [show ((f.next == 0)=true) by simpa using h0,if_pos h0,restI];simp
 ·rw [show ((f.next == 0)=false) by simpa using h0,if_neg h0,restI];simp
theorem WS.up {w:World}{B W g cap:Nat}{out:Bys}{lo:List Fm}{f:Fm}{ov:Value} (hlt:W < B) (hle:B≤w.heap.size) (hb:w.heap[W]? = some (.cells #[ov,.slice (some ⟨g,0,none⟩) (lo.length+1) cap] 53 (0,0))) (hown:w.ownsRow B 5 1 ov out.length (Lib.byteCells out)) (hpv:w.ownsRow B 104 4 (.slice (some ⟨g,0,none⟩) (lo.length+1) cap) (lo ++ [f]).length ((lo ++ [f]).flatMap Fm.cells)) (hfs:∀ x∈lo ++ [f],FOk w W x) (hn:f.next < f.texts.length) :
  (w.setCell ⟨g,lo.length * 4+3,none⟩ (.int .i64 ((f.next:Int)+1))).heap[W]? = some (.cells #[ov,.slice (some ⟨g,0,none⟩) (lo.length+1) cap] 53 (0,0))∧(w.setCell ⟨g,lo.length * 4+3,none⟩ (.int .i64 ((f.next:Int)+1))).ownsRow B 5 1 ov out.length (Lib.byteCells out)∧(w.setCell ⟨g,lo.length * 4+3,none⟩ (.int .i64 ((f.next:Int)+1))).ownsRow B 104 4 (.slice (some ⟨g,0,none⟩) (lo.length+1) cap) (lo ++ [f.up]).length ((lo ++ [f.up]).flatMap Fm.cells)∧∀ x∈lo ++ [f.up],FOk (w.setCell ⟨g,lo.length * 4+3,none⟩ (.int .i64 ((f.next:Int)+1))) W x:=by
 have hgB:B≤g:=(hpv.lt g rfl).1
 have hother:∀ b,b≠g→(w.setCell ⟨g,lo.length * 4+3,none⟩ (.int .i64 ((f.next:Int)+1))).heap[b]? = w.heap[b]?:=fun b hne=>Below.heap_setCell _ _ _ _ (by simpa using hne)
 have hk:=fun (x:Fm) (hx:FOk w W x)=>hx.keep (w':=w.setCell ⟨g,lo.length * 4+3,none⟩ (.int .i64 ((f.next:Int)+1))) (fun b hb=>hother b (by omega))
 refine ⟨(hother W (by omega)).trans hb,owns_same hown (fun k hkk=>hother k (fun e=>?_)),?_,fun x hx=>?_⟩
 ·subst e
  obtain ⟨x1,y1,z1⟩:=own_kind hown k hkk
  obtain ⟨x2,y2,z2⟩:=own_kind hpv k rfl
  rw [z1] at z2
  simp at z2
 ·rw [List.length_append,List.length_singleton] at hpv ⊢
  have:=(hpv.stored (lo.length * 4+3) (.int .i64 ((f.next:Int)+1))).1
  have e:((lo ++ [f]).flatMap Fm.cells).set (lo.length * 4+3) (.int .i64 ((f.next:Int)+1))=(lo ++ [f.up]).flatMap Fm.cells:=by
   rw [List.flatMap_append,List.flatMap_append,List.set_append_right _ _ (by rw [fcells_len];omega),fcells_len,Nat.add_sub_cancel_left]
   simp [Fm.cells,Fm.up]
  rw [e] at this
  exact this
 ·rcases List.mem_append.1 hx with hx | hx
  ·exact hk x (hfs x (by simp [hx]))
  ·rw [List.mem_singleton] at hx
   subst hx
   obtain ⟨h1,h2,h3⟩:=hk f (hfs f (by simp))
   exact ⟨h1,h2,by show f.next+1≤f.texts.length;omega⟩
theorem StepW.of_begin {w w1 w':World}{B W:Nat}{out out1:Bys}{lo:List Fm}{f:Fm}{t:Bys} (ht:f.texts[f.next]? = some t) (ho:out1=out ++ (if f.next=0 then [] else [44])) (hb:BegW B W out1 (lo ++ [f.up]) t w1 w') (hf:Fr (fun k=>k=W∨B≤k) w w1):StepW B W out (lo ++ [f]) w w':=by
 obtain ⟨⟨out',new,h1,h2,h3⟩,h4⟩:=hb
 refine ⟨⟨out',_,h1,?_,?_⟩,hf.trans h4 (fun _ _ e=>e)⟩
 ·rw [h2,restAll_app,restAll_app,ho,rest_step ht]
  simp
 ·rw [ho,List.length_append] at h3
  omega
theorem step_arr0 (hA:AppendsIntK) {w:World}{B W:Nat}{out:Bys}{lo:List Fm}{f:Fm} (h:WS w B W out (lo ++ [f])) (hn:f.next < f.texts.length) (hn0:f.next=0) (hob:f.obj=false) (ho:out.length≤9000000000) (hlo:lo.length≤1000000000) (hcnt:f.texts.length≤9223372036854775807) (ht:Lib.TabBelow Tryz.prog W w "internal/strconv.uint64pow10" .u64 Lib.pow10Tab) :
  Calls Tryz.prog 14 #[.pointer (some ⟨W,0,none⟩)] w fun e w'=>e = .returned (.tuple #[])∧StepW B W out (lo ++ [f]) w w':=by
 obtain ⟨hlt,hle,⟨ov,pv,hb,hown,hpv⟩,hfs⟩:=h
 obtain ⟨c0,c1,c2,c3,c4⟩:=two_c0 hb
 obtain ⟨g,cap,rfl,hgB,hcap,hcm,hcell,hfz,hgl⟩:=topF hpv
 have e0:=hcell 0 _ rfl
 have e1:=hcell 1 _ rfl
 have e2:=hcell 2 _ rfl
 have e3:=hcell 3 _ rfl
 simp only [hob,Bool.false_eq_true,if_false,Nat.add_zero] at e0 e1 e2
 have hl:=texts_len_arr hob
 have hfo:=hfs f (by simp)
 have hfo':=hfo.1
 rw [if_neg (by simp [hob])] at hfo'
 obtain ⟨⟨⟨T,u⟩,t⟩,hx⟩:∃ x,f.its[f.next]? = some x:=⟨_,List.getElem?_eq_getElem (by omega)⟩
 have htx:f.texts[f.next]? = some t:=by unfold Fm.texts;rw [hob];simp [hx]
 obtain ⟨a,ca,hrow⟩:∃ a ca,f.row = .slice (some ⟨a,0,none⟩) f.its.length ca:=by
  rcases hfo'.1.2 with ⟨_,h0⟩ | ⟨a,ca,cur,e,_⟩
  ·omega
  ·exact ⟨a,ca,e⟩
 have hrow':=hfo'.1
 rw [hrow] at hrow' e1
 have hit:w.cell? ⟨a,f.next,none⟩=some (.iface T u):=by
  rw [hrow'.cellAt f.next (by omega),List.getElem?_map,hx];rfl
 have haW:a < W:=hfo.2.1 a (by rw [hrow];rfl)
 have hvl:=hfo'.2 _ (List.mem_of_getElem? hx)
 have hup:=fun m=>WS.up (w:=w.drewN m) (out:=out) (f:=f) hlt hle hb hown hpv (fun x hx=>(hfs x hx).keep (fun _ _=>rfl)) hn
 obtain ⟨L,hL⟩:∃ L,f.its.length=L:=⟨_,rfl⟩
 rw [hL] at e1 hl
 have nag:¬ a=g:=by omega
 have nga:¬ g=a:=by omega
 have ngW:¬ g=W:=by omega
 have nWg:¬ W=g:=by omega
 have z0:¬ (0:Int)=(L:Int):=by omega
 have z1:(0:Int) < (L:Int):=by omega
 have z2:L≤9223372036854775807:=by omega
 have hbeg:∀ m,Calls Tryz.prog 13 #[.pointer (some ⟨W,0,none⟩),.iface T u] ((w.drewN m).setCell ⟨g,lo.length * 4+3,none⟩ (.int .i64 1)) fun e w'=>e = .returned (.tuple #[])∧StepW B W out (lo ++ [f]) w w':=fun m=>by
  obtain ⟨u1,u2,u3,u4⟩:=hup m
  rw [hn0] at u1 u2 u3 u4
  have hfr:Fr (fun k=>k=W∨B≤k) w ((w.drewN m).setCell ⟨g,lo.length * 4+3,none⟩ (.int .i64 1)):=((Fr.refl _ w).drewN m).setCell _ (.inl (.inr hgB))
  have hkeep:∀ b,b < W→((w.drewN m).setCell ⟨g,lo.length * 4+3,none⟩ (.int .i64 1)).heap[b]? = w.heap[b]?:=fun b hbl=>Below.heap_setCell _ _ _ _ (by simp;omega)
  refine (wbegin_any hA (v:=(T,u)) (c:=t) (out:=out) (fs:=lo ++ [f.up]) (hvl.mono (fun q hq=>⟨hq,hkeep q hq⟩)) ⟨hlt,by simpa using hle,⟨_,_,u1,u2,u3⟩,u4⟩ (by omega) (by simp;omega) (fun w' h'=>ht w' ?_)).mono ?_
  ·refine Below.trans ?_ (h'.mono (Nat.le_of_lt hlt))
   exact ⟨rfl,rfl,rfl,by simp,fun k hk=>Below.heap_setCell _ _ _ _ (by simp;omega)⟩
  ·rintro e w' ⟨rfl,hbw⟩
   exact ⟨rfl,StepW.of_begin htx (by simp [hn0]) hbw hfr⟩
 have HBEG:Aside (∀ m,Calls Tryz.prog 13 #[.pointer (some ⟨W,0,none⟩),.iface T u] ((w.drewN m).setCell ⟨g,lo.length * 4+3,none⟩ (.int .i64 1)) fun e w'=>e = .returned (.tuple #[])∧StepW B W out (lo ++ [f]) w w'):=hbeg
 rw [hn0] at e3 hit
 clear hbeg hup hcell hfs hfo hfo' hpv hl hn hrow' hvl htx hx hrow hcnt hL ht hown hn0
 go_enter Tryz.func14,Tryz.ntmps14
 go_wp2_with fail
 go_quiet (fail)
 go_wp2_with fail
 go_quiet (fail)
 go_wp2_with fail
 refine Calls.mono (HBEG.out _) ?_
 rintro e w1 ⟨rfl,hsw⟩
 go_wp2_with fail
 exact bodyPost_ret (v:=.tuple #[]) (by simp [results,Tryz.results14,go_sem]) rfl ⟨rfl,hsw⟩
end Go.Proofs.Tryz
namespace Go.Proofs.Tryz
set_option maxHeartbeats 16000000
open Go.RowKit
set_option maxRecDepth 10000
theorem step_arrN (hA:AppendsIntK) {w:World}{B W:Nat}{out:Bys}{lo:List Fm}{f:Fm} (h:WS w B W out (lo ++ [f])) (hn:f.next < f.texts.length) (hn0:0 < f.next) (hob:f.obj=false) (ho:out.length≤9000000000) (hlo:lo.length≤1000000000) (hcnt:f.texts.length≤9223372036854775807) (ht:Lib.TabBelow Tryz.prog W w "internal/strconv.uint64pow10" .u64 Lib.pow10Tab) :
  Calls Tryz.prog 14 #[.pointer (some ⟨W,0,none⟩)] w fun e w'=>e = .returned (.tuple #[])∧StepW B W out (lo ++ [f]) w w':=by
 obtain ⟨i0,hi0,hz0,hz1,hz2⟩:=info_parts (show (Tryz.prog.info? 5).map (fun i=>(i.zero,i.size,i.bytes))=some (some (.int .u8 0),1,1) by kernel_rfl)
 obtain ⟨hlt,hle,⟨ov,pv,hb,hown,hpv⟩,hfs⟩:=h
 obtain ⟨oa,ol,oc,rfl⟩:=owns_shape hown
 obtain ⟨c0,c1,c2,c3,c4⟩:=two_c0 hb
 obtain ⟨g,cap,rfl,hgB,hcap,hcm,hcell,hfz,hgl⟩:=topF hpv
 have e0:=hcell 0 _ rfl
 have e1:=hcell 1 _ rfl
 have e2:=hcell 2 _ rfl
 have e3:=hcell 3 _ rfl
 simp only [hob,Bool.false_eq_true,if_false,Nat.add_zero] at e0 e1 e2
 have hl:=texts_len_arr hob
 have hfo:=hfs f (by simp)
 have hfo':=hfo.1
 rw [if_neg (by simp [hob])] at hfo'
 obtain ⟨⟨⟨T,u⟩,t⟩,hx⟩:∃ x,f.its[f.next]? = some x:=⟨_,List.getElem?_eq_getElem (by omega)⟩
 have htx:f.texts[f.next]? = some t:=by unfold Fm.texts;rw [hob];simp [hx]
 obtain ⟨a,ca,hrow⟩:∃ a ca,f.row = .slice (some ⟨a,0,none⟩) f.its.length ca:=by
  rcases hfo'.1.2 with ⟨_,h0⟩ | ⟨a,ca,cur,e,_⟩
  ·omega
  ·exact ⟨a,ca,e⟩
 have hrow':=hfo'.1
 rw [hrow] at hrow' e1
 have hit:w.cell? ⟨a,f.next,none⟩=some (.iface T u):=by
  rw [hrow'.cellAt f.next (by omega),List.getElem?_map,hx];rfl
 have haW:a < W:=hfo.2.1 a (by rw [hrow];rfl)
 have hvl:=hfo'.2 _ (List.mem_of_getElem? hx)
 have hup:=fun m=>WS.up (w:=w.drewN m) (out:=out) (f:=f) hlt hle hb hown hpv (fun x hx=>(hfs x hx).keep (fun _ _=>rfl)) hn
 obtain ⟨L,hL⟩:∃ L,f.its.length=L:=⟨_,rfl⟩
 rw [hL] at e1 hl
 have nag:¬ a=g:=by omega
 have nga:¬ g=a:=by omega
 have ngW:¬ g=W:=by omega
 have nWg:¬ W=g:=by omega
 obtain ⟨nx,hnx⟩:∃ nx,f.next=nx:=⟨_,rfl⟩
 have z0:¬ (nx:Int)=(L:Int):=by omega
 have z1:(nx:Int) < (L:Int):=by omega
 have z2:L≤9223372036854775807:=by omega
 have z3:(0:Int) < (nx:Int):=by omega
 have z4:(0:Int)≤(nx:Int):=by omega
 have hgo:some g≠(Value.slice oa ol oc).ownBlock:=fun e=>by
  obtain ⟨x1,y1,z1⟩:=own_kind hown g e.symm
  obtain ⟨x2,y2,z2⟩:=own_kind hpv g rfl
  rw [z1] at z2
  simp at z2
 have hnb:∀ k,k < B→some k≠(Value.slice oa ol oc).ownBlock:=fun k hk e=>by have:=(hown.lt k e.symm).1;omega
 have hoX:∀ m,((w.drewN m).setCell ⟨g,lo.length * 4+3,none⟩ (.int .i64 ((nx:Int)+1))).ownsRow B 5 1 (.slice oa ol oc) out.length (Lib.byteCells out):=fun m=>by
  have:=(hup m).2.1
  rw [hnx] at this
  exact this
 have hX0:∀ m k,k≠g→((w.drewN m).setCell ⟨g,lo.length * 4+3,none⟩ (.int .i64 ((nx:Int)+1))).heap[k]? = w.heap[k]?:=fun m k hne=>Below.heap_setCell _ _ _ _ (by simpa using hne)
 have hgX:∀ m i v,i≠3→w.cell? ⟨g,lo.length * 4+i,none⟩=some v→((w.drewN m).setCell ⟨g,lo.length * 4+3,none⟩ (.int .i64 ((nx:Int)+1))).cell? ⟨g,lo.length * 4+i,none⟩=some v:=fun m i v hi hc=>by
  exact (World.cell?_setCell_other _ _ _ _ (by simp <;> omega)).trans hc
 have hbeg:∀ m w1 g1 cap1,(((w.drewN m).setCell ⟨g,lo.length * 4+3,none⟩ (.int .i64 ((nx:Int)+1))).alloc (.cells #[.int .u8 44] 5)).grownBy w1 (Value.slice oa ol oc).ownBlock→w1.ownsRow B 5 1 (.slice (some ⟨g1,0,none⟩) (out.length+1) cap1) (out.length+1) (Lib.byteCells out ++ [.int .u8 44])→Calls Tryz.prog 13 #[.pointer (some ⟨W,0,none⟩),.iface T u] (w1.setCell ⟨W,0,none⟩ (.slice (some ⟨g1,0,none⟩) (out.length+1) cap1)) fun e w'=>e = .returned (.tuple #[])∧StepW B W out (lo ++ [f]) w w':=fun m w1 g1 cap1 hgr hown1=>by
  obtain ⟨u1,u2,u3,u4⟩:=hup m
  rw [hnx] at u1 u2 u3 u4
  have hfr:Fr (fun k=>k=W∨B≤k) w ((w.drewN m).setCell ⟨g,lo.length * 4+3,none⟩ (.int .i64 ((nx:Int)+1))):=((Fr.refl _ w).drewN m).setCell _ (.inl (.inr hgB))
  have k1:Below B ((w.drewN m).setCell ⟨g,lo.length * 4+3,none⟩ (.int .i64 ((nx:Int)+1))) w1:=((Below.refl B _).alloc (by simp;omega) _).grown hgr (by simp;omega) (fun q hq=>(u2.lt q hq).1)
  have hok1:Lib.OthersKept 5 none ((w.drewN m).setCell ⟨g,lo.length * 4+3,none⟩ (.int .i64 ((nx:Int)+1))) w1:=((Lib.OthersKept.refl _ _ _).alloc _).grown hgr (own_kind (u2.alloc _))
  obtain ⟨hws,hf2⟩:=WS.wrote (out:=out) (more:=[44]) (fs:=lo ++ [f.up]) hlt (by simpa using hle) u1 u3 u4 k1 hok1 (by simpa [Lib.byteCells] using hown1)
  have hk2:∀ b,b < W→(w1.setCell ⟨W,0,none⟩ (.slice (some ⟨g1,0,none⟩) (out.length+1) cap1)).heap[b]? = w.heap[b]?:=fun b hbl=>by
   rw [Below.heap_setCell _ _ _ _ (by simp;omega),k1.block b (by omega)]
   exact hX0 m b (by omega)
  refine (wbegin_any hA (v:=(T,u)) (c:=t) (out:=out ++ [44]) (fs:=lo ++ [f.up]) (hvl.mono (fun q hq=>⟨hq,hk2 q hq⟩)) hws (by simp;omega) (by simp;omega) (fun w' h'=>ht w' ?_)).mono ?_
  ·have hbw2:Below W w (w1.setCell ⟨W,0,none⟩ (.slice (some ⟨g1,0,none⟩) (out.length+1) cap1)):=⟨k1.os,k1.tape,k1.output,by have:=k1.size;simp at this ⊢;omega,fun k hk=>hk2 k hk⟩
   exact Below.trans hbw2 (h'.mono (Nat.le_of_lt hlt))
  ·rintro e w' ⟨rfl,hbw⟩
   exact ⟨rfl,StepW.of_begin htx (by rw [if_neg (by omega)]) hbw (hfr.trans hf2 (fun _ _ e=>e))⟩
 have hpost:∀ m w1,(((w.drewN m).setCell ⟨g,lo.length * 4+3,none⟩ (.int .i64 ((nx:Int)+1))).alloc (.cells #[.int .u8 44] 5)).grownBy w1 (Value.slice oa ol oc).ownBlock→w1.heap[W]? = some (.cells #[.slice oa ol oc,.slice (some ⟨g,0,none⟩) (lo.length+1) cap] 53 (0,0))∧w1.cell? ⟨g,lo.length * 4,none⟩=some (.int .u8 93)∧w1.cell? ⟨g,lo.length * 4+1,none⟩=some (.slice (some ⟨a,0,none⟩) L ca)∧w1.cell? ⟨a,nx,none⟩=some (.iface T u):=fun m w1 hgr=>by
  have hs:∀ k,k < w.heap.size→some k≠(Value.slice oa ol oc).ownBlock→w1.heap[k]? = ((w.drewN m).setCell ⟨g,lo.length * 4+3,none⟩ (.int .i64 ((nx:Int)+1))).heap[k]?:=fun k hk hd=>(hgr.block k (by simp;omega) hd).trans ((below_alloc _ _).block k (by simpa using hk))
  refine ⟨(hs W (by omega) (hnb W hlt)).trans ((hX0 m W (by omega)).trans hb),?_,?_,?_⟩
  ·exact (World.cell?_of_block (hs g hgl hgo)).trans (hgX m 0 _ (by omega) e0)
  ·exact (World.cell?_of_block (hs g hgl hgo)).trans (hgX m 1 _ (by omega) e1)
  ·rw [hnx] at hit
   exact (World.cell?_of_block ((hs a (by omega) (hnb a (by omega))).trans (hX0 m a (by omega)))).trans hit
 have HBEG:Aside (∀ m w1 g1 cap1,(((w.drewN m).setCell ⟨g,lo.length * 4+3,none⟩ (.int .i64 ((nx:Int)+1))).alloc (.cells #[.int .u8 44] 5)).grownBy w1 (Value.slice oa ol oc).ownBlock→w1.ownsRow B 5 1 (.slice (some ⟨g1,0,none⟩) (out.length+1) cap1) (out.length+1) (Lib.byteCells out ++ [.int .u8 44])→Calls Tryz.prog 13 #[.pointer (some ⟨W,0,none⟩),.iface T u] (w1.setCell ⟨W,0,none⟩ (.slice (some ⟨g1,0,none⟩) (out.length+1) cap1)) fun e w'=>e = .returned (.tuple #[])∧StepW B W out (lo ++ [f]) w w'):=hbeg
 have HPOST:Aside _:=hpost
 have HOX:Aside (∀ m,((w.drewN m).setCell ⟨g,lo.length * 4+3,none⟩ (.int .i64 ((nx:Int)+1))).ownsRow B 5 1 (.slice oa ol oc) out.length (Lib.byteCells out)):=hoX
 clear hpost hoX hX0 hgX hgo hnb
 rw [hnx] at e3 hit
 clear hbeg hup hcell hfs hfo hfo' hpv hl hn hrow' hvl htx hx hrow hcnt hL ht hown hn0 hnx
 go_enter Tryz.func14,Tryz.ntmps14
 go_wp2_with fail
 go_quiet (fail)
 go_wp2_with fail
 go_quiet (fail)
 go_wp2_with (refine wpList_append_lies _ (by rfl) _ _ _ (by rfl) B 5 i0 _ 1 1 Tryz.underlying50 hi0 hz0 hz1 hz2 rfl (by omega) (.slice oa ol oc) out.length (Lib.byteCells out) (by rfl) ((HOX.out _).alloc _) ⟨w.heap.size,0,none⟩ 1 1 [.int .u8 44] (by rfl) (by rfl) (World.news_of_block (cs:=#[.int .u8 44]) (t:=5) (fr:=(0,0)) (heap_news _ _ (by simp))) (by simp [Value.oneCell']) (by omega) (by unfold maxLen;omega) (by omega) (by simp;omega) (w.heap.size+1) (by simp) ?_;intro g1 cap1 w1 hown1 hgrow1 hat1 hlt1;obtain ⟨hb1,f0,f1,f2⟩:=HPOST.out _ _ hgrow1;obtain ⟨d0,d1,d2,d3,d4⟩:=two_c0 hb1)
 refine Calls.mono (HBEG.out _ _ _ _ hgrow1 hown1) ?_
 rintro e w2 ⟨rfl,hsw⟩
 go_wp2_with fail
 exact bodyPost_ret (v:=.tuple #[]) (by simp [results,Tryz.results14,go_sem]) rfl ⟨rfl,hsw⟩
end Go.Proofs.Tryz
namespace Go.Proofs.Tryz
set_option maxHeartbeats 16000000
open Go.RowKit
set_option maxRecDepth 10000
theorem escs_ge (l:Bys):l.length≤(l.flatMap escB).length:=by
 induction l with
 | nil=>simp
 | cons c l ih =>
  have:=esc_len c
  rw [List.flatMap_cons,List.length_append,List.length_cons]
  omega
theorem step_obj0 (hA:AppendsIntK) {w:World}{B W:Nat}{out:Bys}{lo:List Fm}{f:Fm} (h:WS w B W out (lo ++ [f])) (hn:f.next < f.texts.length) (hn0:f.next=0) (hob:f.obj=true) (ho:out.length≤8000000000) (hlo:lo.length≤1000000000) (hcnt:f.texts.length≤9223372036854775807) (hT:f.rest.length≤1000000000) (ht:Lib.TabBelow Tryz.prog W w "internal/strconv.uint64pow10" .u64 Lib.pow10Tab) :
  Calls Tryz.prog 14 #[.pointer (some ⟨W,0,none⟩)] w fun e w'=>e = .returned (.tuple #[])∧StepW B W out (lo ++ [f]) w w':=by
 obtain ⟨i0,hi0,hz0,hz1,hz2⟩:=info_parts (show (Tryz.prog.info? 5).map (fun i=>(i.zero,i.size,i.bytes))=some (some (.int .u8 0),1,1) by kernel_rfl)
 obtain ⟨hlt,hle,⟨ov,pv,hb,hown,hpv⟩,hfs⟩:=h
 obtain ⟨oa,ol,oc,rfl⟩:=owns_shape hown
 obtain ⟨c0,c1,c2,c3,c4⟩:=two_c0 hb
 obtain ⟨g,cap,rfl,hgB,hcap,hcm,hcell,hfz,hgl⟩:=topF hpv
 have e0:=hcell 0 _ rfl
 have e1:=hcell 1 _ rfl
 have e2:=hcell 2 _ rfl
 have e3:=hcell 3 _ rfl
 simp only [hob,if_true,Nat.add_zero] at e0 e1 e2
 have hl:=texts_len_obj hob
 have hfo:=hfs f (by simp)
 have hfo':=hfo.1
 rw [if_pos (by simp [hob])] at hfo'
 obtain ⟨⟨kx,⟨T,u⟩,t⟩,hx⟩:∃ x,f.ms[f.next]? = some x:=⟨_,List.getElem?_eq_getElem (by omega)⟩
 have htx:f.texts[f.next]? = some (memT (kx.data.toList,t)):=by unfold Fm.texts;rw [hob];simp [hx,elP,elKey]
 obtain ⟨a,ca,hrow⟩:∃ a ca,f.row = .slice (some ⟨a,0,none⟩) f.ms.length ca:=by
  rcases hfo'.1.2 with ⟨_,h0⟩ | ⟨a,ca,cur,e,_⟩
  ·omega
  ·exact ⟨a,ca,e⟩
 have hrow':=hfo'.1
 rw [hrow] at hrow' e2
 obtain ⟨_,hM,_,_,_⟩:=owns_mem hrow'
 obtain ⟨hk0,hk1⟩:=hM.at hx
 simp only [iv] at hk0 hk1
 have haW:a < W:=hfo.2.1 a (by rw [hrow];rfl)
 have hvl:=hfo'.2 _ (List.mem_of_getElem? hx)
 have hup:=fun m=>WS.up (w:=w.drewN m) (out:=out) (f:=f) hlt hle hb hown hpv (fun x hx=>(hfs x hx).keep (fun _ _=>rfl)) hn
 obtain ⟨L,hL⟩:∃ L,f.ms.length=L:=⟨_,rfl⟩
 rw [hL] at e2 hl
 have nag:¬ a=g:=by omega
 have nga:¬ g=a:=by omega
 have ngW:¬ g=W:=by omega
 have nWg:¬ W=g:=by omega
 have naW:¬ a=W:=by omega
 have nWa:¬ W=a:=by omega
 have z0:¬ (0:Int)=(L:Int):=by omega
 have z1:(0:Int) < (L:Int):=by omega
 have z2:L≤9223372036854775807:=by omega
 rw [hn0] at e3 hk0 hk1
 have hks:kx.size≤1000000000:=by
  have h1:=hT
  rw [rest_step htx] at h1
  simp only [memT,quoteL,List.length_append,List.length_cons] at h1
  have h2:=escs_ge kx.data.toList
  have h3:kx.data.toList.length=kx.size:=size_list kx
  omega
 obtain ⟨cg,fzg,hcg⟩:∃ c fz,w.heap[g]? = some (.cells c 104 fz):=own_kind hpv g rfl
 obtain ⟨cm,fzm,hcm2⟩:∃ c fz,w.heap[a]? = some (.cells c 107 fz):=own_kind hrow' a rfl
 have hXg:∀ m,((w.drewN m).setCell ⟨g,lo.length * 4+3,none⟩ (.int .i64 1)).cell? ⟨g,lo.length * 4+2,none⟩=some (.slice (some ⟨a,0,none⟩) L ca):=fun m=>(World.cell?_setCell_other _ _ _ _ (by simp)).trans e2
 have hXk:∀ m w1,Lib.OthersKept 5 none ((w.drewN m).setCell ⟨g,lo.length * 4+3,none⟩ (.int .i64 1)) w1→w1.heap[W]? = some (.cells #[.slice oa ol oc,.slice (some ⟨g,0,none⟩) (lo.length+1) cap] 53 (0,0))∧w1.cell? ⟨g,lo.length * 4+2,none⟩=some (.slice (some ⟨a,0,none⟩) L ca)∧w1.cell? ⟨a,0 * 2,none⟩=some (.string kx)∧w1.cell? ⟨a,0 * 2+1,none⟩=some (.iface T u):=fun m w1 hok=>by
  have hW:((w.drewN m).setCell ⟨g,lo.length * 4+3,none⟩ (.int .i64 1)).heap[W]? = w.heap[W]?:=Below.heap_setCell _ _ _ _ (by simpa using nWg)
  have ha:((w.drewN m).setCell ⟨g,lo.length * 4+3,none⟩ (.int .i64 1)).heap[a]? = w.heap[a]?:=Below.heap_setCell _ _ _ _ (by simpa using nag)
  obtain ⟨c',hg'⟩:∃ c',((w.drewN m).setCell ⟨g,lo.length * 4+3,none⟩ (.int .i64 1)).heap[g]? = some (.cells c' 104 (0,0)):=by
   have:=(hup m).2.2.1
   rw [hn0,List.length_append,List.length_singleton] at this
   rcases this.2 with ⟨e,_⟩ | ⟨_,_,cur,e,_,hb',_⟩
   ·cases e
   ·cases e;exact ⟨cur,hb'⟩
  have kW:=hok W _ (hW.trans hb) (by simp) (fun _ _ e=>by cases e)
  have ka:=hok a _ (ha.trans hcm2) (by simp) (fun _ _ e=>by cases e)
  have kg:=hok g _ hg' (by simp) (fun _ _ e=>by cases e)
  refine ⟨kW,?_,?_,?_⟩
  ·exact (World.cell?_of_block (w:=(w.drewN m).setCell ⟨g,lo.length * 4+3,none⟩ (.int .i64 1)) (kg.trans hg'.symm)).trans (hXg m)
  ·exact (World.cell?_of_block (w:=w) (ka.trans hcm2.symm)).trans hk0
  ·exact (World.cell?_of_block (w:=w) (ka.trans hcm2.symm)).trans hk1
 have hfin:∀ m w1 v',Below B ((w.drewN m).setCell ⟨g,lo.length * 4+3,none⟩ (.int .i64 1)) w1→Lib.OthersKept 5 none ((w.drewN m).setCell ⟨g,lo.length * 4+3,none⟩ (.int .i64 1)) w1→w1.ownsRow B 5 1 v' (out.length+(quoteL kx.data.toList).length) (Lib.byteCells out ++ Lib.byteCells (quoteL kx.data.toList))→∀ w2 g2 cap2,((w1.setCell ⟨W,0,none⟩ v').alloc (.cells #[.int .u8 58] 5)).grownBy w2 v'.ownBlock→w2.ownsRow B 5 1 (.slice (some ⟨g2,0,none⟩) (out.length+(quoteL kx.data.toList).length+1) cap2) (out.length+(quoteL kx.data.toList).length+1) (Lib.byteCells out ++ Lib.byteCells (quoteL kx.data.toList) ++ [.int .u8 58])→
   (w2.heap[W]? = some (.cells #[v',.slice (some ⟨g,0,none⟩) (lo.length+1) cap] 53 (0,0))∧w2.cell? ⟨g,lo.length * 4+2,none⟩=some (.slice (some ⟨a,0,none⟩) L ca)∧w2.cell? ⟨a,0 * 2+1,none⟩=some (.iface T u))∧Calls Tryz.prog 13 #[.pointer (some ⟨W,0,none⟩),.iface T u] (w2.setCell ⟨W,0,none⟩ (.slice (some ⟨g2,0,none⟩) (out.length+(quoteL kx.data.toList).length+1) cap2)) fun e w'=>e = .returned (.tuple #[])∧StepW B W out (lo ++ [f]) w w':=fun m w1 v' k1 hok1 hown1 w2 g2 cap2 hgr hown2=>by
  obtain ⟨u1,u2,u3,u4⟩:=hup m
  rw [hn0] at u1 u2 u3 u4
  obtain ⟨x1,x2,x3,x4⟩:=hXk m w1 hok1
  obtain ⟨hws1,hf1⟩:=WS.wrote (out:=out) (more:=quoteL kx.data.toList) (fs:=lo ++ [f.up]) hlt (by simpa using hle) u1 u3 u4 k1 hok1 hown1
  obtain ⟨_,hle1,⟨ov1,pv1,b1,o1,p1⟩,ok1⟩:=hws1
  have hsz1:=k1.size
  simp at hsz1
  have b1':=two_set0 (u:=v') x1
  rw [b1] at b1'
  cases b1'
  have k2:Below B (w1.setCell ⟨W,0,none⟩ v') w2:=((Below.refl B _).alloc (by simp;omega) _).grown hgr (by simp;omega) (fun q hq=>(o1.lt q hq).1)
  have hok2:Lib.OthersKept 5 none (w1.setCell ⟨W,0,none⟩ v') w2:=((Lib.OthersKept.refl _ _ _).alloc _).grown hgr (own_kind (o1.alloc _))
  obtain ⟨hws2,hf2⟩:=WS.wrote (out:=out ++ quoteL kx.data.toList) (more:=[58]) (fs:=lo ++ [f.up]) hlt hle1 b1 p1 ok1 k2 hok2 (by rw [List.length_append,byteCells_append];simpa [Lib.byteCells] using hown2)
  have hfr:Fr (fun k=>k=W∨B≤k) w ((w.drewN m).setCell ⟨g,lo.length * 4+3,none⟩ (.int .i64 1)):=((Fr.refl _ w).drewN m).setCell _ (.inl (.inr hgB))
  have hk2:∀ b,b < W→(w2.setCell ⟨W,0,none⟩ (.slice (some ⟨g2,0,none⟩) (out.length+(quoteL kx.data.toList).length+1) cap2)).heap[b]? = w.heap[b]?:=fun b hbl=>by
   rw [Below.heap_setCell _ _ _ _ (by simp;omega),k2.block b (by omega),Below.heap_setCell _ _ _ _ (by simp;omega),k1.block b (by omega)]
   exact Below.heap_setCell _ _ _ _ (by simp;omega)
  have hg1:∃ c,(w1.setCell ⟨W,0,none⟩ v').heap[g]? = some (.cells c 104 (0,0)):=by
   have p1':=p1
   rw [List.length_append,List.length_singleton] at p1'
   rcases p1'.2 with ⟨e,_⟩ | ⟨_,_,cur,e,_,hb',_⟩
   ·cases e
   ·cases e;exact ⟨cur,hb'⟩
  obtain ⟨cg1,hg1⟩:=hg1
  refine ⟨⟨(k2.block W hlt).trans b1,?_,?_⟩,?_⟩
  ·have kg:=hok2 g _ hg1 (by simp) (fun _ _ e=>by cases e)
   exact (World.cell?_of_block (w:=w1.setCell ⟨W,0,none⟩ v') (kg.trans hg1.symm)).trans ((World.cell?_of_block (w:=w1) (Below.heap_setCell _ _ _ _ (by simpa using ngW))).trans x2)
  ·exact (World.cell?_of_block (w:=w1) ((k2.block a (by omega)).trans (Below.heap_setCell _ _ _ _ (by simpa using naW)))).trans x4
  ·have hw3:Below W w (w2.setCell ⟨W,0,none⟩ (.slice (some ⟨g2,0,none⟩) (out.length+(quoteL kx.data.toList).length+1) cap2)):=⟨k2.os.trans k1.os,k2.tape.trans k1.tape,k2.output.trans k1.output,by have:=k2.size;simp at this ⊢;omega,fun k hk=>hk2 k hk⟩
   have hql:(quoteL kx.data.toList).length≤1000000000:=by
    have h1:=hT
    rw [rest_step htx] at h1
    simp only [memT,List.length_append,List.length_cons] at h1
    omega
   refine (wbegin_any hA (v:=(T,u)) (c:=t) (out:=(out ++ quoteL kx.data.toList) ++ [58]) (fs:=lo ++ [f.up]) (hvl.mono (fun q hq=>⟨hq,hk2 q hq⟩)) hws2 (by simp;omega) (by simp;omega) (fun w' h'=>ht w' (Below.trans hw3 (h'.mono (Nat.le_of_lt hlt))))).mono ?_
   rintro e w' ⟨rfl,⟨⟨out',new,h1,h2,h3⟩,h4⟩⟩
   refine ⟨rfl,⟨⟨out',_,h1,?_,?_⟩,((hfr.trans hf1 (fun _ _ e=>e)).trans hf2 (fun _ _ e=>e)).trans h4 (fun _ _ e=>e)⟩⟩
   ·rw [h2,restAll_app,restAll_app,rest_step htx]
    simp [hn0,memT]
   ·simp only [List.length_append] at h3
    omega
 have HFIN:Aside _:=hfin
 have HXK:Aside _:=hXk
 have HUP:Aside _:=hup
 have hoX:∀ m,((w.drewN m).setCell ⟨g,lo.length * 4+3,none⟩ (.int .i64 1)).ownsRow B 5 1 (.slice oa ol oc) out.length (Lib.byteCells out):=fun m=>by have:=(hup m).2.1;rw [hn0] at this;exact this
 have HOX:Aside _:=hoX
 have HKS:Aside _:=hks
 have hql:(quoteL kx.data.toList).length≤1000000000:=by
  have h1:=hT
  rw [rest_step htx] at h1
  simp only [memT,List.length_append,List.length_cons] at h1
  omega
 have HQL:Aside _:=hql
 clear hql
 clear hfin hXk hXg hcg hcm2 hoX hks hT hup hcell hfs hfo hfo' hpv hl hn hrow' hvl htx hx hrow hcnt hL ht hn0 hM
 go_enter Tryz.func14,Tryz.ntmps14
 go_wp2_with fail
 go_quiet (fail)
 go_wp2_with fail
 go_quiet (fail)
 go_wp2_with fail
 go_region_with ((go_at_call 33;refine (appendString_any (B:=B) (out:=out) kx (by have:=HKS.out;omega) ?_ ?_ (by omega)).mono ?_;(first | exact HOX.out _ | exact (World.ownsRow.drew (HOX.out _)));(first | (simp;omega) | omega);rintro e w1 ⟨v',rfl,hown1,k1,hok1⟩;obtain ⟨a',l',c',rfl⟩:=owns_shape hown1;obtain ⟨hb1,f0,f1,f2⟩:=HXK.out _ w1 hok1;obtain ⟨d0,d1,d2,d3,d4⟩:=two_c0 hb1))
 all_goals
  go_wp2_with (refine wpList_append_lies _ (by rfl) _ _ _ (by rfl) B 5 i0 _ 1 1 Tryz.underlying50 hi0 hz0 hz1 hz2 rfl (by omega) (.slice a' l' c') (out.length+(quoteL kx.data.toList).length) (Lib.byteCells out ++ Lib.byteCells (quoteL kx.data.toList)) (by rfl) ((owns_off hown1 hlt).alloc _) ⟨w1.heap.size,0,none⟩ 1 1 [.int .u8 58] (by rfl) (by rfl) (World.news_of_block (cs:=#[.int .u8 58]) (t:=5) (fr:=(0,0)) (heap_news _ _ (by simp))) (by simp [Value.oneCell']) (by omega) (by have:=HQL.out;unfold maxLen;omega) (by have:=HQL.out;omega) (by have:=k1.size;simp at this ⊢;omega) (w1.heap.size+1) (by simp) ?_;intro g2 cap2 w2 hown2 hgrow2 hat2 hlt2;obtain ⟨⟨y1,y2,y3⟩,hcb⟩:=HFIN.out _ w1 _ ((belowD _ _ 1).trans k1) hok1 hown1 w2 g2 cap2 hgrow2 hown2;have HCB:Aside _:=hcb;clear hcb;obtain ⟨q0,q1,q2,q3,q4⟩:=two_c0 y1)
  refine Calls.mono HCB.out ?_
  rintro e w3 ⟨rfl,hsw⟩
  go_wp2_with fail
  go_end0
  exact ⟨rfl,hsw⟩
end Go.Proofs.Tryz
namespace Go.Proofs.Tryz
set_option maxHeartbeats 16000000
open Go.RowKit
set_option maxRecDepth 10000
theorem Fr.belowW {w Y:World}{B W:Nat} (hlt:W < B) (hle:B≤w.heap.size) (h:Fr (fun k=>k=W∨B≤k) w Y):Below W w Y :=
 ⟨h.os,h.tape,h.output,h.size,fun k hk=>h.block k (by omega) (by rintro (e | e) <;> omega)⟩
theorem tail_obj (hA:AppendsIntK) {w Y:World}{B W g cap a ca nx:Nat}{out out1:Bys}{lo:List Fm}{f:Fm}{ov:Value}{kx:ByteArray}{T:TypeId}{u:Value}{t:Bys} (hlt:W < B) (hle0:B≤w.heap.size) (hle:B≤Y.heap.size) (u1:Y.heap[W]? = some (.cells #[ov,.slice (some ⟨g,0,none⟩) (lo.length+1) cap] 53 (0,0))) (u3:Y.ownsRow B 104 4 (.slice (some ⟨g,0,none⟩) (lo.length+1) cap) (lo ++ [f.up]).length ((lo ++ [f.up]).flatMap Fm.cells)) (u4:∀ x∈lo ++ [f.up],FOk Y W x) (hx:f.ms[nx]? = some (kx,(T,u),t)) (hnx:f.next=nx) (hob:f.obj=true) (hrow:f.row = .slice (some ⟨a,0,none⟩) f.ms.length ca) (h1:out1=out ++ (if f.next=0 then [] else [44])) (ho:out1.length≤8000000001) (hlo:lo.length≤1000000000) (hT:f.rest.length≤1000000000) (hfr:Fr (fun k=>k=W∨B≤k) w Y) (ht:Lib.TabBelow Tryz.prog W w "internal/strconv.uint64pow10" .u64 Lib.pow10Tab) :
  (∀ w1,Lib.OthersKept 5 none Y w1→w1.heap[W]? = some (.cells #[ov,.slice (some ⟨g,0,none⟩) (lo.length+1) cap] 53 (0,0))∧w1.cell? ⟨g,lo.length * 4+2,none⟩=some (.slice (some ⟨a,0,none⟩) f.ms.length ca)∧w1.cell? ⟨a,nx * 2,none⟩=some (.string kx)∧w1.cell? ⟨a,nx * 2+1,none⟩=some (.iface T u))∧
  (∀ w1 v',Below B Y w1→Lib.OthersKept 5 none Y w1→w1.ownsRow B 5 1 v' (out1.length+(quoteL kx.data.toList).length) (Lib.byteCells out1 ++ Lib.byteCells (quoteL kx.data.toList))→∀ w2 g2 cap2,((w1.setCell ⟨W,0,none⟩ v').alloc (.cells #[.int .u8 58] 5)).grownBy w2 v'.ownBlock→w2.ownsRow B 5 1 (.slice (some ⟨g2,0,none⟩) (out1.length+(quoteL kx.data.toList).length+1) cap2) (out1.length+(quoteL kx.data.toList).length+1) (Lib.byteCells out1 ++ Lib.byteCells (quoteL kx.data.toList) ++ [.int .u8 58])→
   (w2.heap[W]? = some (.cells #[v',.slice (some ⟨g,0,none⟩) (lo.length+1) cap] 53 (0,0))∧w2.cell? ⟨g,lo.length * 4+2,none⟩=some (.slice (some ⟨a,0,none⟩) f.ms.length ca)∧w2.cell? ⟨a,nx * 2+1,none⟩=some (.iface T u))∧Calls Tryz.prog 13 #[.pointer (some ⟨W,0,none⟩),.iface T u] (w2.setCell ⟨W,0,none⟩ (.slice (some ⟨g2,0,none⟩) (out1.length+(quoteL kx.data.toList).length+1) cap2)) fun e w'=>e = .returned (.tuple #[])∧StepW B W out (lo ++ [f]) w w')∧
  (quoteL kx.data.toList).length≤1000000000∧kx.size≤1000000000:=by
 have hYW:=hfr.belowW hlt hle0
 obtain ⟨g',cap',e',hgB,hcap,hcm,hcell,hfz,hgl⟩:=topF u3
 cases e'
 have e2:=hcell 2 _ rfl
 have hfo:=u4 f.up (by simp)
 have hfo':=hfo.1
 rw [if_pos (by simpa [Fm.up] using hob)] at hfo'
 have hfo1:Y.ownsRow 0 107 2 f.row f.ms.length (f.ms.flatMap elC):=hfo'.1
 have hfo2:∀ x∈f.ms,Vl Y (· < W) x.2.1 x.2.2:=hfo'.2
 have e2':Y.cell? ⟨g,lo.length * 4+2,none⟩=some (.slice (some ⟨a,0,none⟩) f.ms.length ca):=by
  have:=e2
  simp only [Fm.up,hob,if_true] at this
  rw [this,hrow]
 have htx:f.texts[f.next]? = some (memT (kx.data.toList,t)):=by unfold Fm.texts;rw [hob,hnx];simp [hx,elP,elKey]
 have haW:a < W:=hfo.2.1 a (by show f.row.ownBlock=_;rw [hrow];rfl)
 rw [hrow] at hfo1
 obtain ⟨_,hM,_,_,_⟩:=owns_mem hfo1
 obtain ⟨hk0,hk1⟩:=hM.at hx
 simp only [iv] at hk0 hk1
 have hvl:=hfo2 _ (List.mem_of_getElem? hx)
 obtain ⟨cm,fzm,hcm2⟩:∃ c fz,Y.heap[a]? = some (.cells c 107 fz):=own_kind hfo1 a rfl
 obtain ⟨cg,fzg,hcg⟩:∃ c fz,Y.heap[g]? = some (.cells c 104 fz):=own_kind u3 g rfl
 have hlens:(quoteL kx.data.toList).length≤1000000000:=by
  have h1:=hT
  rw [rest_step htx] at h1
  simp only [memT,List.length_append,List.length_cons] at h1
  omega
 have hks:kx.size≤1000000000:=by
  have h1:=hlens
  simp only [quoteL,List.length_append,List.length_cons] at h1
  have h2:=escs_ge kx.data.toList
  have h3:kx.data.toList.length=kx.size:=size_list kx
  omega
 have hXk:∀ w1,Lib.OthersKept 5 none Y w1→w1.heap[W]? = some (.cells #[ov,.slice (some ⟨g,0,none⟩) (lo.length+1) cap] 53 (0,0))∧w1.cell? ⟨g,lo.length * 4+2,none⟩=some (.slice (some ⟨a,0,none⟩) f.ms.length ca)∧w1.cell? ⟨a,nx * 2,none⟩=some (.string kx)∧w1.cell? ⟨a,nx * 2+1,none⟩=some (.iface T u):=fun w1 hok=>by
  have kW:=hok W _ u1 (by simp) (fun _ _ e=>by cases e)
  have ka:=hok a _ hcm2 (by simp) (fun _ _ e=>by cases e)
  have kg:=hok g _ hcg (by simp) (fun _ _ e=>by cases e)
  refine ⟨kW,?_,?_,?_⟩
  ·exact (World.cell?_of_block (w:=Y) (kg.trans hcg.symm)).trans e2'
  ·exact (World.cell?_of_block (w:=Y) (ka.trans hcm2.symm)).trans hk0
  ·exact (World.cell?_of_block (w:=Y) (ka.trans hcm2.symm)).trans hk1
 refine ⟨hXk,fun w1 v' k1 hok1 hown1 w2 g2 cap2 hgr hown2=>?_,hlens,hks⟩
 obtain ⟨x1,x2,x3,x4⟩:=hXk w1 hok1
 obtain ⟨hws1,hf1⟩:=WS.wrote (out:=out1) (more:=quoteL kx.data.toList) (fs:=lo ++ [f.up]) hlt hle u1 u3 u4 k1 hok1 hown1
 obtain ⟨_,hle1,⟨ov1,pv1,b1,o1,p1⟩,ok1⟩:=hws1
 have hsz1:=k1.size
 have b1':=two_set0 (u:=v') x1
 rw [b1] at b1'
 cases b1'
 have k2:Below B (w1.setCell ⟨W,0,none⟩ v') w2:=((Below.refl B _).alloc (by simp;omega) _).grown hgr (by simp;omega) (fun q hq=>(o1.lt q hq).1)
 have hok2:Lib.OthersKept 5 none (w1.setCell ⟨W,0,none⟩ v') w2:=((Lib.OthersKept.refl _ _ _).alloc _).grown hgr (own_kind (o1.alloc _))
 obtain ⟨hws2,hf2⟩:=WS.wrote (out:=out1 ++ quoteL kx.data.toList) (more:=[58]) (fs:=lo ++ [f.up]) hlt hle1 b1 p1 ok1 k2 hok2 (by rw [List.length_append,byteCells_append];simpa [Lib.byteCells] using hown2)
 have hk2:∀ b,b < W→(w2.setCell ⟨W,0,none⟩ (.slice (some ⟨g2,0,none⟩) (out1.length+(quoteL kx.data.toList).length+1) cap2)).heap[b]? = Y.heap[b]?:=fun b hbl=>by
  rw [Below.heap_setCell _ _ _ _ (by simp;omega),k2.block b (by omega),Below.heap_setCell _ _ _ _ (by simp;omega),k1.block b (by omega)]
 obtain ⟨cg1,fz1,hg1⟩:∃ c fz,(w1.setCell ⟨W,0,none⟩ v').heap[g]? = some (.cells c 104 fz):=own_kind p1 g rfl
 refine ⟨⟨(k2.block W hlt).trans b1,?_,?_⟩,?_⟩
 ·have kg:=hok2 g _ hg1 (by simp) (fun _ _ e=>by cases e)
  exact (World.cell?_of_block (w:=w1.setCell ⟨W,0,none⟩ v') (kg.trans hg1.symm)).trans ((World.cell?_of_block (w:=w1) (Below.heap_setCell _ _ _ _ (by simp;omega))).trans x2)
 ·exact (World.cell?_of_block (w:=w1) ((k2.block a (by omega)).trans (Below.heap_setCell _ _ _ _ (by simp;omega)))).trans x4
 ·have hw3:Below W w (w2.setCell ⟨W,0,none⟩ (.slice (some ⟨g2,0,none⟩) (out1.length+(quoteL kx.data.toList).length+1) cap2)):=⟨(k2.os.trans k1.os).trans hYW.os,(k2.tape.trans k1.tape).trans hYW.tape,(k2.output.trans k1.output).trans hYW.output,by have:=k2.size;have:=hYW.size;simp at *;omega,fun k hk=>(hk2 k hk).trans (hYW.block k hk)⟩
  refine (wbegin_any hA (v:=(T,u)) (c:=t) (out:=(out1 ++ quoteL kx.data.toList) ++ [58]) (fs:=lo ++ [f.up]) (hvl.mono (fun q hq=>⟨hq,hk2 q hq⟩)) hws2 (by simp;omega) (by simp;omega) (fun w' h'=>ht w' (Below.trans hw3 (h'.mono (Nat.le_of_lt hlt))))).mono ?_
  rintro e w' ⟨rfl,⟨⟨out',new,r1,r2,r3⟩,r4⟩⟩
  refine ⟨rfl,⟨⟨out',_,r1,?_,?_⟩,((hfr.trans hf1 (fun _ _ e=>e)).trans hf2 (fun _ _ e=>e)).trans r4 (fun _ _ e=>e)⟩⟩
  ·rw [r2,restAll_app,restAll_app,rest_step htx,h1]
   simp [memT]
  ·rw [h1] at r3
   simp only [List.length_append] at r3
   omega
theorem step_objN (hA:AppendsIntK) {w:World}{B W:Nat}{out:Bys}{lo:List Fm}{f:Fm} (h:WS w B W out (lo ++ [f])) (hn:f.next < f.texts.length) (hn0:0 < f.next) (hob:f.obj=true) (ho:out.length≤8000000000) (hlo:lo.length≤1000000000) (hcnt:f.texts.length≤9223372036854775807) (hT:f.rest.length≤1000000000) (ht:Lib.TabBelow Tryz.prog W w "internal/strconv.uint64pow10" .u64 Lib.pow10Tab) :
  Calls Tryz.prog 14 #[.pointer (some ⟨W,0,none⟩)] w fun e w'=>e = .returned (.tuple #[])∧StepW B W out (lo ++ [f]) w w':=by
 obtain ⟨i0,hi0,hz0,hz1,hz2⟩:=info_parts (show (Tryz.prog.info? 5).map (fun i=>(i.zero,i.size,i.bytes))=some (some (.int .u8 0),1,1) by kernel_rfl)
 obtain ⟨hlt,hle,⟨ov,pv,hb,hown,hpv⟩,hfs⟩:=h
 obtain ⟨oa,ol,oc,rfl⟩:=owns_shape hown
 obtain ⟨c0,c1,c2,c3,c4⟩:=two_c0 hb
 obtain ⟨g,cap,rfl,hgB,hcap,hcm,hcell,hfz,hgl⟩:=topF hpv
 have e0:=hcell 0 _ rfl
 have e1:=hcell 1 _ rfl
 have e2:=hcell 2 _ rfl
 have e3:=hcell 3 _ rfl
 simp only [hob,if_true,Nat.add_zero] at e0 e1 e2
 have hl:=texts_len_obj hob
 have hfo:=hfs f (by simp)
 have hfo':=hfo.1
 rw [if_pos (by simp [hob])] at hfo'
 obtain ⟨⟨kx,⟨T,u⟩,t⟩,hx⟩:∃ x,f.ms[f.next]? = some x:=⟨_,List.getElem?_eq_getElem (by omega)⟩
 obtain ⟨a,ca,hrow⟩:∃ a ca,f.row = .slice (some ⟨a,0,none⟩) f.ms.length ca:=by
  rcases hfo'.1.2 with ⟨_,h0⟩ | ⟨a,ca,cur,e,_⟩
  ·omega
  ·exact ⟨a,ca,e⟩
 rw [hrow] at e2
 have haW:a < W:=hfo.2.1 a (by rw [hrow];rfl)
 have hrow':=hfo'.1
 rw [hrow] at hrow'
 obtain ⟨_,hM,_,_,_⟩:=owns_mem hrow'
 obtain ⟨hk0,hk1⟩:=hM.at hx
 simp only [iv] at hk0 hk1
 have hup:=fun m=>WS.up (w:=w.drewN m) (out:=out) (f:=f) hlt hle hb hown hpv (fun x hx=>(hfs x hx).keep (fun _ _=>rfl)) hn
 have nag:¬ a=g:=by omega
 have nga:¬ g=a:=by omega
 have ngW:¬ g=W:=by omega
 have nWg:¬ W=g:=by omega
 have naW:¬ a=W:=by omega
 have nWa:¬ W=a:=by omega
 obtain ⟨nx,hnx⟩:∃ nx,f.next=nx:=⟨_,rfl⟩
 have hgo:some g≠(Value.slice oa ol oc).ownBlock:=fun e=>by
  obtain ⟨x1,y1,z1⟩:=own_kind hown g e.symm
  obtain ⟨x2,y2,z2⟩:=own_kind hpv g rfl
  rw [z1] at z2
  simp at z2
 have hnb:∀ k,k < B→some k≠(Value.slice oa ol oc).ownBlock:=fun k hk e=>by have:=(hown.lt k e.symm).1;omega
 have hoX:∀ m,((w.drewN m).setCell ⟨g,lo.length * 4+3,none⟩ (.int .i64 ((nx:Int)+1))).ownsRow B 5 1 (.slice oa ol oc) out.length (Lib.byteCells out):=fun m=>by
  have:=(hup m).2.1
  rw [hnx] at this
  exact this
 have hX0:∀ m k,k≠g→((w.drewN m).setCell ⟨g,lo.length * 4+3,none⟩ (.int .i64 ((nx:Int)+1))).heap[k]? = w.heap[k]?:=fun m k hne=>Below.heap_setCell _ _ _ _ (by simpa using hne)
 have hgX:∀ m i v,i≠3→w.cell? ⟨g,lo.length * 4+i,none⟩=some v→((w.drewN m).setCell ⟨g,lo.length * 4+3,none⟩ (.int .i64 ((nx:Int)+1))).cell? ⟨g,lo.length * 4+i,none⟩=some v:=fun m i v hi hc=>by
  exact (World.cell?_setCell_other _ _ _ _ (by simp <;> omega)).trans hc
 have hlen1:(out ++ [44]).length=out.length+1:=by simp
 have hpost:∀ m w1 g1 cap1,(((w.drewN m).setCell ⟨g,lo.length * 4+3,none⟩ (.int .i64 ((nx:Int)+1))).alloc (.cells #[.int .u8 44] 5)).grownBy w1 (Value.slice oa ol oc).ownBlock→w1.ownsRow B 5 1 (.slice (some ⟨g1,0,none⟩) (out.length+1) cap1) (out.length+1) (Lib.byteCells out ++ [.int .u8 44])→
   (w1.heap[W]? = some (.cells #[.slice oa ol oc,.slice (some ⟨g,0,none⟩) (lo.length+1) cap] 53 (0,0))∧w1.cell? ⟨g,lo.length * 4,none⟩=some (.int .u8 125)∧w1.cell? ⟨g,lo.length * 4+2,none⟩=some (.slice (some ⟨a,0,none⟩) f.ms.length ca)∧w1.cell? ⟨a,nx * 2,none⟩=some (.string kx)∧w1.cell? ⟨a,nx * 2+1,none⟩=some (.iface T u)):=fun m w1 g1 cap1 hgr hown1=>by
  have hs:∀ k,k < w.heap.size→some k≠(Value.slice oa ol oc).ownBlock→w1.heap[k]? = ((w.drewN m).setCell ⟨g,lo.length * 4+3,none⟩ (.int .i64 ((nx:Int)+1))).heap[k]?:=fun k hk hd=>(hgr.block k (by simp;omega) hd).trans ((below_alloc _ _).block k (by simpa using hk))
  refine ⟨(hs W (by omega) (hnb W hlt)).trans ((hX0 m W (by omega)).trans hb),?_,?_,?_,?_⟩
  ·exact (World.cell?_of_block (hs g hgl hgo)).trans (hgX m 0 _ (by omega) e0)
  ·exact (World.cell?_of_block (hs g hgl hgo)).trans (hgX m 2 _ (by omega) e2)
  ·rw [hnx] at hk0
   exact (World.cell?_of_block ((hs a (by omega) (hnb a (by omega))).trans (hX0 m a (by omega)))).trans hk0
  ·rw [hnx] at hk1
   exact (World.cell?_of_block ((hs a (by omega) (hnb a (by omega))).trans (hX0 m a (by omega)))).trans hk1
 have htail:∀ m w1 g1 cap1,(((w.drewN m).setCell ⟨g,lo.length * 4+3,none⟩ (.int .i64 ((nx:Int)+1))).alloc (.cells #[.int .u8 44] 5)).grownBy w1 (Value.slice oa ol oc).ownBlock→w1.ownsRow B 5 1 (.slice (some ⟨g1,0,none⟩) (out.length+1) cap1) (out.length+1) (Lib.byteCells out ++ [.int .u8 44])→
   ((w1.setCell ⟨W,0,none⟩ (.slice (some ⟨g1,0,none⟩) (out.length+1) cap1)).ownsRow B 5 1 (.slice (some ⟨g1,0,none⟩) (out.length+1) cap1) (out ++ [44]).length (Lib.byteCells (out ++ [44]))∧B≤w1.heap.size)∧_:=fun m w1 g1 cap1 hgr hown1=>by
  obtain ⟨u1,u2,u3,u4⟩:=hup m
  rw [hnx] at u1 u2 u3 u4
  have hfr:Fr (fun k=>k=W∨B≤k) w ((w.drewN m).setCell ⟨g,lo.length * 4+3,none⟩ (.int .i64 ((nx:Int)+1))):=((Fr.refl _ w).drewN m).setCell _ (.inl (.inr hgB))
  have k1:Below B ((w.drewN m).setCell ⟨g,lo.length * 4+3,none⟩ (.int .i64 ((nx:Int)+1))) w1:=((Below.refl B _).alloc (by simp;omega) _).grown hgr (by simp;omega) (fun q hq=>(u2.lt q hq).1)
  have hok1:Lib.OthersKept 5 none ((w.drewN m).setCell ⟨g,lo.length * 4+3,none⟩ (.int .i64 ((nx:Int)+1))) w1:=((Lib.OthersKept.refl _ _ _).alloc _).grown hgr (own_kind (u2.alloc _))
  obtain ⟨hws,hf2⟩:=WS.wrote (out:=out) (more:=[44]) (fs:=lo ++ [f.up]) hlt (by simpa using hle) u1 u3 u4 k1 hok1 (by simpa [Lib.byteCells] using hown1)
  obtain ⟨_,hle1,⟨ov1,pv1,b1,o1,p1⟩,ok1⟩:=hws
  have b1':=two_set0 (u:=.slice (some ⟨g1,0,none⟩) (out.length+1) cap1) ((hpost m w1 g1 cap1 hgr hown1).1)
  rw [b1] at b1'
  cases b1'
  exact ⟨⟨o1,by simpa using hle1⟩,tail_obj hA (out:=out) (out1:=out ++ [44]) hlt hle hle1 b1 p1 ok1 (by rw [← hnx];exact hx) hnx hob hrow (by rw [if_neg (by omega)]) (by simp;omega) hlo hT (hfr.trans hf2 (fun _ _ e=>e)) ht⟩
 obtain ⟨L,hL⟩:∃ L,f.ms.length=L:=⟨_,rfl⟩
 rw [hL] at e2 hl
 have z0:¬ (nx:Int)=(L:Int):=by omega
 have z1:(nx:Int) < (L:Int):=by omega
 have z2:L≤9223372036854775807:=by omega
 have z3:(0:Int) < (nx:Int):=by omega
 have z4:(0:Int)≤(nx:Int):=by omega
 rw [hnx] at e3 hk0 hk1
 obtain ⟨o1,ho1⟩:∃ o1,out ++ [44]=o1:=⟨_,rfl⟩
 have hl1:o1.length=out.length+1:=by rw [← ho1,hlen1]
 simp only [hL] at hpost
 simp only [hL,ho1] at htail
 have HL1:Hid (o1.length=out.length+1):=hl1
 clear hl1 ho1
 have HPOST:Aside _:=hpost
 have HTAIL:Aside _:=htail
 have HOX:Aside _:=hoX
 clear hpost htail hoX hX0 hgX hgo hnb hup hcell hfs hfo hfo' hpv hl hn hrow' hx hrow hcnt hL ht hown hn0 hnx hM hT hlen1
 go_enter Tryz.func14,Tryz.ntmps14
 go_wp2_with fail
 go_quiet (fail)
 go_wp2_with fail
 go_quiet (fail)
 go_wp2_with (refine wpList_append_lies _ (by rfl) _ _ _ (by rfl) B 5 i0 _ 1 1 Tryz.underlying50 hi0 hz0 hz1 hz2 rfl (by omega) (.slice oa ol oc) out.length (Lib.byteCells out) (by rfl) ((HOX.out _).alloc _) ⟨w.heap.size,0,none⟩ 1 1 [.int .u8 44] (by rfl) (by rfl) (World.news_of_block (cs:=#[.int .u8 44]) (t:=5) (fr:=(0,0)) (heap_news _ _ (by simp))) (by simp [Value.oneCell']) (by omega) (by unfold maxLen;omega) (by omega) (by simp;omega) (w.heap.size+1) (by simp) ?_;intro g1 cap1 w1 hown1 hgrow1 hat1 hlt1;obtain ⟨hb1,f0,f1,f2,f3⟩:=HPOST.out _ _ _ _ hgrow1 hown1;obtain ⟨d0,d1,d2,d3,d4⟩:=two_c0 hb1;have HT2:Aside _:=HTAIL.out _ _ _ _ hgrow1 hown1)
 have hBw:=HT2.out.1.2
 go_region_with ((go_at_call 33;refine (appendString_any (B:=B) (out:=o1) kx (by have:=HT2.out.2.2.2.2;omega) ?_ ?_ (by have:=HL1.out;omega)).mono ?_;(first | exact HT2.out.1.1 | exact (World.ownsRow.drew HT2.out.1.1));(first | (simp;omega) | omega);rintro e w2 ⟨v',rfl,hown2,k2,hok2⟩;obtain ⟨a',l',c',rfl⟩:=owns_shape hown2;obtain ⟨hb2,q0,q1,q2⟩:=HT2.out.2.1 w2 hok2;obtain ⟨r0,r1,r2,r3,r4⟩:=two_c0 hb2))
 all_goals
  go_wp2_with (refine wpList_append_lies _ (by rfl) _ _ _ (by rfl) B 5 i0 _ 1 1 Tryz.underlying50 hi0 hz0 hz1 hz2 rfl (by omega) (.slice a' l' c') (o1.length+(quoteL kx.data.toList).length) (Lib.byteCells o1 ++ Lib.byteCells (quoteL kx.data.toList)) (by rfl) ((owns_off hown2 hlt).alloc _) ⟨w2.heap.size,0,none⟩ 1 1 [.int .u8 58] (by rfl) (by rfl) (World.news_of_block (cs:=#[.int .u8 58]) (t:=5) (fr:=(0,0)) (heap_news _ _ (by simp))) (by simp [Value.oneCell']) (by omega) (by have:=HT2.out.2.2.2.1;have:=HL1.out;unfold maxLen;omega) (by have:=HT2.out.2.2.2.1;have:=HL1.out;omega) (by have:=k2.size;simp at this ⊢;omega) (w2.heap.size+1) (by simp) ?_;intro g2 cap2 w3 hown3 hgrow3 hat3 hlt3;obtain ⟨⟨y1,y2,y3⟩,hcb⟩:=HT2.out.2.2.1 w2 _ ((belowD _ _ 1).trans k2) hok2 hown2 w3 g2 cap2 hgrow3 hown3;have HCB:Aside _:=hcb;clear hcb;obtain ⟨p0,p1,p2,p3,p4⟩:=two_c0 y1)
  refine Calls.mono HCB.out ?_
  rintro e w4 ⟨rfl,hsw⟩
  go_wp2_with fail
  go_end0
  exact ⟨rfl,hsw⟩
end Go.Proofs.Tryz
