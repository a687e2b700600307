import Derived.Test.YtbhajhlhgbnhbaaGreatDoorFz3
import Derived.Test.YtbhajhlhgbnhbaaGreatDoorFl5
set_option linter.all false
namespace Go.Proofs.Tryz
set_option maxHeartbeats 16000000
open Go.RowKit
set_option maxRecDepth 10000
def PathO (w:World):Option (List IV)→Option Addr→Prop
 | none,q=>q=none
 | some rs,q=>PathIs w rs (.pointer q)
def PathP (o:Option (List IV)):SP:=fun w s=>PathO w o s.2
def olen (o:Option (List IV)):Nat:=match o with | none=>0 | some rs=>rs.length
theorem grown_new {w:World}{rs:List IV}{q:Option Addr}{s:IV} (h:PathIs w rs (.pointer q)) (hl:rs.length≤1000000) :
  Calls Tryz.prog 96 #[.pointer q,iv s] w fun e w'=>e = .returned (.pointer (some ⟨w.heap.size,0,none⟩))∧w'=w.alloc (.cells #[.pointer q,iv s,.int .i64 ((rs.length:Int)+1)] 263):=by
 obtain ⟨b,v',x,hq,hb⟩:=h.head
 cases hq
 obtain ⟨c0,c1,c2,f0,f1,f2,hlt⟩:=three_facts' hb
 obtain ⟨T,u⟩:=s
 simp only [iv]
 clear h
 go_enter Tryz.func96,Tryz.ntmps96
 go_wp2_with fail
 go_ret
 exact ⟨rfl,rfl⟩
theorem grown_o {w:World}{o:Option (List IV)}{G:Nat→Prop}{x:IV}{q:Option Addr}{s:IV} (h:HoldsP (PathP o) G w (x,q)) (hl:olen o≤1000000) :
  Calls Tryz.prog 96 #[.pointer q,iv s] w fun e w'=>Below w.heap.size w w'∧∃ q' G',e = .returned (.pointer q')∧(∀ y,HoldsP (PathP (o.map (s :: ·))) G' w' (y,q'))∧∀ k,G' k→G k∨w.heap.size≤k:=by
 cases o with
 | none =>
  have hq:q=none:=h.here
  subst hq
  refine grown_none.mono ?_
  rintro e w' ⟨rfl,rfl⟩
  exact ⟨Below.refl _ _,none,fun _=>False,rfl,fun y=>⟨fun _ h=>h.elim,fun _ _ _=>rfl⟩,fun _ h=>h.elim⟩
 | some rs =>
  refine (grown_new h.here hl).mono ?_
  rintro e w' ⟨rfl,rfl⟩
  have hGl:=h.1
  refine ⟨below_alloc _ _,some ⟨w.heap.size,0,none⟩,fun k=>G k∨k=w.heap.size,rfl,fun y=>⟨fun k hk=>?_,fun w' a b=>?_⟩,by grind⟩
  ·rw [World.size_alloc];grind
  ·refine ⟨w.heap.size,.pointer q,rfl,(a _ (.inr rfl)).trans (heap_new w _),?_⟩
   exact h.2 w' (fun k hk=>(a k (.inl hk)).trans ((below_alloc w _).block k (hGl k hk))) (by rw [World.size_alloc] at b;omega)
theorem quad {w w1:World} (k:Below w.heap.size w w1) {a b c d:Addr}{va vb vc vd:Value} (ha:w.cell? a=some va) (hb:w.cell? b=some vb) (hc:w.cell? c=some vc) (hd:w.cell? d=some vd):w1.cell? a=some va∧w1.cell? b=some vb∧w1.cell? c=some vc∧w1.cell? d=some vd :=
 ⟨(k.cell (lt_cell ha)).trans ha,(k.cell (lt_cell hb)).trans hb,(k.cell (lt_cell hc)).trans hc,(k.cell (lt_cell hd)).trans hd⟩
theorem quadS {w:World}{N:Nat}{u v:Value}{a b c d:Addr}{va vb vc vd:Value} (h:w.cell? a=some va∧w.cell? b=some vb∧w.cell? c=some vc∧w.cell? d=some vd) (h1:a.block≠N) (h2:b.block≠N) (h3:c.block≠N) (h4:d.block≠N):((w.setCell ⟨N,0,none⟩ u).setCell ⟨N,1,none⟩ v).cell? a=some va∧((w.setCell ⟨N,0,none⟩ u).setCell ⟨N,1,none⟩ v).cell? b=some vb∧((w.setCell ⟨N,0,none⟩ u).setCell ⟨N,1,none⟩ v).cell? c=some vc∧((w.setCell ⟨N,0,none⟩ u).setCell ⟨N,1,none⟩ v).cell? d=some vd:=by
 have k:∀ j,j≠N→((w.setCell ⟨N,0,none⟩ u).setCell ⟨N,1,none⟩ v).heap[j]? = w.heap[j]?:=fun j hj=>by
  rw [Below.heap_setCell _ _ _ _ (by simpa using hj),Below.heap_setCell _ _ _ _ (by simpa using hj)]
 exact ⟨(World.cell?_of_block (w:=w) (k _ h1)).trans h.1,(World.cell?_of_block (w:=w) (k _ h2)).trans h.2.1,(World.cell?_of_block (w:=w) (k _ h3)).trans h.2.2.1,(World.cell?_of_block (w:=w) (k _ h4)).trans h.2.2.2⟩
theorem parts1_g {w:World}{nb vb sb i n a c:Nat}{T:Nat}{u:Value}{q:Option Addr}{x:IV}{o:Option (List IV)}{G:Nat→Prop} (hn:Box w nb (.int .i64 i) 3) (hv:Box w vb (.slice (some ⟨a,0,none⟩) n c) 86) (hs:SpotB w sb ((T,u),q)) (hi:i < n) (hnn:n≤100000000) (hx:w.cell? ⟨a,i,none⟩=some (iv x)) (ha:a≠nb) (hP:HoldsP (PathP o) G w ((T,u),q)) (hl:olen o≤1000000) (hG:¬ G nb) :
  Calls Tryz.prog 145 #[.pointer (some ⟨nb,0,none⟩),.pointer (some ⟨vb,0,none⟩),.pointer (some ⟨sb,0,none⟩)] w fun e w'=>Fr (· = nb) w w'∧Box w' nb (.int .i64 ((i:Int)+1)) 3∧∃ q' G',e = .returned (.tuple #[spv (x,q'),.bool true])∧(∀ y,HoldsP (PathP (o.map (numS i :: ·))) G' w' (y,q'))∧(∀ k,G' k→G k∨w.heap.size≤k)∧¬ G' nb:=by
 obtain ⟨Tx,ux⟩:=x
 simp only [iv,spv] at hx ⊢
 have n0:=hn.cell
 have n1:=hn.free
 have n2:=hn.lt
 have v0:=hv.cell
 have v2:=hv.lt
 obtain ⟨s0,s1,_,_,s4⟩:=hs.facts
 have hal:a < w.heap.size:=lt_cell hx
 have z1:(i:Int) < (n:Int):=by omega
 have z2:(0:Int)≤(i:Int):=by omega
 have z3:(i:Int)+1 - 1=(i:Int):=by omega
 have z4:((i:Int) == (n:Int))=false:=by simp;omega
 have z5:IntKind.i64.wrap ((i:Int)+1 - 1)=(i:Int):=by rw [z3,IntKind.wrap_i64];omega
 have z6:IntKind.i64.wrap (i:Int)=(i:Int):=by rw [IntKind.wrap_i64];omega
 have hnv:nb≠vb:=fun e=>by
  subst e
  have:=Option.some.inj (hn.symm.trans hv)
  simp at this
 have hns:nb≠sb:=SpotB.ne hn hs
 obtain ⟨wA,hA⟩:∃ wA,wA=(w.setCell ⟨nb,0,none⟩ (.int .i64 ((i:Int)+1))).alloc (.cells #[.nilIface,.pointer none] 75):=⟨_,rfl⟩
 have kF:Fr (· = nb) w wA:=hA ▸ ((Fr.refl (· = nb) w).setCell _ (.inl rfl)).alloc _
 have hsp:SpotBox wA w.heap.size .nilIface:=by
  rw [hA]
  have:=SpotBox.new (w.setCell ⟨nb,0,none⟩ (.int .i64 ((i:Int)+1))) .nilIface
  simpa using this
 have hn':Box wA nb (.int .i64 ((i:Int)+1)) 3:=hA ▸ (hn.set _).same (Below.heap_alloc _ _ _ (by simpa using n2))
 have a0:=hn'.cell
 have a1:=(hv.same (kF.block _ v2 (Ne.symm hnv))).cell
 have a2:wA.cell? ⟨a,i,none⟩=some (.iface Tx ux):=(World.cell?_of_block (w:=w) (kF.block a hal ha)).trans hx
 obtain ⟨_,a3,_⟩:=(hs.same (kF.block _ s4 (Ne.symm hns))).facts
 have hP':=hP.after kF (fun k hk e=>hG (e ▸ hk))
 have HG:Calls Tryz.prog 96 #[.pointer q,.iface 98 (.int .i64 i)] wA.drew fun e w'=>Below wA.drew.heap.size wA.drew w'∧∃ q' G',e = .returned (.pointer q')∧(∀ y,HoldsP (PathP (o.map (numS i :: ·))) G' w' (y,q'))∧∀ k,G' k→G k∨wA.drew.heap.size≤k:=grown_o (s:=numS i) (hP'.move (fun _ _=>rfl) (Nat.le_refl _)) hl
 have hAl:wA.heap.size=w.heap.size+1:=by rw [hA];simp
 have t0:=quad ((Below.refl _ wA).drew) a0 a1 a2 a3
 have hGl:=hP.1
 clear hP hP'
 go_enter Tryz.func145,Tryz.ntmps145
 go_wp2_with fail
 rw [← hA]
 clear hA
 go_region_held3 (fun w'=>w'.cell? ⟨nb,0,none⟩=some (.int .i64 ((i:Int)+1))∧w'.cell? ⟨vb,0,none⟩=some (.slice (some ⟨a,0,none⟩) n c)∧w'.cell? ⟨a,i,none⟩=some (.iface Tx ux)∧w'.cell? ⟨sb,1,none⟩=some (.pointer q)) (first | exact t0 | exact e4 | exact quadS e4 (by show nb≠_;omega) (by show vb≠_;omega) (by show a≠_;omega) (by show sb≠_;omega) | go_keep)
  (first | (go_at_call 96;refine HG.mono ?_;rintro e w1 ⟨k1,q',G',rfl,hP1,hG'⟩;have kX:Below wA.heap.size wA w1:=(Below.refl _ _).drew.trans (k1.mono (by simp));have e4:=quad kX a0 a1 a2 a3;have qb:SpotBox w1 w.heap.size .nilIface:=hsp.same (kX.block _ hsp.lt);obtain ⟨r0,r1,r2,r3,r4⟩:=qb.facts))
 go_wp2_with fail
 have kend:Fr (· = w.heap.size) w1 ((w1.setCell ⟨w.heap.size,0,none⟩ (.iface Tx ux)).setCell ⟨w.heap.size,1,none⟩ (.pointer q')):=((Fr.refl (· = w.heap.size) w1).setCell _ (.inl rfl)).setCell _ (.inl rfl)
 have hG2:∀ k,G' k→G k∨wA.heap.size≤k:=hG'
 have hXs:=kX.size
 refine bodyPost_ret (v:=.tuple #[.agg #[.iface Tx ux,.pointer q'],.bool true]) (by simp [results,Tryz.results145,go_sem,r4,r0,r1]) rfl ⟨?_,?_,q',G',rfl,fun y=>(hP1 y).after kend (by grind),by grind,by grind⟩
 ·exact (kF.trans (Fr.of_below (D:=fun _=>False) kX) (fun _ _ e=>e.elim)).trans kend (fun j hj e=>by omega)
 ·exact (hn'.same (kX.block _ hn'.lt)).same (kend.block _ (by have:=hn'.lt;omega) (by omega))
theorem parts1_done {w:World}{nb vb sb n:Nat}{p:Option Addr}{c:Nat} (hn:Box w nb (.int .i64 n) 3) (hv:Box w vb (.slice p n c) 86) :
  Calls Tryz.prog 145 #[.pointer (some ⟨nb,0,none⟩),.pointer (some ⟨vb,0,none⟩),.pointer (some ⟨sb,0,none⟩)] w fun e w'=>Below w.heap.size w w'∧e = .returned (.tuple #[.agg #[.nilIface,.pointer none],.bool false]):=by
 have n0:=hn.cell
 have n2:=hn.lt
 have v0:=hv.cell
 have v2:=hv.lt
 go_enter Tryz.func145,Tryz.ntmps145
 go_wp2_with (go_at_call 19;refine (none_calls _).mono ?_;rintro e w1 ⟨rfl,k1⟩;have q:SpotBox w1 w.heap.size .nilIface:=(SpotBox.new w .nilIface).same (k1.block _ (by simp));obtain ⟨q0,q1,q2,q3,q4⟩:=q.facts)
 exact bodyPost_ret (v:=.tuple #[.agg #[.nilIface,.pointer none],.bool false]) (by simp [results,Tryz.results145,go_sem,q4,q0,q1]) rfl ⟨((((below_alloc _ _).trans (k1.mono (by simp))).setCell (by simp) _).setCell (by simp) _),rfl⟩
end Go.Proofs.Tryz
