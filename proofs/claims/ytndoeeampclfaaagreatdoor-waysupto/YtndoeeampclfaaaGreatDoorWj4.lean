import Derived.Test.YtndoeeampclfaaaGreatDoorFz4
import Derived.Test.YtndoeeampclfaaaGreatDoorWj0
set_option linter.all false
namespace Go.Proofs.Tryz
set_option maxHeartbeats 16000000
open Go.RowKit
set_option maxRecDepth 10000
def PathO (w:World):Option (List IV)→Option Addr→Prop
 | none,q=>q=none
 | some rs,q=>PathIs w rs (.pointer q)
def PathP (o:Option (List IV)):SP:=fun w s=>PathO w o s.2
def olen (o:Option (List IV)):Nat:=match o with | none=>0 | some rs=>rs.length
theorem grown_new {w:World}{rs:List IV}{q:Option Addr}{s:IV} (h:PathIs w rs (.pointer q)) (hl:rs.length≤1000000) :
  Calls Tryz.prog 96 #[.pointer q,iv s] w fun e w'=>e = .returned (.pointer (some ⟨w.heap.size,0,none⟩))∧w'=w.alloc (.cells #[.pointer q,iv s,.int .i64 ((rs.length:Int)+1)] 263):=by
 obtain ⟨b,v',x,hq,hb⟩:=h.head
 cases hq
 obtain ⟨c0,c1,c2,f0,f1,f2,hlt⟩:=three_facts' hb
 obtain ⟨T,u⟩:=s
 simp only [iv]
 clear h
 go_enter Tryz.func96,Tryz.ntmps96
 go_wp2_with fail
 go_ret
 exact ⟨rfl,rfl⟩
theorem grown_o {w:World}{o:Option (List IV)}{G:Nat→Prop}{x:IV}{q:Option Addr}{s:IV} (h:HoldsP (PathP o) G w (x,q)) (hl:olen o≤1000000) :
  Calls Tryz.prog 96 #[.pointer q,iv s] w fun e w'=>Below w.heap.size w w'∧∃ q' G',e = .returned (.pointer q')∧(∀ y,HoldsP (PathP (o.map (s :: ·))) G' w' (y,q'))∧∀ k,G' k→G k∨w.heap.size≤k:=by
 cases o with
 | none =>
  have hq:q=none:=h.here
  subst hq
  refine grown_none.mono ?_
  rintro e w' ⟨rfl,rfl⟩
  exact ⟨Below.refl _ _,none,fun _=>False,rfl,fun y=>⟨fun _ h=>h.elim,fun _ _ _=>rfl⟩,fun _ h=>h.elim⟩
 | some rs =>
  refine (grown_new h.here hl).mono ?_
  rintro e w' ⟨rfl,rfl⟩
  have hGl:=h.1
  refine ⟨below_alloc _ _,some ⟨w.heap.size,0,none⟩,fun k=>G k∨k=w.heap.size,rfl,fun y=>⟨fun k hk=>?_,fun w' a b=>?_⟩,by grind⟩
  ·rw [World.size_alloc];grind
  ·refine ⟨w.heap.size,.pointer q,rfl,(a _ (.inr rfl)).trans (heap_new w _),?_⟩
   exact h.2 w' (fun k hk=>(a k (.inl hk)).trans ((below_alloc w _).block k (hGl k hk))) (by rw [World.size_alloc] at b;omega)
theorem quad {w w1:World} (k:Below w.heap.size w w1) {a b c d:Addr}{va vb vc vd:Value} (ha:w.cell? a=some va) (hb:w.cell? b=some vb) (hc:w.cell? c=some vc) (hd:w.cell? d=some vd):w1.cell? a=some va∧w1.cell? b=some vb∧w1.cell? c=some vc∧w1.cell? d=some vd :=
 ⟨(k.cell (lt_cell ha)).trans ha,(k.cell (lt_cell hb)).trans hb,(k.cell (lt_cell hc)).trans hc,(k.cell (lt_cell hd)).trans hd⟩
theorem quadS {w:World}{N:Nat}{u v:Value}{a b c d:Addr}{va vb vc vd:Value} (h:w.cell? a=some va∧w.cell? b=some vb∧w.cell? c=some vc∧w.cell? d=some vd) (h1:a.block≠N) (h2:b.block≠N) (h3:c.block≠N) (h4:d.block≠N):((w.setCell ⟨N,0,none⟩ u).setCell ⟨N,1,none⟩ v).cell? a=some va∧((w.setCell ⟨N,0,none⟩ u).setCell ⟨N,1,none⟩ v).cell? b=some vb∧((w.setCell ⟨N,0,none⟩ u).setCell ⟨N,1,none⟩ v).cell? c=some vc∧((w.setCell ⟨N,0,none⟩ u).setCell ⟨N,1,none⟩ v).cell? d=some vd:=by
 have k:∀ j,j≠N→((w.setCell ⟨N,0,none⟩ u).setCell ⟨N,1,none⟩ v).heap[j]? = w.heap[j]?:=fun j hj=>by
  rw [Below.heap_setCell _ _ _ _ (by simpa using hj),Below.heap_setCell _ _ _ _ (by simpa using hj)]
 exact ⟨(World.cell?_of_block (w:=w) (k _ h1)).trans h.1,(World.cell?_of_block (w:=w) (k _ h2)).trans h.2.1,(World.cell?_of_block (w:=w) (k _ h3)).trans h.2.2.1,(World.cell?_of_block (w:=w) (k _ h4)).trans h.2.2.2⟩
theorem parts1_g {w:World}{nb vb sb i n a c:Nat}{T:Nat}{u:Value}{q:Option Addr}{x:IV}{o:Option (List IV)}{G:Nat→Prop} (hn:Box w nb (.int .i64 i) 3) (hv:Box w vb (.slice (some ⟨a,0,none⟩) n c) 86) (hs:SpotB w sb ((T,u),q)) (hi:i < n) (hnn:n≤10000) (hx:w.cell? ⟨a,i,none⟩=some (iv x)) (ha:a≠nb) (hP:HoldsP (PathP o) G w ((T,u),q)) (hl:olen o≤1000000) (hG:¬ G nb) :
  Calls Tryz.prog 145 #[.pointer (some ⟨nb,0,none⟩),.pointer (some ⟨vb,0,none⟩),.pointer (some ⟨sb,0,none⟩)] w fun e w'=>Fr (· = nb) w w'∧Box w' nb (.int .i64 ((i:Int)+1)) 3∧∃ q' G',e = .returned (.tuple #[spv (x,q'),.bool true])∧(∀ y,HoldsP (PathP (o.map (numS i :: ·))) G' w' (y,q'))∧(∀ k,G' k→G k∨w.heap.size≤k)∧¬ G' nb:=by
 obtain ⟨Tx,ux⟩:=x
 simp only [iv,spv] at hx ⊢
 have n0:=hn.cell
 have n1:=hn.free
 have n2:=hn.lt
 have v0:=hv.cell
 have v2:=hv.lt
 obtain ⟨s0,s1,_,_,s4⟩:=hs.facts
 have hal:a < w.heap.size:=lt_cell hx
 have z1:(i:Int) < (n:Int):=by omega
 have z2:(0:Int)≤(i:Int):=by omega
 have z3:(i:Int)+1 - 1=(i:Int):=by omega
 have z4:((i:Int) == (n:Int))=false:=by simp;omega
 have z5:IntKind.i64.wrap ((i:Int)+1 - 1)=(i:Int):=by rw [z3,IntKind.wrap_i64];omega
 have z6:IntKind.i64.wrap (i:Int)=(i:Int):=by rw [IntKind.wrap_i64];omega
 have hnv:nb≠vb:=fun e=>by
  subst e
  have:=Option.some.inj (hn.symm.trans hv)
  simp at this
 have hns:nb≠sb:=SpotB.ne hn hs
 obtain ⟨wA,hA⟩:∃ wA,wA=(w.setCell ⟨nb,0,none⟩ (.int .i64 ((i:Int)+1))).alloc (.cells #[.nilIface,.pointer none] 75):=⟨_,rfl⟩
 have kF:Fr (· = nb) w wA:=hA ▸ ((Fr.refl (· = nb) w).setCell _ (.inl rfl)).alloc _
 have hsp:SpotBox wA w.heap.size .nilIface:=by
  rw [hA]
  have:=SpotBox.new (w.setCell ⟨nb,0,none⟩ (.int .i64 ((i:Int)+1))) .nilIface
  simpa using this
 have hn':Box wA nb (.int .i64 ((i:Int)+1)) 3:=hA ▸ (hn.set _).same (Below.heap_alloc _ _ _ (by simpa using n2))
 have a0:=hn'.cell
 have a1:=(hv.same (kF.block _ v2 (Ne.symm hnv))).cell
 have a2:wA.cell? ⟨a,i,none⟩=some (.iface Tx ux):=(World.cell?_of_block (w:=w) (kF.block a hal ha)).trans hx
 obtain ⟨_,a3,_⟩:=(hs.same (kF.block _ s4 (Ne.symm hns))).facts
 have hP':=hP.after kF (fun k hk e=>hG (e ▸ hk))
 have HG:Calls Tryz.prog 96 #[.pointer q,.iface 98 (.int .i64 i)] wA.drew fun e w'=>Below wA.drew.heap.size wA.drew w'∧∃ q' G',e = .returned (.pointer q')∧(∀ y,HoldsP (PathP (o.map (numS i :: ·))) G' w' (y,q'))∧∀ k,G' k→G k∨wA.drew.heap.size≤k:=grown_o (s:=numS i) (hP'.move (fun _ _=>rfl) (Nat.le_refl _)) hl
 have hAl:wA.heap.size=w.heap.size+1:=by rw [hA];simp
 have t0:=quad ((Below.refl _ wA).drew) a0 a1 a2 a3
 have hGl:=hP.1
 clear hP hP'
 go_enter Tryz.func145,Tryz.ntmps145
 go_wp2_with fail
 rw [← hA]
 clear hA
 go_region_held3 (fun w'=>w'.cell? ⟨nb,0,none⟩=some (.int .i64 ((i:Int)+1))∧w'.cell? ⟨vb,0,none⟩=some (.slice (some ⟨a,0,none⟩) n c)∧w'.cell? ⟨a,i,none⟩=some (.iface Tx ux)∧w'.cell? ⟨sb,1,none⟩=some (.pointer q)) (first | exact t0 | exact e4 | exact quadS e4 (by show nb≠_;omega) (by show vb≠_;omega) (by show a≠_;omega) (by show sb≠_;omega) | go_keep)
  (first | (go_at_call 96;refine HG.mono ?_;rintro e w1 ⟨k1,q',G',rfl,hP1,hG'⟩;have kX:Below wA.heap.size wA w1:=(Below.refl _ _).drew.trans (k1.mono (by simp));have e4:=quad kX a0 a1 a2 a3;have qb:SpotBox w1 w.heap.size .nilIface:=hsp.same (kX.block _ hsp.lt);obtain ⟨r0,r1,r2,r3,r4⟩:=qb.facts))
 go_wp2_with fail
 have kend:Fr (· = w.heap.size) w1 ((w1.setCell ⟨w.heap.size,0,none⟩ (.iface Tx ux)).setCell ⟨w.heap.size,1,none⟩ (.pointer q')):=((Fr.refl (· = w.heap.size) w1).setCell _ (.inl rfl)).setCell _ (.inl rfl)
 have hG2:∀ k,G' k→G k∨wA.heap.size≤k:=hG'
 have hXs:=kX.size
 refine bodyPost_ret (v:=.tuple #[.agg #[.iface Tx ux,.pointer q'],.bool true]) (by simp [results,Tryz.results145,go_sem,r4,r0,r1]) rfl ⟨?_,?_,q',G',rfl,fun y=>(hP1 y).after kend (by grind),by grind,by grind⟩
 ·exact (kF.trans (Fr.of_below (D:=fun _=>False) kX) (fun _ _ e=>e.elim)).trans kend (fun j hj e=>by omega)
 ·exact (hn'.same (kX.block _ hn'.lt)).same (kend.block _ (by have:=hn'.lt;omega) (by omega))
theorem parts1_done {w:World}{nb vb sb n:Nat}{p:Option Addr}{c:Nat} (hn:Box w nb (.int .i64 n) 3) (hv:Box w vb (.slice p n c) 86) :
  Calls Tryz.prog 145 #[.pointer (some ⟨nb,0,none⟩),.pointer (some ⟨vb,0,none⟩),.pointer (some ⟨sb,0,none⟩)] w fun e w'=>Below w.heap.size w w'∧e = .returned (.tuple #[.agg #[.nilIface,.pointer none],.bool false]):=by
 have n0:=hn.cell
 have n2:=hn.lt
 have v0:=hv.cell
 have v2:=hv.lt
 go_enter Tryz.func145,Tryz.ntmps145
 go_wp2_with (go_at_call 19;refine (none_calls _).mono ?_;rintro e w1 ⟨rfl,k1⟩;have q:SpotBox w1 w.heap.size .nilIface:=(SpotBox.new w .nilIface).same (k1.block _ (by simp));obtain ⟨q0,q1,q2,q3,q4⟩:=q.facts)
 exact bodyPost_ret (v:=.tuple #[.agg #[.nilIface,.pointer none],.bool false]) (by simp [results,Tryz.results145,go_sem,q4,q0,q1]) rfl ⟨((((below_alloc _ _).trans (k1.mono (by simp))).setCell (by simp) _).setCell (by simp) _),rfl⟩
end Go.Proofs.Tryz
namespace Go.Proofs.Tryz
set_option maxHeartbeats 16000000
open Go.RowKit
set_option maxRecDepth 10000
theorem triS {w:World}{N:Nat}{u v:Value}{a b c:Addr}{va vb vc:Value} (h:w.cell? a=some va∧w.cell? b=some vb∧w.cell? c=some vc) (h1:a.block≠N) (h2:b.block≠N) (h3:c.block≠N):((w.setCell ⟨N,0,none⟩ u).setCell ⟨N,1,none⟩ v).cell? a=some va∧((w.setCell ⟨N,0,none⟩ u).setCell ⟨N,1,none⟩ v).cell? b=some vb∧((w.setCell ⟨N,0,none⟩ u).setCell ⟨N,1,none⟩ v).cell? c=some vc :=
 have h':=quadS (u:=u) (v:=v) ⟨h.1,h.2.1,h.2.2,h.2.2⟩ h1 h2 h3 h3
 ⟨h'.1,h'.2.1,h'.2.2.1⟩
theorem parts2_g {w:World}{nb vb sb i n a c:Nat}{T:Nat}{u:Value}{q:Option Addr}{k:ByteArray}{x:IV}{o:Option (List IV)}{G:Nat→Prop} (hn:Box w nb (.int .i64 i) 3) (hv:Box w vb (.slice (some ⟨a,0,none⟩) n c) 102) (hs:SpotB w sb ((T,u),q)) (hi:i < n) (hnn:n≤10000) (hk:w.cell? ⟨a,i * 2,none⟩=some (.string k)) (hx:w.cell? ⟨a,i * 2+1,none⟩=some (iv x)) (ha:a≠nb) (hP:HoldsP (PathP o) G w ((T,u),q)) (hl:olen o≤1000000) (hG:¬ G nb) :
  Calls Tryz.prog 146 #[.pointer (some ⟨nb,0,none⟩),.pointer (some ⟨vb,0,none⟩),.pointer (some ⟨sb,0,none⟩)] w fun e w'=>Fr (· = nb) w w'∧Box w' nb (.int .i64 ((i:Int)+1)) 3∧∃ q' G',e = .returned (.tuple #[spv (x,q'),.bool true])∧(∀ y,HoldsP (PathP (o.map (strS k :: ·))) G' w' (y,q'))∧(∀ k,G' k→G k∨w.heap.size≤k)∧¬ G' nb:=by
 obtain ⟨Tx,ux⟩:=x
 simp only [iv,spv] at hx ⊢
 have n0:=hn.cell
 have n1:=hn.free
 have n2:=hn.lt
 have v0:=hv.cell
 have v2:=hv.lt
 obtain ⟨s0,s1,_,_,s4⟩:=hs.facts
 have hal:a < w.heap.size:=lt_cell hx
 have z1:(i:Int) < (n:Int):=by omega
 have z2:(0:Int)≤(i:Int):=by omega
 have z3:(i:Int)+1 - 1=(i:Int):=by omega
 have z4:((i:Int) == (n:Int))=false:=by simp;omega
 have z5:IntKind.i64.wrap ((i:Int)+1 - 1)=(i:Int):=by rw [z3,IntKind.wrap_i64];omega
 have z6:IntKind.i64.wrap (i:Int)=(i:Int):=by rw [IntKind.wrap_i64];omega
 have hnv:nb≠vb:=fun e=>by
  subst e
  have:=Option.some.inj (hn.symm.trans hv)
  simp at this
 have hns:nb≠sb:=SpotB.ne hn hs
 obtain ⟨wA,hA⟩:∃ wA,wA=((w.setCell ⟨nb,0,none⟩ (.int .i64 ((i:Int)+1))).alloc (.cells #[.nilIface,.pointer none] 75)).alloc (.cells #[.string k,.iface Tx ux] 107):=⟨_,rfl⟩
 have kF:Fr (· = nb) w wA:=hA ▸ (((Fr.refl (· = nb) w).setCell _ (.inl rfl)).alloc _).alloc _
 have hsp:SpotBox wA w.heap.size .nilIface:=by
  rw [hA]
  have:=(SpotBox.new (w.setCell ⟨nb,0,none⟩ (.int .i64 ((i:Int)+1))) .nilIface).alloc (.cells #[.string k,.iface Tx ux] 107)
  simpa using this
 have hm:wA.heap[w.heap.size+1]? = some (.cells #[.string k,.iface Tx ux] 107 (0,0)):=by
  rw [hA]
  have:=heap_new2' (w.setCell ⟨nb,0,none⟩ (.int .i64 ((i:Int)+1))) (.cells #[.nilIface,.pointer none] 75) (.cells #[.string k,.iface Tx ux] 107)
  simpa using this
 have hn':Box wA nb (.int .i64 ((i:Int)+1)) 3:=hA ▸ ((hn.set _).same (Below.heap_alloc _ _ _ (by simpa using n2))).same (Below.heap_alloc _ _ _ (by simp;omega))
 have a0:wA.cell? ⟨w.heap.size+1,0,none⟩=some (.string k):=by simp [World.cell?,hm]
 have a1:wA.cell? ⟨w.heap.size+1,1,none⟩=some (.iface Tx ux):=by simp [World.cell?,hm]
 obtain ⟨_,a3,_⟩:=(hs.same (kF.block _ s4 (Ne.symm hns))).facts
 have hP':=hP.after kF (fun k hk e=>hG (e ▸ hk))
 have HG:Calls Tryz.prog 96 #[.pointer q,.iface 100 (.string k)] wA.drew fun e w'=>Below wA.drew.heap.size wA.drew w'∧∃ q' G',e = .returned (.pointer q')∧(∀ y,HoldsP (PathP (o.map (strS k :: ·))) G' w' (y,q'))∧∀ k,G' k→G k∨wA.drew.heap.size≤k:=grown_o (s:=strS k) (hP'.move (fun _ _=>rfl) (Nat.le_refl _)) hl
 have hAl:wA.heap.size=w.heap.size+2:=by rw [hA];simp
 have t0:=tri ((Below.refl _ wA).drew) a0 a1 a3
 have hGl:=hP.1
 clear hP hP'
 go_enter Tryz.func146,Tryz.ntmps146
 go_wp2_with fail
 rw [← hA]
 clear hA
 go_region_held3 (fun w'=>w'.cell? ⟨w.heap.size+1,0,none⟩=some (.string k)∧w'.cell? ⟨w.heap.size+1,1,none⟩=some (.iface Tx ux)∧w'.cell? ⟨sb,1,none⟩=some (.pointer q)) (first | exact t0 | exact e4 | exact triS e4 (by show w.heap.size+1≠_;omega) (by show w.heap.size+1≠_;omega) (by show sb≠_;omega) | go_keep)
  (first | (go_at_call 96;refine HG.mono ?_;rintro e w1 ⟨k1,q',G',rfl,hP1,hG'⟩;have kX:Below wA.heap.size wA w1:=(Below.refl _ _).drew.trans (k1.mono (by simp));have e4:=tri kX a0 a1 a3;have qb:SpotBox w1 w.heap.size .nilIface:=hsp.same (kX.block _ hsp.lt);obtain ⟨r0,r1,r2,r3,r4⟩:=qb.facts))
 go_wp2_with fail
 have kend:Fr (· = w.heap.size) w1 ((w1.setCell ⟨w.heap.size,0,none⟩ (.iface Tx ux)).setCell ⟨w.heap.size,1,none⟩ (.pointer q')):=((Fr.refl (· = w.heap.size) w1).setCell _ (.inl rfl)).setCell _ (.inl rfl)
 have hG2:∀ k,G' k→G k∨wA.heap.size≤k:=hG'
 have hXs:=kX.size
 refine bodyPost_ret (v:=.tuple #[.agg #[.iface Tx ux,.pointer q'],.bool true]) (by simp [results,Tryz.results146,go_sem,r4,r0,r1]) rfl ⟨?_,?_,q',G',rfl,fun y=>(hP1 y).after kend (by grind),by grind,by grind⟩
 ·exact (kF.trans (Fr.of_below (D:=fun _=>False) kX) (fun _ _ e=>e.elim)).trans kend (fun j hj e=>by omega)
 ·exact (hn'.same (kX.block _ hn'.lt)).same (kend.block _ (by have:=hn'.lt;omega) (by omega))
theorem parts2_done {w:World}{nb vb sb n:Nat}{p:Option Addr}{c:Nat} (hn:Box w nb (.int .i64 n) 3) (hv:Box w vb (.slice p n c) 102) :
  Calls Tryz.prog 146 #[.pointer (some ⟨nb,0,none⟩),.pointer (some ⟨vb,0,none⟩),.pointer (some ⟨sb,0,none⟩)] w fun e w'=>Below w.heap.size w w'∧e = .returned (.tuple #[.agg #[.nilIface,.pointer none],.bool false]):=by
 have n0:=hn.cell
 have n2:=hn.lt
 have v0:=hv.cell
 have v2:=hv.lt
 go_enter Tryz.func146,Tryz.ntmps146
 go_wp2_with (go_at_call 19;refine (none_calls _).mono ?_;rintro e w1 ⟨rfl,k1⟩;have q:SpotBox w1 w.heap.size .nilIface:=(SpotBox.new w .nilIface).same (k1.block _ (by simp));obtain ⟨q0,q1,q2,q3,q4⟩:=q.facts)
 exact bodyPost_ret (v:=.tuple #[.agg #[.nilIface,.pointer none],.bool false]) (by simp [results,Tryz.results146,go_sem,q4,q0,q1]) rfl ⟨((((below_alloc _ _).trans (k1.mono (by simp))).setCell (by simp) _).setCell (by simp) _),rfl⟩
end Go.Proofs.Tryz
namespace Go.Proofs.Tryz
set_option maxHeartbeats 16000000
open Go.RowKit
set_option maxRecDepth 10000
def StepP (V:Nat→Prop) (w:World) (o:Option (List IV)) (s x:IV) (Q:SP):Prop:=∀ w' q',SameOn V w w'→w.heap.size≤w'.heap.size→PathO w' (o.map (s :: ·)) q'→Q w' (x,q')
theorem StepP.move {V:Nat→Prop}{w w1:World}{o:Option (List IV)}{s x:IV}{Q:SP} (h:StepP V w o s x Q) (hs:SameOn V w w1) (hl:w.heap.size≤w1.heap.size):StepP V w1 o s x Q:=fun w' q' a b=>h w' q' (hs.trans a) (Nat.le_trans hl b)
theorem StepP.holds {V G:Nat→Prop}{w:World}{o:Option (List IV)}{s x:IV}{q:Option Addr}{Q:SP} (h:StepP V w o s x Q) (hV:∀ k,V k→k < w.heap.size) (hP:HoldsP (PathP (o.map (s :: ·))) G w (x,q)):HoldsP Q (fun k=>V k∨G k) w (x,q) :=
 ⟨fun k hk=>hk.elim (hV k) (hP.1 k),fun w' a b=>h w' q (a.mono (fun _ h=>.inl h)) b (hP.2 w' (a.mono (fun _ h=>.inr h)) b)⟩
theorem enters_parts1:Enters Tryz.prog 145:=enters_of Tryz.func145 (by kernel_rfl) rfl
theorem enters_parts2:Enters Tryz.prog 146:=enters_of Tryz.func146 (by kernel_rfl) rfl
theorem partsA_g {V G:Nat→Prop}{nb vb sb n:Nat}{r:Value}{xs:List IV}{s:Sp}{o:Option (List IV)} (hnn:n≤10000) (hl:olen o≤1000000) (hVn:¬ V nb) (hVr:∀ g,r.ownBlock=some g→V g) (hGn:¬ G nb):∀ (Qs:List SP) (i:Nat) {w:World},i+Qs.length=n→Box w nb (.int .i64 i) 3→Box w vb r 86→SpotB w sb s→w.ownsRow 0 32 1 r n (xs.map iv)→(∀ k,V k→k < w.heap.size)→HoldsP (PathP o) G w s→
  (∀ j Q,Qs[j]? = some Q→∃ x,xs[i+j]? = some x∧StepP V w o (numS (i+j)) x Q)→StG Qs (fun k=>V k∨G k∨k=nb∨k=vb∨k=sb) (· = nb) w (.func (.func 145) #[] #[.pointer (some ⟨nb,0,none⟩),.pointer (some ⟨vb,0,none⟩),.pointer (some ⟨sb,0,none⟩)])
 | [],i,w,hi,hn,hv,hs,ow,hV,hP,hQ=>by
  have hnl:=hn.lt
  have hvl:=hv.lt
  have hsl:=hs.lt
  have hPl:=hP.1
  refine ⟨_,_,rfl,enters_parts1,by grind,by grind,fun w1 hs1 hl1=>?_⟩
  simp only [List.length_nil,Nat.add_zero] at hi
  subst hi
  obtain ⟨p,m,c,rfl⟩:=owns_shape1 ow
  have hm:m=i:=by
   rcases ow.2 with ⟨e,h0⟩ | ⟨g,cap,cur,e,_⟩
   ·cases e;exact h0.symm
   ·cases e;rfl
  subst hm
  exact (parts1_done (hn.same (hs1 nb (by simp))) (hv.same (hs1 vb (by simp)))).mono fun e w' h=>⟨.of_below h.1,h.2⟩
 | Q :: Qs,i,w,hi,hn,hv,hs,ow,hV,hP,hQ=>by
  have hnl:=hn.lt
  have hvl:=hv.lt
  have hsl:=hs.lt
  have hPl:=hP.1
  refine ⟨_,_,rfl,enters_parts1,by grind,by grind,fun w1 hs1 hl1=>?_⟩
  obtain ⟨x,hx,hst⟩:=hQ 0 Q rfl
  have hin:i < n:=by simp at hi;omega
  have ow1:w1.ownsRow 0 32 1 r n (xs.map iv):=owns_same ow (fun g hg=>hs1 g (.inl (hVr g hg)))
  have hP1:=hP.move (hs1.mono (fun _ h=>.inr (.inl h))) hl1
  have hn1:=hn.same (hs1 nb (by simp))
  have hv1:=hv.same (hs1 vb (by simp))
  have hss1:=hs.same (hs1 sb (by simp))
  have hsV:SameOn V w w1:=hs1.mono (fun _ h=>.inl h)
  obtain ⟨⟨T,u⟩,q⟩:=s
  rcases ow1.2 with ⟨e,h0⟩ | ⟨g,cap,cur,e,_⟩
  ·omega
  ·subst e
   have hgV:V g:=hVr g rfl
   have hgn:g≠nb:=fun e=>hVn (e ▸ hgV)
   have hc:w1.cell? ⟨g,i,none⟩=some (iv x):=by
    rw [ow1.cellAt i (by omega),List.getElem?_map]
    simp only [Nat.add_zero] at hx
    rw [hx];rfl
   refine (parts1_g hn1 hv1 hss1 hin hnn hc hgn hP1 hl hGn).mono ?_
   rintro e w2 ⟨k2,hb2,q',G',rfl,hP2,hG',hG'n⟩
   have hl2:=k2.size
   have hV1:∀ k,V k→k < w1.heap.size:=fun k hk=>Nat.lt_of_lt_of_le (hV k hk) hl1
   have hV2:SameOn V w1 w2:=k2.same hV1 (by grind)
   have hnl1:=hn1.lt
   refine ⟨k2,(x,q'),fun k=>V k∨G' k,_,_,rfl,((hst.move hsV hl1).move hV2 hl2).holds (by grind) (by simpa using hP2 x),partsA_g hnn hl hVn hVr hGn Qs (i+1) (by simp at hi;omega) (by simpa using hb2) (hv1.same (k2.block _ hv1.lt ?_)) (hss1.same (k2.block _ hss1.lt ?_)) (owns_same ow1 (fun g' hg'=>hV2 g' (hVr g' hg'))) (by grind) (hP1.after k2 (by grind)) ?_,by grind,by grind,by grind,by grind⟩
   ·intro e
    subst e
    have:=Option.some.inj (hn1.symm.trans hv1)
    simp at this
   ·intro e
    exact SpotB.ne hn1 hss1 e.symm
   ·intro j Q' hj
    obtain ⟨x',hx',hst'⟩:=hQ (j+1) Q' (by simpa using hj)
    have e1:i+(j+1)=i+1+j:=by omega
    rw [e1] at hx' hst'
    exact ⟨x',hx',(hst'.move hsV hl1).move hV2 hl2⟩
theorem partsO_g {V G:Nat→Prop}{nb vb sb n:Nat}{r:Value}{L:List El}{s:Sp}{o:Option (List IV)} (hLn:L.length=n) (hnn:n≤10000) (hl:olen o≤1000000) (hVn:¬ V nb) (hVr:∀ g,r.ownBlock=some g→V g) (hGn:¬ G nb):∀ (Qs:List SP) (i:Nat) {w:World},i+Qs.length=n→Box w nb (.int .i64 i) 3→Box w vb r 102→SpotB w sb s→w.ownsRow 0 107 2 r n (L.flatMap elC)→(∀ k,V k→k < w.heap.size)→HoldsP (PathP o) G w s→
  (∀ j Q,Qs[j]? = some Q→∃ e,L[i+j]? = some e∧StepP V w o (strS e.1) e.2.1 Q)→StG Qs (fun k=>V k∨G k∨k=nb∨k=vb∨k=sb) (· = nb) w (.func (.func 146) #[] #[.pointer (some ⟨nb,0,none⟩),.pointer (some ⟨vb,0,none⟩),.pointer (some ⟨sb,0,none⟩)])
 | [],i,w,hi,hn,hv,hs,ow,hV,hP,hQ=>by
  have hnl:=hn.lt
  have hvl:=hv.lt
  have hsl:=hs.lt
  have hPl:=hP.1
  refine ⟨_,_,rfl,enters_parts2,by grind,by grind,fun w1 hs1 hl1=>?_⟩
  simp only [List.length_nil,Nat.add_zero] at hi
  subst hi
  rcases ow.2 with ⟨e,h0⟩ | ⟨g,cap,cur,e,_⟩
  ·subst e;subst h0
   exact (parts2_done (hn.same (hs1 nb (by simp))) (hv.same (hs1 vb (by simp)))).mono fun e w' h=>⟨.of_below h.1,h.2⟩
  ·subst e
   exact (parts2_done (hn.same (hs1 nb (by simp))) (hv.same (hs1 vb (by simp)))).mono fun e w' h=>⟨.of_below h.1,h.2⟩
 | Q :: Qs,i,w,hi,hn,hv,hs,ow,hV,hP,hQ=>by
  have hnl:=hn.lt
  have hvl:=hv.lt
  have hsl:=hs.lt
  have hPl:=hP.1
  refine ⟨_,_,rfl,enters_parts2,by grind,by grind,fun w1 hs1 hl1=>?_⟩
  obtain ⟨⟨k,x,tx⟩,hx,hst⟩:=hQ 0 Q rfl
  have hin:i < n:=by simp at hi;omega
  have ow1:w1.ownsRow 0 107 2 r n (L.flatMap elC):=owns_same ow (fun g hg=>hs1 g (.inl (hVr g hg)))
  have hP1:=hP.move (hs1.mono (fun _ h=>.inr (.inl h))) hl1
  have hn1:=hn.same (hs1 nb (by simp))
  have hv1:=hv.same (hs1 vb (by simp))
  have hss1:=hs.same (hs1 sb (by simp))
  have hsV:SameOn V w w1:=hs1.mono (fun _ h=>.inl h)
  obtain ⟨⟨T,u⟩,q⟩:=s
  rcases ow1.2 with ⟨e,h0⟩ | ⟨g,cap,cur,e,_⟩
  ·omega
  ·subst e
   have hgV:V g:=hVr g rfl
   have hgn:g≠nb:=fun e=>hVn (e ▸ hgV)
   simp only [Nat.add_zero] at hx
   obtain ⟨_,hM,_⟩:=owns_mem (hLn ▸ ow1)
   obtain ⟨c1,c2⟩:=hM.at hx
   refine (parts2_g hn1 hv1 hss1 hin hnn c1 c2 hgn hP1 hl hGn).mono ?_
   rintro e w2 ⟨k2,hb2,q',G',rfl,hP2,hG',hG'n⟩
   have hl2:=k2.size
   have hV1:∀ k,V k→k < w1.heap.size:=fun k hk=>Nat.lt_of_lt_of_le (hV k hk) hl1
   have hV2:SameOn V w1 w2:=k2.same hV1 (by grind)
   have hnl1:=hn1.lt
   refine ⟨k2,(x,q'),fun k=>V k∨G' k,_,_,rfl,((hst.move hsV hl1).move hV2 hl2).holds (by grind) (hP2 x),partsO_g hLn hnn hl hVn hVr hGn Qs (i+1) (by simp at hi;omega) (by simpa using hb2) (hv1.same (k2.block _ hv1.lt ?_)) (hss1.same (k2.block _ hss1.lt ?_)) (owns_same ow1 (fun g' hg'=>hV2 g' (hVr g' hg'))) (by grind) (hP1.after k2 (by grind)) ?_,by grind,by grind,by grind,by grind⟩
   ·intro e
    subst e
    have:=Option.some.inj (hn1.symm.trans hv1)
    simp at this
   ·intro e
    exact SpotB.ne hn1 hss1 e.symm
   ·intro j Q' hj
    obtain ⟨x',hx',hst'⟩:=hQ (j+1) Q' (by simpa using hj)
    have e1:i+(j+1)=i+1+j:=by omega
    rw [e1] at hx'
    exact ⟨x',hx',(hst'.move hsV hl1).move hV2 hl2⟩
def KidsQ (V:Nat→Prop) (w:World) (o:Option (List IV)) (ks:List (IV×IV)) (Qs:List SP):Prop:=ks.length=Qs.length∧∀ (j:Nat) (Q:SP),Qs[j]? = some Q→∃ k,ks[j]? = some k∧StepP V w o k.1 k.2 Q
theorem enumA_len:∀ (i:Nat) (xs:List IV),(enumA i xs).length=xs.length
 | _,[]=>rfl
 | i,x :: xs=>by simp [enumA,enumA_len (i+1) xs]
theorem parts_boxes (w:World) (s:Sp) (v:Value) (Tv:Nat):∃ wA,wA=((w.alloc (.cells #[iv s.1,.pointer s.2] 75)).alloc (.cells #[.int .i64 0] 3)).alloc (.cells #[v] Tv)∧Below w.heap.size w wA∧SpotB wA w.heap.size s∧Box wA (w.heap.size+1) (.int .i64 0) 3∧Box wA (w.heap.size+2) v Tv∧wA.heap.size=w.heap.size+3 :=
 ⟨_,rfl,below_alloc3 w _ _ _,heap_at1 w _ _ _,heap_at2 w _ _ _,heap_new3 w _ _ _,by simp⟩
theorem parts_arrg {C V G:Nat→Prop}{w:World}{r:Value}{xs:List IV}{q:Option Addr}{o:Option (List IV)}{Qs:List SP} (hr:w.ownsRow 0 32 1 r xs.length (xs.map iv)) (hnn:xs.length≤10000) (hl:olen o≤1000000) (hVr:∀ g,r.ownBlock=some g→V g) (hV:∀ k,V k→k < w.heap.size) (hP:HoldsP (PathP o) G w ((86,r),q)) (hQ:KidsQ V w o (enumA 0 xs) Qs) (hVC:∀ k,V k→C k) (hGC:∀ k,G k→C k) :
  Calls Tryz.prog 92 #[spv ((86,r),q)] w (MadeC Qs C w):=by
 have m3:=hitVArray
 obtain ⟨p,m,c,rfl⟩:=owns_shape1 hr
 have HM:Hid (MadeC Qs C w (.returned (.func (.func 145) #[] #[.pointer (some ⟨w.heap.size+1,0,none⟩),.pointer (some ⟨w.heap.size+2,0,none⟩),.pointer (some ⟨w.heap.size,0,none⟩)])) (((w.alloc (.cells #[.iface 86 (.slice p m c),.pointer q] 75)).alloc (.cells #[.int .i64 0] 3)).alloc (.cells #[.slice p m c] 86))):=by
  obtain ⟨wA,hA,kW,ws,wn,wv,wl⟩:=parts_boxes w ((86,.slice p m c),q) (.slice p m c) 86
  simp only [iv] at hA
  rw [← hA]
  obtain ⟨hq1,hq2⟩:=hQ
  rw [enumA_len] at hq1
  have hPl:=hP.1
  have hsV:SameOn V w wA:=fun k hk=>kW.block k (hV k hk)
  refine .mk' kW (partsA_g (V:=V) (G:=G) (o:=o) (xs:=xs) hnn hl (by grind) hVr (by grind) Qs 0 (by omega) wn wv ws (owns_same hr (fun g hg=>hsV g (hVr g hg))) (by grind) (hP.move (fun k hk=>kW.block k (hPl k hk)) kW.size) ?_) (by grind) (by grind)
  intro j Q hj
  obtain ⟨⟨st,y⟩,hk,hst⟩:=hq2 j Q hj
  obtain ⟨e1,e2⟩:=enumA_at 0 xs j hk
  rw [Nat.zero_add] at e1 ⊢
  rw [e1] at hst
  exact ⟨y,e2,hst.move hsV kW.size⟩
 clear hr hP hQ
 simp only [spv,iv]
 go_enter Tryz.func92,Tryz.ntmps92
 go_wp2_with fail
 go_ret
 exact HM.out
theorem parts_objg {C V G:Nat→Prop}{w:World}{r:Value}{L:List El}{q:Option Addr}{o:Option (List IV)}{Qs:List SP} (hr:w.ownsRow 0 107 2 r L.length (L.flatMap elC)) (hnn:L.length≤10000) (hl:olen o≤1000000) (hVr:∀ g,r.ownBlock=some g→V g) (hV:∀ k,V k→k < w.heap.size) (hP:HoldsP (PathP o) G w ((102,r),q)) (hQ:KidsQ V w o (L.map fun e=>(strS e.1,e.2.1)) Qs) (hVC:∀ k,V k→C k) (hGC:∀ k,G k→C k) :
  Calls Tryz.prog 92 #[spv ((102,r),q)] w (MadeC Qs C w):=by
 have m3:=missVArray
 have m4:=hitVObject
 obtain ⟨p,m,c,rfl⟩:∃ p m c,r = .slice p m c:=by
  rcases hr.2 with ⟨e,_⟩ | ⟨g,cap,cur,e,_⟩
  ·exact ⟨_,_,_,e⟩
  ·exact ⟨_,_,_,e⟩
 have HM:Hid (MadeC Qs C w (.returned (.func (.func 146) #[] #[.pointer (some ⟨w.heap.size+1,0,none⟩),.pointer (some ⟨w.heap.size+2,0,none⟩),.pointer (some ⟨w.heap.size,0,none⟩)])) (((w.alloc (.cells #[.iface 102 (.slice p m c),.pointer q] 75)).alloc (.cells #[.int .i64 0] 3)).alloc (.cells #[.slice p m c] 102))):=by
  obtain ⟨wA,hA,kW,ws,wn,wv,wl⟩:=parts_boxes w ((102,.slice p m c),q) (.slice p m c) 102
  simp only [iv] at hA
  rw [← hA]
  obtain ⟨hq1,hq2⟩:=hQ
  rw [List.length_map] at hq1
  have hPl:=hP.1
  have hsV:SameOn V w wA:=fun k hk=>kW.block k (hV k hk)
  refine .mk' kW (partsO_g (V:=V) (G:=G) (o:=o) (L:=L) rfl hnn hl (by grind) hVr (by grind) Qs 0 (by omega) wn wv ws (owns_same hr (fun g hg=>hsV g (hVr g hg))) (by grind) (hP.move (fun k hk=>kW.block k (hPl k hk)) kW.size) ?_) (by grind) (by grind)
  intro j Q hj
  obtain ⟨k,hk,hst⟩:=hq2 j Q hj
  rw [List.getElem?_map] at hk
  rw [Nat.zero_add]
  cases hLj:L[j]? with
  | none=>rw [hLj] at hk;cases hk
  | some e =>
   rw [hLj] at hk
   cases hk
   exact ⟨e,rfl,hst.move hsV kW.size⟩
 clear hr hP hQ
 simp only [spv,iv]
 go_enter Tryz.func92,Tryz.ntmps92
 go_wp2_with fail
 go_ret
 exact HM.out
theorem parts_leafg {C:Nat→Prop}{w:World}{x:IV}{q:Option Addr} (hx:leafK x):Calls Tryz.prog 92 #[spv (x,q)] w (MadeC [] C w):=by
 have m3:=missVArray
 have m4:=missVObject
 have HM:∀ w',Below w.heap.size w w'→MadeC [] C w (.returned (.func (.func 19) #[] #[])) w':=fun w' k=>.mk' k (.ofNone (none_str w')) (fun _ h=>h.elim) (fun _ h=>h.elim)
 simp only [spv,iv]
 rcases hx with rfl | ⟨b,rfl⟩ | ⟨n,_,_,rfl⟩ | ⟨t,rfl⟩
 all_goals
  go_enter Tryz.func92,Tryz.ntmps92
  go_wp2_with fail
  go_ret
  exact HM _ (below_alloc2 w _ _)
theorem parts_g {C V G:Nat→Prop}{w:World}{x:IV}{ks:List (IV×IV)}{q:Option Addr}{o:Option (List IV)}{Qs:List SP} (hk:KidsR V w x ks) (hl:olen o≤1000000) (hV:∀ k,V k→k < w.heap.size) (hP:HoldsP (PathP o) G w (x,q)) (hQ:KidsQ V w o ks Qs) (hVC:∀ k,V k→C k) (hGC:∀ k,G k→C k) :
  Calls Tryz.prog 92 #[spv (x,q)] w (MadeC Qs C w):=by
 rcases hk with ⟨h,rfl⟩ | ⟨r,xs,rfl,o1,h1,h2,rfl⟩ | ⟨r,L,rfl,o1,h0,h1,h2,rfl⟩
 ·have:Qs=[]:=List.eq_nil_of_length_eq_zero (by simpa using hQ.1.symm)
  subst this
  exact parts_leafg h
 ·exact parts_arrg o1 h1 hl h2 hV hP hQ hVC hGC
 ·exact parts_objg o1 h1 hl h2 hV hP hQ hVC hGC
end Go.Proofs.Tryz
namespace Go.Proofs.Tryz
set_option maxHeartbeats 16000000
open Go.RowKit Go.Shelf
set_option maxRecDepth 10000
def NodeP (ro:Bool) (n:Node):SP:=fun w s=>s.1=n.1∧PathO w (if ro then some n.2 else none) s.2
def StkS (V:Nat→Prop) (ro:Bool) (W:World):List (Value×List (Node×List Node))→(Nat→Prop)→(Nat→Prop)→Prop
 | [],F,D=>(∀ k,¬ F k)∧∀ k,¬ D k
 | e :: rest,F,D=>∃ F1 D1 F2 D2,StG (e.2.map fun x=>NodeP ro x.1) F1 D1 W e.1∧Tours V W e.2∧(∀ x∈e.2.flatMap (·.2),x.2.length≤10000)∧StkS V ro W rest F2 D2∧(∀ k,D1 k→¬ F2 k)∧(∀ k,D2 k→¬ F1 k)∧(∀ k,F k↔F1 k∨F2 k)∧(∀ k,D k↔D1 k∨D2 k)
theorem StkS.lt {V:Nat→Prop}{ro:Bool}{W:World}:∀ {stk:List (Value×List (Node×List Node))}{F D:Nat→Prop},StkS V ro W stk F D→∀ k,F k→k < W.heap.size
 | [],F,D,h,k,hk=>absurd hk (h.1 k)
 | e :: rest,F,D,⟨F1,D1,F2,D2,hS,_,_,hR,_,_,hF,_⟩,k,hk=>((hF k).1 hk).elim (hS.lt k) (hR.lt k)
theorem StkS.sub {V:Nat→Prop}{ro:Bool}{W:World}:∀ {stk:List (Value×List (Node×List Node))}{F D:Nat→Prop},StkS V ro W stk F D→∀ k,D k→F k
 | [],F,D,h,k,hk=>absurd hk (h.2 k)
 | e :: rest,F,D,⟨F1,D1,F2,D2,hS,_,_,hR,_,_,hF,hD⟩,k,hk=>(hF k).2 (((hD k).1 hk).imp (hS.sub k) (hR.sub k))
theorem StkS.after {V X:Nat→Prop}{ro:Bool}{W W':World} (hs:Fr X W W') (hVX:∀ k,V k→¬ X k) (hV:∀ k,V k→k < W.heap.size):∀ {stk:List (Value×List (Node×List Node))}{F D:Nat→Prop},(∀ k,F k→¬ X k)→StkS V ro W stk F D→StkS V ro W' stk F D
 | [],F,D,_,h=>h
 | e :: rest,F,D,hX,⟨F1,D1,F2,D2,hS,hT,hL,hR,h1,h2,hF,hD⟩=>⟨F1,D1,F2,D2,hS.after hs (fun k hk=>hX k ((hF k).2 (.inl hk))),hT.move (hs.same hV hVX),hL,StkS.after hs hVX hV (fun k hk=>hX k ((hF k).2 (.inr hk))) hR,h1,h2,hF,hD⟩
theorem StkS.shape {V:Nat→Prop}{ro:Bool}{W:World}:∀ {stk:List (Value×List (Node×List Node))}{F D:Nat→Prop},StkS V ro W stk F D→∀ e∈stk,∃ K cap,e.1 = .func (.func K) #[] cap
 | e :: rest,F,D,⟨F1,D1,F2,D2,hS,_,_,hR,_⟩,x,hx=>by
  rcases List.mem_cons.1 hx with rfl | hx
  ·exact hS.shape
  ·exact hR.shape x hx
def stkOut (stk:List (Value×List (Node×List Node))):List Node:=stk.flatMap fun e=>e.2.flatMap (·.2)
theorem topRow {w:World}{B e N:Nat}{v f:Value}{xs:List Value} (hN:xs.length=N) (ow:w.ownsRow B e 1 v (N+1) (xs ++ [f])):∃ g cap,v = .slice (some ⟨g,0,none⟩) (N+1) cap∧B≤g∧N+1≤cap∧cap≤9223372036854775807∧w.cell? ⟨g,N,none⟩=some f∧g < w.heap.size:=by
 rcases ow.2 with ⟨_,h0⟩ | ⟨g,cap,cur,e1,hg,hb,hn,hm,hs,ht⟩
 ·omega
 ·have h2:cur.toList[N]? = some f:=by
   rw [← List.getElem?_take_of_lt (show N < (N+1) * 1 by omega),ht,List.getElem?_append_right (by omega),hN,Nat.sub_self]
   rfl
  exact ⟨g,cap,e1,hg,hn,by simpa [maxLen] using hm,cells_cell hb (by simpa using h2),lt_of_block hb⟩
theorem popRow {w:World}{B e g N cap:Nat}{f:Value}{xs:List Value} (hN:xs.length=N) (h:w.ownsRow B e 1 (.slice (some ⟨g,0,none⟩) (N+1) cap) (N+1) (xs ++ [f])):w.ownsRow B e 1 (.slice (some ⟨g,0,none⟩) N cap) N xs:=by
 obtain ⟨hl,h⟩:=h
 refine ⟨by omega,.inr ?_⟩
 rcases h with ⟨e1,_⟩ | ⟨g',cap',cur,e1,hg,hb,hn,hm,hs,ht⟩
 ·cases e1
 ·cases e1
  refine ⟨g,cap,cur,rfl,hg,hb,by omega,hm,hs,?_⟩
  have:=congrArg (List.take (N * 1)) ht
  rw [List.take_take,Nat.min_eq_left (by omega),List.take_append_of_le_length (by omega),List.take_of_length_le (l:=xs) (by omega)] at this
  exact this
theorem kidsq_of {V:Nat→Prop}{w:World}{ro:Bool}{n:Node}{ks:List (IV×IV)}{es:List (Node×List Node)} (h:es.map (·.1)=ks.map (fun k=>(k.2,k.1 :: n.2))):KidsQ V w (if ro then some n.2 else none) ks (es.map fun e=>NodeP ro e.1):=by
 have hl:=congrArg List.length h
 simp only [List.length_map] at hl
 refine ⟨by simp [hl],fun j Q hj=>?_⟩
 rw [List.getElem?_map] at hj
 cases he:es[j]? with
 | none=>rw [he] at hj;cases hj
 | some e =>
  rw [he] at hj
  simp only [Option.map_some,Option.some.injEq] at hj
  subst hj
  have hjl:j < ks.length:=by rw [← hl];exact (List.getElem?_eq_some_iff.1 he).1
  have h2:(es.map (·.1))[j]? = (ks.map (fun k=>(k.2,k.1 :: n.2)))[j]?:=by rw [h]
  rw [List.getElem?_map,List.getElem?_map,he,List.getElem?_eq_getElem hjl] at h2
  simp only [Option.map_some,Option.some.injEq] at h2
  refine ⟨ks[j],List.getElem?_eq_getElem hjl,fun w' q' _ _ hp=>?_⟩
  unfold NodeP
  rw [h2]
  refine ⟨rfl,?_⟩
  cases ro <;> exact hp
theorem parts_node {V G:Nat→Prop}{w:World}{ro:Bool}{n:Node}{ks:List (IV×IV)}{es:List (Node×List Node)}{s:Sp} (hk:KidsR V w n.1 ks) (hks:es.map (·.1)=ks.map (fun k=>(k.2,k.1 :: n.2))) (hl:n.2.length≤10000) (hV:∀ k,V k→k < w.heap.size) (hP:HoldsP (NodeP ro n) G w s):Calls Tryz.prog 92 #[spv s] w (MadeC (es.map fun e=>NodeP ro e.1) (fun k=>V k∨G k) w):=by
 obtain ⟨x,q⟩:=s
 have hx:x=n.1:=hP.here.1
 subst hx
 have hPp:HoldsP (PathP (if ro then some n.2 else none)) G w (n.1,q):=hP.to (fun _ h=>h.2)
 have ho:olen (if ro then some n.2 else none)≤1000000:=by
  cases ro
  ·exact Nat.zero_le _
  ·show n.2.length≤1000000
   omega
 exact parts_g (C:=fun k=>V k∨G k) hk ho hV hPp (kidsq_of hks) (fun _ h=>.inl h) (fun _ h=>.inr h)
structure DescS (V:Nat→Prop) (ro:Bool) (bb:Nat) (v:Value) (stk:List (Value×List (Node×List Node))) (F D:Nat→Prop) (W:World):Prop where
 box:Box W bb v 199
 row:W.ownsRow 0 66 1 v stk.length (stk.reverse.map (·.1))
 hF:∀ k,F k→k≠bb∧some k≠v.ownBlock
 hVb:∀ k,V k→k≠bb∧some k≠v.ownBlock
 stk:StkS V ro W stk F D
 hV:∀ k,V k→k < W.heap.size
 hDV:∀ k,D k→¬ V k
def DescQ (V:Nat→Prop) (ro:Bool) (bb:Nat) (v:Value) (out:List Node) (F D:Nat→Prop) (w:World) (e:Ending) (w':World):Prop:=Fr (fun k=>D k∨k=bb∨some k=v.ownBlock) w w'∧
 (out=[]→e = .returned (.tuple #[.agg #[.nilIface,.pointer none],.bool false]))∧
 ∀ n R,out=n :: R→∃ s G v' stk' F' D',e = .returned (.tuple #[spv s,.bool true])∧HoldsP (NodeP ro n) G w' s∧DescS V ro bb v' stk' F' D' w'∧stkOut stk'=R∧stk'.length+R.length≤20000∧
  (∀ k,F' k→F k∨V k∨w.heap.size≤k)∧(∀ k,D' k→D k∨w.heap.size≤k)∧(∀ k,some k=v'.ownBlock→some k=v.ownBlock∨w.heap.size≤k)∧(∀ k,G k→F k∨V k∨w.heap.size≤k)∧(∀ k,G k→¬ D' k∧k≠bb∧some k≠v'.ownBlock)
theorem desc_push {V:Nat→Prop}{ro:Bool}{bb g g4 N cap4:Nat}{v f f2:Value}{x:Node×List Node}{es es2:List (Node×List Node)}{rest:List (Value×List (Node×List Node))}{F D F1 D1 F2 D2 F3 D3 F4 D4 F' D' G:Nat→Prop}{w wr w1 w2 w4:World}{T:Nat}{u:Value}{q:Option Addr}{o:Obj}{out:List Node} (hN:rest.length=N) (hwl:w.heap.size < wr.heap.size) (hFl:∀ k,F k→k < w.heap.size) (hVw:∀ k,V k→k < w.heap.size) (hbl:bb < w.heap.size) (hgw:g < wr.heap.size∧g≠w.heap.size)
  (hfr:Fr (fun k=>D k∨k=bb∨some k=v.ownBlock) w wr) (k1:Fr D1 wr w1) (kC:Below w1.heap.size w1 w2) (gr4:(w2.alloc o).grownBy w4 (some g)) (hat4:g4=g∨g4=w2.heap.size+1) (ow4:w4.ownsRow 0 66 1 (.slice (some ⟨g4,0,none⟩) (N+1+1) cap4) (N+1+1) ((rest.reverse.map (·.1) ++ [f]) ++ [f2])) (c7:∃ v,Box w4 bb v 199)
  (hP:HoldsP (NodeP ro x.1) G w1 ((T,u),q)) (hS3:StG (es.map fun x=>NodeP ro x.1) F3 D3 w1 f) (hF3:∀ k,F3 k→F1 k∨wr.heap.size≤k) (hD3:∀ k,D3 k→D1 k∨wr.heap.size≤k) (hG:∀ k,G k→F1 k∨wr.heap.size≤k) (hGD:∀ k,G k→¬ D3 k)
  (hS4:StG (es2.map fun x=>NodeP ro x.1) F4 D4 w2 f2) (hF4:∀ k,F4 k→(V k∨G k)∨w1.heap.size+1≤k) (hD4:∀ k,D4 k→w1.heap.size+1≤k)
  (hR:StkS V ro wr rest F2 D2) (hF1l:∀ k,F1 k→k < wr.heap.size) (hD1s:∀ k,D1 k→F1 k) (h1:∀ k,D1 k→¬ F2 k) (h2:∀ k,D2 k→¬ F1 k) (h3:∀ k,F' k↔F1 k∨F2 k) (h4:∀ k,D' k↔D1 k∨D2 k) (hFF:∀ k,F' k→F k) (hDD:∀ k,D' k→D k) (hbF:∀ k,F' k→k≠bb∧some k≠some g) (hVb:∀ k,V k→k≠bb∧some k≠some g) (hDV:∀ k,D' k→¬ V k)
  (hT2:Tours V wr es2) (hT:Tours V wr es) (hL:∀ y∈(x :: es).flatMap (·.2),y.2.length≤10000) (hx2:x.2=x.1 :: es2.flatMap (·.2)) (hout:stkOut ((f,x :: es) :: rest)=out) (hko:N+1+out.length≤20000) (hvv:v.ownBlock=some g) :
  DescQ V ro bb v out F D w (.returned (.tuple #[spv ((T,u),q),.bool true])) (((w4.setCell ⟨bb,0,none⟩ (.slice (some ⟨g4,0,none⟩) (N+1+1) cap4)).setCell ⟨w.heap.size,0,none⟩ (.iface T u)).setCell ⟨w.heap.size,1,none⟩ (.pointer q)):=by
 obtain ⟨wE,hE⟩:∃ wE,wE=((w4.setCell ⟨bb,0,none⟩ (.slice (some ⟨g4,0,none⟩) (N+1+1) cap4)).setCell ⟨w.heap.size,0,none⟩ (.iface T u)).setCell ⟨w.heap.size,1,none⟩ (.pointer q):=⟨_,rfl⟩
 have fr2:Fr (fun k=>k=bb∨k=g∨k=w.heap.size) w2 w4:=((Fr.refl _ w2).alloc o).trans (E:=fun k=>some k=some g) ⟨gr4.os,gr4.tape,gr4.output,gr4.size,fun k hk e=>gr4.block k hk e⟩ (fun k _ e=>.inr (.inl (by simpa using e)))
 have fr4:Fr (fun k=>k=bb∨k=g∨k=w.heap.size) w2 wE:=by
  rw [hE]
  exact ((fr2.setCell _ (.inl (.inl rfl))).setCell _ (.inl (.inr (.inr rfl)))).setCell _ (.inl (.inr (.inr rfl)))
 have fr1:Fr (fun k=>k=bb∨k=g∨k=w.heap.size) w1 wE:=(Fr.of_below (D:=fun k=>k=bb∨k=g∨k=w.heap.size) kC).trans fr4 (fun _ _ e=>e)
 have frw:Fr (fun k=>D1 k∨k=bb∨k=g∨k=w.heap.size) wr wE:=(k1.mono (E:=fun k=>D1 k∨k=bb∨k=g∨k=w.heap.size) (fun _ e=>.inl e)).trans fr1 (fun _ _ e=>.inr e)
 have s1:=k1.size
 have s2:=kC.size
 have s4:=fr4.size
 have hGl:=hP.1
 have l3:=hS3.lt
 have l4:=hS4.lt
 have l2:=hR.lt
 have u3:=hS3.sub
 have u4:=hS4.sub
 have u2:=hR.sub
 have hbr:bb < wr.heap.size:=by omega
 have hb1:bb < w1.heap.size:=by omega
 obtain ⟨v7,c7⟩:=c7
 have gbb:bb≠g4:=by
  rcases hat4 with e | e
  ·intro e2
   have hr:=own_otherg ow4 c7 (fun cs h=>by simp at h)
   simp [Value.ownBlock] at hr
   omega
  ·omega
 have gwl:w.heap.size≠g4:=by
  rcases hat4 with e | e
  ·rw [e];exact fun h=>hgw.2 h.symm
  ·omega
 have ne:∀ k,some k≠some g↔k≠g:=fun k=>by simp
 simp only [ne] at hbF hVb
 rw [← hE]
 refine ⟨hfr.trans frw (fun k hk e=>?_),fun h=>?_,fun n R hn=>?_⟩
 ·rcases e with e | e | e | e
  ·exact .inl (hDD k ((h4 k).2 (.inl e)))
  ·exact .inr (.inl e)
  ·exact .inr (.inr (by rw [hvv,e]))
  ·omega
 ·rw [← hout] at h
  simp [stkOut,hx2] at h
 ·have hn':x.1=n∧stkOut ((f2,es2) :: (f,es) :: rest)=R:=by
   rw [← hout] at hn
   simp only [stkOut,List.flatMap_cons,hx2,List.cons_append,List.cons.injEq] at hn
   refine ⟨hn.1,?_⟩
   rw [← hn.2]
   simp only [stkOut,List.flatMap_cons,List.append_assoc]
  obtain ⟨rfl,hR'⟩:=hn'
  have hlR:out.length=R.length+1:=by rw [hn];rfl
  refine ⟨((T,u),q),G,.slice (some ⟨g4,0,none⟩) (N+1+1) cap4,(f2,es2) :: (f,es) :: rest,fun k=>F4 k∨F3 k∨F2 k,fun k=>D4 k∨D3 k∨D2 k,rfl,hP.after fr1 (by grind),⟨?_,?_,?_,?_,?_,?_,?_⟩,hR',by simp [hN];omega,by grind,by grind,?_,by grind,?_⟩
  ·rw [hE]
   refine Box.same (Box.set c7 _) ?_
   rw [Below.heap_setCell _ _ _ _ (by simp;omega),Below.heap_setCell _ _ _ _ (by simp;omega)]
  ·rw [hE]
   simp only [List.length_cons,hN,List.reverse_cons,List.map_append,List.map_cons,List.map_nil]
   refine owns_same ow4 (fun j hj=>?_)
   have:g4=j:=by simpa [Value.ownBlock] using hj
   subst this
   rw [Below.heap_setCell _ _ _ _ (by simp;omega),Below.heap_setCell _ _ _ _ (by simp;omega),Below.heap_setCell _ _ _ _ (by simp;omega)]
  ·simp only [Value.ownBlock]
   intro k hk
   have:k≠bb∧k≠g4:=by grind
   exact ⟨this.1,by simp;exact this.2⟩
  ·simp only [Value.ownBlock]
   intro k hk
   have:k≠bb∧k≠g4:=by grind
   exact ⟨this.1,by simp;exact this.2⟩
  ·refine ⟨F4,D4,fun k=>F3 k∨F2 k,fun k=>D3 k∨D2 k,hS4.after fr4 (by grind),hT2.move (frw.same (by grind) (by grind)),?_,⟨F3,D3,F2,D2,hS3.after fr1 (by grind),hT.move (frw.same (by grind) (by grind)),?_,hR.after frw (by grind) (by grind) (by grind),by grind,by grind,by grind,by grind⟩,by grind,by grind,by grind,by grind⟩
   ·intro y hy
    exact hL y (by rw [List.flatMap_cons,hx2];simp only [List.mem_append,List.mem_cons];exact .inl (.inr hy))
   ·intro y hy
    exact hL y (by rw [List.flatMap_cons];exact List.mem_append.2 (.inr hy))
  ·grind
  ·grind
  ·intro k hk
   have e0:k=g4:=by simpa [Value.ownBlock] using hk
   rcases hat4 with e | e
   ·exact .inl (by rw [hvv,e0,e])
   ·exact .inr (by omega)
  ·simp only [Value.ownBlock]
   intro k hk
   have:¬ (D4 k∨D3 k∨D2 k)∧k≠bb∧k≠g4:=by grind
   exact ⟨this.1,this.2.1,by simp;exact this.2.2⟩
theorem descent1_g {V:Nat→Prop}{ro:Bool}{bb:Nat}{v:Value}{stk:List (Value×List (Node×List Node))}{F D:Nat→Prop}{w:World} (h:DescS V ro bb v stk F D w) (hlen:stk.length+(stkOut stk).length≤20000) :
  Calls Tryz.prog 91 #[.pointer (some ⟨bb,0,none⟩)] w (DescQ V ro bb v (stkOut stk) F D w):=by
 obtain ⟨i0,hi0,hz0,hz1,hz2⟩:=info_parts (show (Tryz.prog.info? 66).map (fun i=>(i.zero,i.size,i.bytes))=some (some .nilFunc,1,8) by kernel_rfl)
 obtain ⟨out,hout⟩:∃ out,stkOut stk=out:=⟨_,rfl⟩
 rw [hout] at hlen ⊢
 have HO:Hid (stkOut stk=out):=hout
 clear hout
 have H:Aside (DescS V ro bb v stk F D w):=h
 have hbl:=h.box.lt
 clear h
 go_enter Tryz.func91,Tryz.ntmps91
 go_wp2_with fail
 go_loopg [] stk.length (fun k wr=>∃ (v':Value) (stk':List (Value×List (Node×List Node))) (F' D':Nat→Prop),stk'.length=k∧k+out.length≤20000∧SpotBox wr w.heap.size .nilIface∧Aside (DescS V ro bb v' stk' F' D' wr∧stkOut stk'=out∧(∀ k,F' k→F k)∧(∀ k,D' k→D k)∧v'.ownBlock=v.ownBlock∧Fr (fun k=>D k∨k=bb∨some k=v.ownBlock) w wr))
 case atStart =>
  have h:=H.out
  have hF:=h.stk.lt
  have hro:=h.row
  have hVl:=h.hV
  have k0:Fr (fun _=>False) w (w.alloc (.cells #[.nilIface,.pointer none] 75)):=(Fr.refl _ _).alloc _
  refine ⟨v,stk,F,D,rfl,hlen,SpotBox.new w _,⟨h.box.same (k0.block _ h.box.lt (fun e=>e)),owns_same h.row (fun q hq=>k0.block q (hro.lt q hq).2 (fun e=>e)),h.hF,h.hVb,h.stk.after k0 (fun _ _ e=>e) h.hV (fun _ _ e=>e),fun k hk=>Nat.lt_of_lt_of_le (h.hV k hk) k0.size,h.hDV⟩,HO.out,fun _ h=>h,fun _ h=>h,rfl,(Fr.refl _ _).alloc _⟩
 case round =>
  obtain ⟨v',stk',F',D',hk,hko,hsp,HR⟩:=hrel
  obtain ⟨hE,hout,hFF,hDD,hvv,hfr⟩:=HR.out
  have hbox:=hE.box
  have b0:=hbox.cell
  have b1:=hbox.free
  have b2:=hbox.lt
  have hwl:=hsp.lt
  cases stk' with
  | nil =>
   obtain ⟨sp,sc,rfl⟩:∃ sp sc,v'=Value.slice sp 0 sc:=by
    rcases hE.row.2 with ⟨e,h0⟩ | ⟨_,_,_,e,_⟩
    ·exact ⟨none,0,e⟩
    ·exact ⟨_,_,e⟩
   clear hE hout hbox
   go_wp2_with (go_at_call 19;refine (none_calls _).mono ?_;rintro e w1 ⟨rfl,k1⟩;have q:SpotBox w1 w.heap.size .nilIface:=hsp.same (k1.block _ hsp.lt);obtain ⟨q0,q1,q2,q3,q4⟩:=q.facts)
   obtain ⟨_,hout,_⟩:=HR.out
   refine bodyPost_ret (v:=.tuple #[.agg #[.nilIface,.pointer none],.bool false]) (by simp [results,Tryz.results91,go_sem,q4,q0,q1]) rfl ⟨?_,fun _=>rfl,fun n R hn=>by rw [← hout] at hn;simp [stkOut] at hn⟩
   exact ((hfr.trans (Fr.of_below (D:=fun _=>False) k1) (fun _ _ e=>e.elim)).setCell _ (.inr (Nat.le_refl _))).setCell _ (.inr (Nat.le_refl _))
  | cons e rest =>
   obtain ⟨f,es⟩:=e
   obtain ⟨F1,D1,F2,D2,hS,hT,hL,hR,h1,h2,h3,h4⟩:=hE.stk
   obtain ⟨K,cap1,hfe⟩:=hS.shape
   simp only at hfe
   subst hfe
   have hEn:∀ (args:Array Value) (w:World),(callFunc K args).run Tryz.prog w = .ok (.enter K args) w:=hS.enters
   obtain ⟨N,hN⟩:∃ N,rest.length=N:=⟨_,rfl⟩
   have hrow:=hE.row
   rw [List.reverse_cons,List.map_append,List.length_cons,hN] at hrow
   have hxl:(rest.reverse.map (·.1)).length=N:=by simp [hN]
   obtain ⟨g,cap,rfl,_,hcap,hcm,g0,hgl⟩:=topRow hxl hrow
   have z1:(N:Int) < ((N+1:Nat):Int):=by omega
   have z2:(0:Int)≤(N:Int):=by omega
   have z3:(((N+1:Nat):Int)) - 1=(N:Int):=by omega
   have hNb:N≤20000:=by simp [hN] at hk;omega
   have z5:IntKind.i64.wrap (((N+1:Nat):Int) - 1)=(N:Int):=by rw [z3,IntKind.wrap_i64];omega
   have z6:(0:Int) < ((N+1:Nat):Int):=by omega
   have z7:IntKind.i64.wrap ((N:Int)+1 - 1)=(N:Int):=by rw [IntKind.wrap_i64];omega
   have z8:(N:Int)≤(cap:Int):=by omega
   have hF1l:=hS.lt
   have hD1s:=hS.sub
   have hRl:=hR.lt
   have hRs:=hR.sub
   have hbF:=hE.hF
   have hVb:=hE.hVb
   have hVl:=hE.hV
   have hDV:=hE.hDV
   have d0:¬ D1 bb:=fun e=>(hbF bb ((h3 bb).2 (.inl (hD1s bb e)))).1 rfl
   have d1:¬ D1 g:=fun e=>(hbF g ((h3 g).2 (.inl (hD1s g e)))).2 rfl
   have hFl:∀ k,F k→k < w.heap.size:=H.out.stk.lt
   have d2:¬ D1 w.heap.size:=fun e=>by have:=hFl _ (hFF _ ((h3 _).2 (.inl (hD1s _ e))));omega
   cases es with
   | nil =>
    obtain ⟨K',cap',eK,_,_,_,hcall⟩:=hS
    cases eK
    have HC:Aside (∀ w',SameOn F1 wr w'→wr.heap.size≤w'.heap.size→Calls Tryz.prog K cap1 w' fun e w''=>Fr D1 w' w''∧e = .returned (.tuple #[.agg #[.nilIface,.pointer none],.bool false])):=hcall
    have HRW:Aside (wr.ownsRow 0 66 1 (.slice (some ⟨g,0,none⟩) (N+1) cap) (N+1) (rest.reverse.map (·.1) ++ [.func (.func K) #[] cap1])):=hrow
    have HBX:Aside (Box wr bb (.slice (some ⟨g,0,none⟩) (N+1) cap) 199):=hbox
    have HE:Aside (StkS V ro wr rest F2 D2):=hR
    have HN:Hid (rest.length=N):=hN
    clear hcall hrow hbox hR hE hout hT hL hxl hN
    go_wp2_with (go_at_fn K;refine (HC.out _ (SameOn.refl _ _) (Nat.le_refl _)).mono ?_;rintro e w1 ⟨k1,rfl⟩;have hl1:=k1.size;have c1:Box w1 bb (.slice (some ⟨g,0,none⟩) (N+1) cap) 199:=HBX.out.same (k1.block _ b2 d0);have c2:=c1.cell;have c3:=c1.free;have c4:=c1.lt)
    obtain ⟨hE,hout,_⟩:=HR.out
    have kS:Fr (fun k=>D1 k∨k=bb) wr ((w1.setCell ⟨bb,0,none⟩ (.slice (some ⟨g,0,none⟩) N cap)).alloc (.cells #[.nilIface,.pointer none] 75)):=((k1.mono (E:=fun k=>D1 k∨k=bb) (fun _ e=>.inl e)).setCell _ (.inl (.inr rfl))).alloc _
    go_roundg N
    case measure=>simp [HN.out] at hk;omega
    case rel =>
     refine ⟨.slice (some ⟨g,0,none⟩) N cap,rest,F2,D2,HN.out,by simp [HN.out] at hk;omega,hsp.same (kS.block _ hwl (by grind)),⟨?_,?_,?_,?_,HE.out.after kS (by grind) hVl (by grind),?_,by grind⟩,?_,by grind,by grind,hvv,?_⟩
     ·exact (c1.set _).same (Below.heap_alloc _ _ _ (by simpa using c4))
     ·rw [HN.out]
      exact owns_same (popRow (by simp [HN.out]) HRW.out) (fun q hq=>kS.block q (HRW.out.lt q hq).2 (by
       have:q=g:=by simpa [Value.ownBlock] using hq.symm
       subst this
       rintro (e | e)
       ·exact d1 e
       ·subst e
        exact own_otherg HRW.out HBX.out (fun cs h=>by simp at h) rfl))
     ·intro k hk
      exact hbF k ((h3 k).2 (.inr hk))
     ·exact hVb
     ·intro k hk
      exact Nat.lt_of_lt_of_le (hVl k hk) kS.size
     ·rw [← hout];simp [stkOut]
     ·exact hfr.trans kS (by grind)
   | cons x es =>
    obtain ⟨K',cap',eK,_,_,_,hcall⟩:=hS
    cases eK
    have HC:Aside (∀ w',SameOn F1 wr w'→wr.heap.size≤w'.heap.size→Calls Tryz.prog K cap1 w' fun e w''=>Fr D1 w' w''∧∃ s G F' D',e = .returned (.tuple #[spv s,.bool true])∧HoldsP (NodeP ro x.1) G w'' s∧StG (es.map fun x=>NodeP ro x.1) F' D' w'' (.func (.func K) #[] cap1)∧(∀ k,F' k→F1 k∨w'.heap.size≤k)∧(∀ k,D' k→D1 k∨w'.heap.size≤k)∧(∀ k,G k→F1 k∨w'.heap.size≤k)∧(∀ k,G k→¬ D' k)):=hcall
    have HRW:Aside (wr.ownsRow 0 66 1 (.slice (some ⟨g,0,none⟩) (N+1) cap) (N+1) (rest.reverse.map (·.1) ++ [.func (.func K) #[] cap1])):=hrow
    have HBX:Aside (Box wr bb (.slice (some ⟨g,0,none⟩) (N+1) cap) 199):=hbox
    have HE:Aside (StkS V ro wr rest F2 D2):=hR
    have HN:Hid (rest.length=N):=hN
    obtain ⟨dx,htx⟩:=hT x (.head _)
    obtain ⟨ks,es2,hkr,hks,hx2,htr⟩:=tour_open htx
    have HK:Aside (KidsR V wr x.1.1 ks):=hkr
    have HT2:Aside (Tours V wr es2∧Tours V wr es∧(∀ y∈(x :: es).flatMap (·.2),y.2.length≤10000)):=⟨htr,fun e he=>hT e (.tail _ he),hL⟩
    have HKS:Hid (es2.map (·.1)=ks.map (fun k=>(k.2,k.1 :: x.1.2))):=hks
    have HX2:Hid (x.2=x.1 :: es2.flatMap (·.2)):=hx2
    clear hcall hrow hbox hR hE hout hT hL hxl hN hkr htr hks hx2 htx
    go_wp2_with (go_at_fn K;refine (HC.out _ (SameOn.refl _ _) (Nat.le_refl _)).mono ?_;rintro e w1 ⟨k1,⟨⟨T,u⟩,q⟩,G,F3,D3,rfl,hP,hS3,hF3,hD3,hG,hGD⟩;simp only [spv,iv];have hl1:=k1.size;have c1:Box w1 bb (.slice (some ⟨g,0,none⟩) (N+1) cap) 199:=HBX.out.same (k1.block _ b2 d0);have c2:=c1.cell;have c3:=c1.free;have c4:=c1.lt)
    have hGl:=hP.1
    have hS3l:=hS3.lt
    have hS3s:=hS3.sub
    have hV1:SameOn V wr w1:=k1.same hVl (by grind)
    obtain ⟨wB,hB⟩:∃ wB,wB=w1.alloc (.cells #[.iface T u,.pointer q] 75):=⟨_,rfl⟩
    have kB:Below w1.heap.size w1 wB:=hB ▸ below_alloc w1 _
    have so:SpotB wB w1.heap.size ((T,u),q):=hB ▸ SpotB.new w1 ((T,u),q)
    have wBl:wB.heap.size=w1.heap.size+1:=by rw [hB];simp
    have c5:Box wB bb (.slice (some ⟨g,0,none⟩) (N+1) cap) 199:=c1.same (kB.block _ c4)
    have HP:Calls Tryz.prog 92 #[spv ((T,u),q)] wB.drew (MadeC (es2.map fun e=>NodeP ro e.1) (fun k=>V k∨G k) wB.drew):=parts_node (ks:=ks) ((HK.out.move hV1).move (fun k hk=>kB.block k (by have:=hVl k hk;omega))) HKS.out (HT2.out.2.2 x.1 (by rw [List.flatMap_cons,HX2.out];simp)) (fun k hk=>by have:=hVl k hk;show k < wB.heap.size;omega) ((hP.move (fun k hk=>kB.block k (hGl k hk)) kB.size).move (fun _ _=>rfl) (Nat.le_refl _))
    simp only [spv,iv] at HP
    have HR1:Aside (wB.drew.ownsRow 0 66 1 (.slice (some ⟨g,0,none⟩) (N+1) cap) (N+1) (rest.reverse.map (·.1) ++ [.func (.func K) #[] cap1])):=World.ownsRow.drew (owns_same HRW.out (fun j hj=>by
     have:j=g:=by simpa [Value.ownBlock] using hj.symm
     subst this
     exact (kB.block j (by omega)).trans (k1.block j hgl d1)))
    have HSP:Aside (SpotBox wB w.heap.size .nilIface):=(hsp.same (k1.block _ hwl d2)).same (kB.block _ (by omega))
    obtain ⟨o0,o1,o2,o3,o4⟩:=so.facts
    have e0:=c5.cell
    have e1:=c5.free
    have e2:=c5.lt
    rw [← hB]
    have HHB:Hid (wB=w1.alloc (.cells #[.iface T u,.pointer q] 75)):=hB
    clear hB c2 c3
    go_region_law
     (first
      | (refine step_append_lies _ (by rfl) _ _ _ (by rfl) 0 66 i0 _ 1 8 Tryz.underlying199 hi0 hz0 hz1 hz2 rfl (by omega) (.slice (some ⟨g,0,none⟩) (N+1) cap) (N+1) (rest.reverse.map (·.1) ++ [.func (.func K) #[] cap1]) (by rfl) (HR2.out.alloc _) ⟨w2.heap.size,0,none⟩ 1 1 [.func (.func K2) #[] cap2] (by rfl) (by rfl) (World.news_of_block (cs:=#[.func (.func K2) #[] cap2]) (t:=66) (fr:=(0,0)) (heap_alloc_new w2 _)) (by simp [Value.oneCell']) (by omega) (by unfold maxLen;omega) (by omega) (by omega) (w2.heap.size+1) (by simp) ?_;intro g4 cap4 w4 ow4 gr4 hat4 hlt4;have c7:Box w4 bb (.slice (some ⟨g,0,none⟩) (N+1) cap) 199:=c6.same ((gr4.block _ (by simp;omega) (own_otherg HR2.out c6 (fun cs h=>by simp at h))).trans (Below.heap_alloc _ _ _ c6.lt));have s7:SpotB w4 w1.heap.size ((T,u),q):=so2.same ((gr4.block _ (by have:=so2.lt;simp;omega) (own_otherg HR2.out so2 (fun cs h=>by simp at h))).trans (Below.heap_alloc _ _ _ so2.lt));have q7:SpotBox w4 w.heap.size .nilIface:=sp2.same ((gr4.block _ (by have:=sp2.lt;simp;omega) (own_otherg HR2.out sp2 (fun cs h=>by simp at h))).trans (Below.heap_alloc _ _ _ sp2.lt));obtain ⟨t0,t1,t2,t3,t4⟩:=s7.facts;obtain ⟨r0,r1,r2,r3,r4⟩:=q7.facts;have y0:=c7.cell;have y1:=c7.free;have y2:=c7.lt)
      | (go_simp;go_at_call 92;refine HP.mono ?_;rintro e w2 ⟨k2,K2,cap2,rfl,F4,D4,hS4,hF4,hD4⟩;have kC:Below wB.heap.size wB w2:=(Below.refl _ _).drew.trans (k2.mono (by simp));have hl2:=kC.size;have c6:Box w2 bb (.slice (some ⟨g,0,none⟩) (N+1) cap) 199:=c5.same (kC.block _ e2);have so2:SpotB w2 w1.heap.size ((T,u),q):=so.same (kC.block _ o4);have sp2:SpotBox w2 w.heap.size .nilIface:=HSP.out.same (kC.block _ HSP.out.lt);have HR2:Aside (w2.ownsRow 0 66 1 (.slice (some ⟨g,0,none⟩) (N+1) cap) (N+1) (rest.reverse.map (·.1) ++ [.func (.func K) #[] cap1])):=owns_same HR1.out (fun j hj=>k2.block j (HR1.out.lt j hj).2);have x0:=c6.cell;have x1:=c6.free;have x2:=c6.lt))
    all_goals
     go_wp2_with fail
     obtain ⟨hE,hout,_⟩:=HR.out
     have hgw:g < wr.heap.size∧g≠w.heap.size:=⟨hgl,fun e=>by
      have:=own_otherg HRW.out hsp (fun cs h=>by simp at h)
      simp [Value.ownBlock] at this
      omega⟩
     have hko':N+1+out.length≤20000:=by have:=HN.out;simp at hk;omega
     refine bodyPost_ret (v:=.tuple #[.agg #[.iface T u,.pointer q],.bool true]) (by simp [results,Tryz.results91,go_sem,r4,r0,r1]) rfl ?_
     exact desc_push (T:=T) (u:=u) (q:=q) HN.out hwl hFl H.out.hV hbl hgw hfr k1 (kB.trans (kC.mono (by omega))) gr4 (hat4.imp (fun h=>by simpa [Value.ownBlock] using h.symm) id) ow4 ⟨_,c7⟩ hP hS3 hF3 hD3 hG hGD hS4 (fun k hk=>by have:=hF4 k hk;rwa [← wBl]) (fun k hk=>by have:=hD4 k hk;rwa [← wBl]) HE.out hF1l hD1s h1 h2 h3 h4 hFF hDD hbF hVb hDV HT2.out.1 HT2.out.2.1 HT2.out.2.2 HX2.out hout hko' hvv.symm
end Go.Proofs.Tryz
namespace Go.Proofs.Tryz
set_option maxHeartbeats 16000000
open Go.RowKit Go.Shelf
set_option maxRecDepth 10000
theorem enters_descent1:Enters Tryz.prog 91:=enters_of Tryz.func91 (by kernel_rfl) rfl
theorem DescS.move {V:Nat→Prop}{ro:Bool}{bb:Nat}{v:Value}{stk:List (Value×List (Node×List Node))}{F D:Nat→Prop}{w w':World} (h:DescS V ro bb v stk F D w) (hs:SameOn (fun k=>F k∨V k∨k=bb∨some k=v.ownBlock) w w') (hl:w.heap.size≤w'.heap.size):DescS V ro bb v stk F D w':=by
 obtain ⟨h1,h2,h3,h4,h5,h6,h7⟩:=h
 have hst:∀ {stk:List (Value×List (Node×List Node))}{F D:Nat→Prop},SameOn (fun k=>F k∨V k) w w'→StkS V ro w stk F D→StkS V ro w' stk F D:=by
  intro stk
  induction stk with
  | nil=>exact fun _ h=>h
  | cons e rest ih =>
   rintro F D hs ⟨F1,D1,F2,D2,a1,a2,a3,a4,a5,a6,a7,a8⟩
   exact ⟨F1,D1,F2,D2,a1.move (hs.mono (fun k hk=>.inl ((a7 k).2 (.inl hk)))) hl,a2.move (hs.mono (fun k hk=>.inr hk)),a3,ih (hs.mono (fun k hk=>hk.imp (fun h=>(a7 k).2 (.inr h)) id)) a4,a5,a6,a7,a8⟩
 exact ⟨h1.same (hs bb (by simp)),owns_same h2 (fun q hq=>hs q (.inr (.inr (.inr hq.symm)))),h3,h4,hst (hs.mono (fun k hk=>hk.imp id .inl)) h5,fun k hk=>Nat.lt_of_lt_of_le (h6 k hk) hl,h7⟩
theorem descent_g {V:Nat→Prop}{ro:Bool}{bb:Nat}:∀ (out:List Node) {v:Value}{stk:List (Value×List (Node×List Node))}{F D:Nat→Prop}{w:World},DescS V ro bb v stk F D w→stkOut stk=out→stk.length+out.length≤20000→
  StG (out.map (NodeP ro)) (fun k=>F k∨V k∨k=bb∨some k=v.ownBlock) (fun k=>D k∨k=bb∨some k=v.ownBlock) w (.func (.func 91) #[] #[.pointer (some ⟨bb,0,none⟩)])
 | out,v,stk,F,D,w,h,ho,hl=>by
  have hbl:=h.box.lt
  have hrl:=h.row.lt
  have hFl:=h.stk.lt
  have hDs:=h.stk.sub
  have hVl:=h.hV
  have hlt:∀ k,(F k∨V k∨k=bb∨some k=v.ownBlock)→k < w.heap.size:=by
   rintro k (h | h | h | h)
   ·exact hFl k h
   ·exact hVl k h
   ·omega
   ·exact (hrl k h.symm).2
  cases out with
  | nil =>
   refine ⟨_,_,rfl,enters_descent1,hlt,by grind,fun w' hs hl'=>?_⟩
   have:=descent1_g (h.move hs hl') (by rw [ho];exact hl)
   rw [ho] at this
   exact this.mono fun e w2 ⟨k2,h0,_⟩=>⟨k2,h0 rfl⟩
  | cons n R =>
   refine ⟨_,_,rfl,enters_descent1,hlt,by grind,fun w' hs hl'=>?_⟩
   have:=descent1_g (h.move hs hl') (by rw [ho];exact hl)
   rw [ho] at this
   refine this.mono ?_
   rintro e w2 ⟨k2,_,h0⟩
   obtain ⟨s,G,v',stk',F',D',rfl,hP,hD,hR,hlen,g1,g2,g3,g4,g5⟩:=h0 n R rfl
   exact ⟨k2,s,G,_,_,rfl,hP,descent_g R hD hR hlen,by grind,by grind,by grind,by grind⟩
theorem descent_ok {V G C:Nat→Prop}{ro:Bool}{w:World}{d:Nat}{n:Node}{L:List Node}{s:Sp} (hT:Tour V w d n L) (hP:HoldsP (NodeP ro n) G w s) (hV:∀ k,V k→k < w.heap.size) (hVC:∀ k,V k→C k) (hGC:∀ k,G k→C k) (hL:∀ y∈L,y.2.length≤10000) (hlen:L.length≤10000) :
  Calls Tryz.prog 44 #[spv s] w (MadeC (L.map (NodeP ro)) C w):=by
 have HO:∀ w1,Below w.heap.size w w1→Calls Tryz.prog 43 #[spv s] w1 (MadeC [NodeP ro n] G w1):=fun w1 k=>one_okg (hP.move (fun b hb=>k.block b (hP.1 b hb)) k.size) (fun _ h=>h)
 have HP:Aside (HoldsP (NodeP ro n) G w s):=hP
 have HT:Aside (Tour V w d n L):=hT
 clear hP hT
 obtain ⟨⟨T,u⟩,q⟩:=s
 simp only [spv,iv] at HO ⊢
 go_enter Tryz.func44,Tryz.ntmps44
 go_wp2_with (go_at_call 43;refine (HO _ (by first | exact Below.refl _ _ | exact below_alloc w _ | exact below_alloc2 w _ _)).mono ?_;rintro e w1 ⟨k1,K,cap,rfl,F,D,hS,hF,hD⟩)
 go_ret
 have kA:Below w.heap.size w w1:=(below_alloc w _).trans (k1.mono (by simp))
 simp only [World.size_alloc] at hF hD
 have hA1:=kA.size
 have hk1:=k1.size
 simp only [World.size_alloc] at hk1
 obtain ⟨wE,hE⟩:∃ wE,wE=(w1.alloc (.cells #[.func (.func K) #[] cap] 66)).alloc (.cells #[.slice (some ⟨w1.heap.size,0,none⟩) 1 1] 199):=⟨_,rfl⟩
 have kE:Below w1.heap.size w1 wE:=hE ▸ below_alloc2 w1 _ _
 have x0:wE.heap[w1.heap.size]? = some (.cells #[.func (.func K) #[] cap] 66 (0,0)):=hE ▸ (Below.heap_alloc _ _ _ (by simp)).trans (heap_new w1 _)
 have x1:Box wE (w1.heap.size+1) (.slice (some ⟨w1.heap.size,0,none⟩) 1 1) 199:=hE ▸ heap_new2' w1 _ _
 rw [← hE]
 have hSl:=hS.lt
 have hSs:=hS.sub
 have hsV:SameOn V w wE:=fun k hk=>(kE.block k (by have:=hV k hk;omega)).trans (kA.block k (hV k hk))
 have hEs:=kE.size
 have hGl:=HP.out.1
 have hds:DescS V ro (w1.heap.size+1) (.slice (some ⟨w1.heap.size,0,none⟩) 1 1) [(.func (.func K) #[] cap,[(n,L)])] F D wE:=by
  refine ⟨x1,⟨rfl,.inr ⟨w1.heap.size,1,#[.func (.func K) #[] cap],rfl,Nat.zero_le _,x0,Nat.le_refl _,by decide,rfl,rfl⟩⟩,?_,?_,⟨F,D,fun _=>False,fun _=>False,hS.move (fun k hk=>kE.block k (hSl k hk)) hEs,?_,?_,⟨fun _ h=>h,fun _ h=>h⟩,fun _ _ h=>h,fun _ h=>h.elim,by grind,by grind⟩,by grind,by grind⟩
  ·intro k hk
   have:=hSl k hk
   exact ⟨by omega,by simp [Value.ownBlock];omega⟩
  ·intro k hk
   have:=hV k hk
   exact ⟨by omega,by simp [Value.ownBlock];omega⟩
  ·intro e he
   rw [List.mem_singleton] at he
   subst he
   exact ⟨d,HT.out.move hsV⟩
  ·intro y hy
   exact hL y (by simpa using hy)
 refine .mk' (kA.trans (kE.mono hA1)) (descent_g L hds (by simp [stkOut]) (by simp;omega)) ?_ ?_
 ·simp only [Value.ownBlock,Option.some.injEq]
  grind
 ·simp only [Value.ownBlock,Option.some.injEq]
  grind
theorem opensG_desc {C V G:Nat→Prop}{ro:Bool}{w0:World}{b d:Nat}{kn:Option Addr}{dp:Int}{n:Node}{L:List Node}{s:Sp} (hC:∀ k,C k→k < w0.heap.size) (hT:Tour V w0 d n L) (hP:HoldsP (NodeP ro n) G w0 s) (hVC:∀ k,V k→C k) (hGC:∀ k,G k→C k) (hL:∀ y∈L,y.2.length≤10000) (hlen:L.length≤10000) :
  OpensG C w0 (.iface 127 (.pointer (some ⟨b,0,none⟩))) kn dp s (L.map (NodeP ro)):=by
 refine ⟨hC,fun w hs hl=>?_⟩
 have hV0:∀ k,V k→k < w.heap.size:=fun k hk=>Nat.lt_of_lt_of_le (hC k (hVC k hk)) hl
 have hP1:=hP.move (hs.mono hGC) hl
 have hT1:Tour V w d n L:=hT.move (hs.mono hVC)
 have HD:∀ w1,Below w.heap.size w w1→Calls Tryz.prog 44 #[spv s] w1 (MadeC (L.map (NodeP ro)) C w1):=fun w1 k=>descent_ok (hT1.move (fun j hj=>k.block j (hV0 j hj))) (hP1.move (fun j hj=>k.block j (hP1.1 j hj)) k.size) (fun j hj=>Nat.lt_of_lt_of_le (hV0 j hj) k.size) hVC hGC hL hlen
 have m0:=missIdentity;have m1:=hitDescent
 obtain ⟨⟨T,u⟩,q⟩:=s
 simp only [spv,iv] at HD ⊢
 clear hP hP1 hT hT1
 go_enter Tryz.func22,Tryz.ntmps22
 go_wp2_with (go_at_call 44;refine (HD _ (below_alloc2 w _ _)).mono ?_;rintro e w1 ⟨k1,K,cap,rfl,hM⟩)
 go_ret
 exact MadeC.under ⟨k1,K,cap,rfl,hM⟩ (below_alloc2 w _ _)
end Go.Proofs.Tryz
