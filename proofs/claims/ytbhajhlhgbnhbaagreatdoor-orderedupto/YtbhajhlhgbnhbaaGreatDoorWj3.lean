import Derived.Test.YtbhajhlhgbnhbaaGreatDoorWj1
set_option linter.all false
namespace Go.Proofs.Tryz
set_option maxHeartbeats 16000000
open Go.RowKit
set_option maxRecDepth 10000
theorem triS {w:World}{N:Nat}{u v:Value}{a b c:Addr}{va vb vc:Value} (h:w.cell? a=some va∧w.cell? b=some vb∧w.cell? c=some vc) (h1:a.block≠N) (h2:b.block≠N) (h3:c.block≠N):((w.setCell ⟨N,0,none⟩ u).setCell ⟨N,1,none⟩ v).cell? a=some va∧((w.setCell ⟨N,0,none⟩ u).setCell ⟨N,1,none⟩ v).cell? b=some vb∧((w.setCell ⟨N,0,none⟩ u).setCell ⟨N,1,none⟩ v).cell? c=some vc :=
 have h':=quadS (u:=u) (v:=v) ⟨h.1,h.2.1,h.2.2,h.2.2⟩ h1 h2 h3 h3
 ⟨h'.1,h'.2.1,h'.2.2.1⟩
theorem parts2_g {w:World}{nb vb sb i n a c:Nat}{T:Nat}{u:Value}{q:Option Addr}{k:ByteArray}{x:IV}{o:Option (List IV)}{G:Nat→Prop} (hn:Box w nb (.int .i64 i) 3) (hv:Box w vb (.slice (some ⟨a,0,none⟩) n c) 102) (hs:SpotB w sb ((T,u),q)) (hi:i < n) (hnn:n≤100000000) (hk:w.cell? ⟨a,i * 2,none⟩=some (.string k)) (hx:w.cell? ⟨a,i * 2+1,none⟩=some (iv x)) (ha:a≠nb) (hP:HoldsP (PathP o) G w ((T,u),q)) (hl:olen o≤1000000) (hG:¬ G nb) :
  Calls Tryz.prog 146 #[.pointer (some ⟨nb,0,none⟩),.pointer (some ⟨vb,0,none⟩),.pointer (some ⟨sb,0,none⟩)] w fun e w'=>Fr (· = nb) w w'∧Box w' nb (.int .i64 ((i:Int)+1)) 3∧∃ q' G',e = .returned (.tuple #[spv (x,q'),.bool true])∧(∀ y,HoldsP (PathP (o.map (strS k :: ·))) G' w' (y,q'))∧(∀ k,G' k→G k∨w.heap.size≤k)∧¬ G' nb:=by
 obtain ⟨Tx,ux⟩:=x
 simp only [iv,spv] at hx ⊢
 have n0:=hn.cell
 have n1:=hn.free
 have n2:=hn.lt
 have v0:=hv.cell
 have v2:=hv.lt
 obtain ⟨s0,s1,_,_,s4⟩:=hs.facts
 have hal:a < w.heap.size:=lt_cell hx
 have z1:(i:Int) < (n:Int):=by omega
 have z2:(0:Int)≤(i:Int):=by omega
 have z3:(i:Int)+1 - 1=(i:Int):=by omega
 have z4:((i:Int) == (n:Int))=false:=by simp;omega
 have z5:IntKind.i64.wrap ((i:Int)+1 - 1)=(i:Int):=by rw [z3,IntKind.wrap_i64];omega
 have z6:IntKind.i64.wrap (i:Int)=(i:Int):=by rw [IntKind.wrap_i64];omega
 have hnv:nb≠vb:=fun e=>by
  subst e
  have:=Option.some.inj (hn.symm.trans hv)
  simp at this
 have hns:nb≠sb:=SpotB.ne hn hs
 obtain ⟨wA,hA⟩:∃ wA,wA=((w.setCell ⟨nb,0,none⟩ (.int .i64 ((i:Int)+1))).alloc (.cells #[.nilIface,.pointer none] 75)).alloc (.cells #[.string k,.iface Tx ux] 107):=⟨_,rfl⟩
 have kF:Fr (· = nb) w wA:=hA ▸ (((Fr.refl (· = nb) w).setCell _ (.inl rfl)).alloc _).alloc _
 have hsp:SpotBox wA w.heap.size .nilIface:=by
  rw [hA]
  have:=(SpotBox.new (w.setCell ⟨nb,0,none⟩ (.int .i64 ((i:Int)+1))) .nilIface).alloc (.cells #[.string k,.iface Tx ux] 107)
  simpa using this
 have hm:wA.heap[w.heap.size+1]? = some (.cells #[.string k,.iface Tx ux] 107 (0,0)):=by
  rw [hA]
  have:=heap_new2' (w.setCell ⟨nb,0,none⟩ (.int .i64 ((i:Int)+1))) (.cells #[.nilIface,.pointer none] 75) (.cells #[.string k,.iface Tx ux] 107)
  simpa using this
 have hn':Box wA nb (.int .i64 ((i:Int)+1)) 3:=hA ▸ ((hn.set _).same (Below.heap_alloc _ _ _ (by simpa using n2))).same (Below.heap_alloc _ _ _ (by simp;omega))
 have a0:wA.cell? ⟨w.heap.size+1,0,none⟩=some (.string k):=by simp [World.cell?,hm]
 have a1:wA.cell? ⟨w.heap.size+1,1,none⟩=some (.iface Tx ux):=by simp [World.cell?,hm]
 obtain ⟨_,a3,_⟩:=(hs.same (kF.block _ s4 (Ne.symm hns))).facts
 have hP':=hP.after kF (fun k hk e=>hG (e ▸ hk))
 have HG:Calls Tryz.prog 96 #[.pointer q,.iface 100 (.string k)] wA.drew fun e w'=>Below wA.drew.heap.size wA.drew w'∧∃ q' G',e = .returned (.pointer q')∧(∀ y,HoldsP (PathP (o.map (strS k :: ·))) G' w' (y,q'))∧∀ k,G' k→G k∨wA.drew.heap.size≤k:=grown_o (s:=strS k) (hP'.move (fun _ _=>rfl) (Nat.le_refl _)) hl
 have hAl:wA.heap.size=w.heap.size+2:=by rw [hA];simp
 have t0:=tri ((Below.refl _ wA).drew) a0 a1 a3
 have hGl:=hP.1
 clear hP hP'
 go_enter Tryz.func146,Tryz.ntmps146
 go_wp2_with fail
 rw [← hA]
 clear hA
 go_region_held3 (fun w'=>w'.cell? ⟨w.heap.size+1,0,none⟩=some (.string k)∧w'.cell? ⟨w.heap.size+1,1,none⟩=some (.iface Tx ux)∧w'.cell? ⟨sb,1,none⟩=some (.pointer q)) (first | exact t0 | exact e4 | exact triS e4 (by show w.heap.size+1≠_;omega) (by show w.heap.size+1≠_;omega) (by show sb≠_;omega) | go_keep)
  (first | (go_at_call 96;refine HG.mono ?_;rintro e w1 ⟨k1,q',G',rfl,hP1,hG'⟩;have kX:Below wA.heap.size wA w1:=(Below.refl _ _).drew.trans (k1.mono (by simp));have e4:=tri kX a0 a1 a3;have qb:SpotBox w1 w.heap.size .nilIface:=hsp.same (kX.block _ hsp.lt);obtain ⟨r0,r1,r2,r3,r4⟩:=qb.facts))
 go_wp2_with fail
 have kend:Fr (· = w.heap.size) w1 ((w1.setCell ⟨w.heap.size,0,none⟩ (.iface Tx ux)).setCell ⟨w.heap.size,1,none⟩ (.pointer q')):=((Fr.refl (· = w.heap.size) w1).setCell _ (.inl rfl)).setCell _ (.inl rfl)
 have hG2:∀ k,G' k→G k∨wA.heap.size≤k:=hG'
 have hXs:=kX.size
 refine bodyPost_ret (v:=.tuple #[.agg #[.iface Tx ux,.pointer q'],.bool true]) (by simp [results,Tryz.results146,go_sem,r4,r0,r1]) rfl ⟨?_,?_,q',G',rfl,fun y=>(hP1 y).after kend (by grind),by grind,by grind⟩
 ·exact (kF.trans (Fr.of_below (D:=fun _=>False) kX) (fun _ _ e=>e.elim)).trans kend (fun j hj e=>by omega)
 ·exact (hn'.same (kX.block _ hn'.lt)).same (kend.block _ (by have:=hn'.lt;omega) (by omega))
theorem parts2_done {w:World}{nb vb sb n:Nat}{p:Option Addr}{c:Nat} (hn:Box w nb (.int .i64 n) 3) (hv:Box w vb (.slice p n c) 102) :
  Calls Tryz.prog 146 #[.pointer (some ⟨nb,0,none⟩),.pointer (some ⟨vb,0,none⟩),.pointer (some ⟨sb,0,none⟩)] w fun e w'=>Below w.heap.size w w'∧e = .returned (.tuple #[.agg #[.nilIface,.pointer none],.bool false]):=by
 have n0:=hn.cell
 have n2:=hn.lt
 have v0:=hv.cell
 have v2:=hv.lt
 go_enter Tryz.func146,Tryz.ntmps146
 go_wp2_with (go_at_call 19;refine (none_calls _).mono ?_;rintro e w1 ⟨rfl,k1⟩;have q:SpotBox w1 w.heap.size .nilIface:=(SpotBox.new w .nilIface).same (k1.block _ (by simp));obtain ⟨q0,q1,q2,q3,q4⟩:=q.facts)
 exact bodyPost_ret (v:=.tuple #[.agg #[.nilIface,.pointer none],.bool false]) (by simp [results,Tryz.results146,go_sem,q4,q0,q1]) rfl ⟨((((below_alloc _ _).trans (k1.mono (by simp))).setCell (by simp) _).setCell (by simp) _),rfl⟩
def StepP (V:Nat→Prop) (w:World) (o:Option (List IV)) (s x:IV) (Q:SP):Prop:=∀ w' q',SameOn V w w'→w.heap.size≤w'.heap.size→PathO w' (o.map (s :: ·)) q'→Q w' (x,q')
theorem StepP.move {V:Nat→Prop}{w w1:World}{o:Option (List IV)}{s x:IV}{Q:SP} (h:StepP V w o s x Q) (hs:SameOn V w w1) (hl:w.heap.size≤w1.heap.size):StepP V w1 o s x Q:=fun w' q' a b=>h w' q' (hs.trans a) (Nat.le_trans hl b)
theorem StepP.holds {V G:Nat→Prop}{w:World}{o:Option (List IV)}{s x:IV}{q:Option Addr}{Q:SP} (h:StepP V w o s x Q) (hV:∀ k,V k→k < w.heap.size) (hP:HoldsP (PathP (o.map (s :: ·))) G w (x,q)):HoldsP Q (fun k=>V k∨G k) w (x,q) :=
 ⟨fun k hk=>hk.elim (hV k) (hP.1 k),fun w' a b=>h w' q (a.mono (fun _ h=>.inl h)) b (hP.2 w' (a.mono (fun _ h=>.inr h)) b)⟩
theorem enters_parts1:Enters Tryz.prog 145:=enters_of Tryz.func145 (by kernel_rfl) rfl
theorem enters_parts2:Enters Tryz.prog 146:=enters_of Tryz.func146 (by kernel_rfl) rfl
theorem partsA_g {V G:Nat→Prop}{nb vb sb n:Nat}{r:Value}{xs:List IV}{s:Sp}{o:Option (List IV)} (hnn:n≤100000000) (hl:olen o≤1000000) (hVn:¬ V nb) (hVr:∀ g,r.ownBlock=some g→V g) (hGn:¬ G nb):∀ (Qs:List SP) (i:Nat) {w:World},i+Qs.length=n→Box w nb (.int .i64 i) 3→Box w vb r 86→SpotB w sb s→w.ownsRow 0 32 1 r n (xs.map iv)→(∀ k,V k→k < w.heap.size)→HoldsP (PathP o) G w s→
  (∀ j Q,Qs[j]? = some Q→∃ x,xs[i+j]? = some x∧StepP V w o (numS (i+j)) x Q)→StG Qs (fun k=>V k∨G k∨k=nb∨k=vb∨k=sb) (· = nb) w (.func (.func 145) #[] #[.pointer (some ⟨nb,0,none⟩),.pointer (some ⟨vb,0,none⟩),.pointer (some ⟨sb,0,none⟩)])
 | [],i,w,hi,hn,hv,hs,ow,hV,hP,hQ=>by
  have hnl:=hn.lt
  have hvl:=hv.lt
  have hsl:=hs.lt
  have hPl:=hP.1
  refine ⟨_,_,rfl,enters_parts1,by grind,by grind,fun w1 hs1 hl1=>?_⟩
  simp only [List.length_nil,Nat.add_zero] at hi
  subst hi
  obtain ⟨p,m,c,rfl⟩:=owns_shape1 ow
  have hm:m=i:=by
   rcases ow.2 with ⟨e,h0⟩ | ⟨g,cap,cur,e,_⟩
   ·cases e;exact h0.symm
   ·cases e;rfl
  subst hm
  exact (parts1_done (hn.same (hs1 nb (by simp))) (hv.same (hs1 vb (by simp)))).mono fun e w' h=>⟨.of_below h.1,h.2⟩
 | Q :: Qs,i,w,hi,hn,hv,hs,ow,hV,hP,hQ=>by
  have hnl:=hn.lt
  have hvl:=hv.lt
  have hsl:=hs.lt
  have hPl:=hP.1
  refine ⟨_,_,rfl,enters_parts1,by grind,by grind,fun w1 hs1 hl1=>?_⟩
  obtain ⟨x,hx,hst⟩:=hQ 0 Q rfl
  have hin:i < n:=by simp at hi;omega
  have ow1:w1.ownsRow 0 32 1 r n (xs.map iv):=owns_same ow (fun g hg=>hs1 g (.inl (hVr g hg)))
  have hP1:=hP.move (hs1.mono (fun _ h=>.inr (.inl h))) hl1
  have hn1:=hn.same (hs1 nb (by simp))
  have hv1:=hv.same (hs1 vb (by simp))
  have hss1:=hs.same (hs1 sb (by simp))
  have hsV:SameOn V w w1:=hs1.mono (fun _ h=>.inl h)
  obtain ⟨⟨T,u⟩,q⟩:=s
  rcases ow1.2 with ⟨e,h0⟩ | ⟨g,cap,cur,e,_⟩
  ·omega
  ·subst e
   have hgV:V g:=hVr g rfl
   have hgn:g≠nb:=fun e=>hVn (e ▸ hgV)
   have hc:w1.cell? ⟨g,i,none⟩=some (iv x):=by
    rw [ow1.cellAt i (by omega),List.getElem?_map]
    simp only [Nat.add_zero] at hx
    rw [hx];rfl
   refine (parts1_g hn1 hv1 hss1 hin hnn hc hgn hP1 hl hGn).mono ?_
   rintro e w2 ⟨k2,hb2,q',G',rfl,hP2,hG',hG'n⟩
   have hl2:=k2.size
   have hV1:∀ k,V k→k < w1.heap.size:=fun k hk=>Nat.lt_of_lt_of_le (hV k hk) hl1
   have hV2:SameOn V w1 w2:=k2.same hV1 (by grind)
   have hnl1:=hn1.lt
   refine ⟨k2,(x,q'),fun k=>V k∨G' k,_,_,rfl,((hst.move hsV hl1).move hV2 hl2).holds (by grind) (by simpa using hP2 x),partsA_g hnn hl hVn hVr hGn Qs (i+1) (by simp at hi;omega) (by simpa using hb2) (hv1.same (k2.block _ hv1.lt ?_)) (hss1.same (k2.block _ hss1.lt ?_)) (owns_same ow1 (fun g' hg'=>hV2 g' (hVr g' hg'))) (by grind) (hP1.after k2 (by grind)) ?_,by grind,by grind,by grind,by grind⟩
   ·intro e
    subst e
    have:=Option.some.inj (hn1.symm.trans hv1)
    simp at this
   ·intro e
    exact SpotB.ne hn1 hss1 e.symm
   ·intro j Q' hj
    obtain ⟨x',hx',hst'⟩:=hQ (j+1) Q' (by simpa using hj)
    have e1:i+(j+1)=i+1+j:=by omega
    rw [e1] at hx' hst'
    exact ⟨x',hx',(hst'.move hsV hl1).move hV2 hl2⟩
theorem partsO_g {V G:Nat→Prop}{nb vb sb n:Nat}{r:Value}{L:List El}{s:Sp}{o:Option (List IV)} (hLn:L.length=n) (hnn:n≤100000000) (hl:olen o≤1000000) (hVn:¬ V nb) (hVr:∀ g,r.ownBlock=some g→V g) (hGn:¬ G nb):∀ (Qs:List SP) (i:Nat) {w:World},i+Qs.length=n→Box w nb (.int .i64 i) 3→Box w vb r 102→SpotB w sb s→w.ownsRow 0 107 2 r n (L.flatMap elC)→(∀ k,V k→k < w.heap.size)→HoldsP (PathP o) G w s→
  (∀ j Q,Qs[j]? = some Q→∃ e,L[i+j]? = some e∧StepP V w o (strS e.1) e.2.1 Q)→StG Qs (fun k=>V k∨G k∨k=nb∨k=vb∨k=sb) (· = nb) w (.func (.func 146) #[] #[.pointer (some ⟨nb,0,none⟩),.pointer (some ⟨vb,0,none⟩),.pointer (some ⟨sb,0,none⟩)])
 | [],i,w,hi,hn,hv,hs,ow,hV,hP,hQ=>by
  have hnl:=hn.lt
  have hvl:=hv.lt
  have hsl:=hs.lt
  have hPl:=hP.1
  refine ⟨_,_,rfl,enters_parts2,by grind,by grind,fun w1 hs1 hl1=>?_⟩
  simp only [List.length_nil,Nat.add_zero] at hi
  subst hi
  rcases ow.2 with ⟨e,h0⟩ | ⟨g,cap,cur,e,_⟩
  ·subst e;subst h0
   exact (parts2_done (hn.same (hs1 nb (by simp))) (hv.same (hs1 vb (by simp)))).mono fun e w' h=>⟨.of_below h.1,h.2⟩
  ·subst e
   exact (parts2_done (hn.same (hs1 nb (by simp))) (hv.same (hs1 vb (by simp)))).mono fun e w' h=>⟨.of_below h.1,h.2⟩
 | Q :: Qs,i,w,hi,hn,hv,hs,ow,hV,hP,hQ=>by
  have hnl:=hn.lt
  have hvl:=hv.lt
  have hsl:=hs.lt
  have hPl:=hP.1
  refine ⟨_,_,rfl,enters_parts2,by grind,by grind,fun w1 hs1 hl1=>?_⟩
  obtain ⟨⟨k,x,tx⟩,hx,hst⟩:=hQ 0 Q rfl
  have hin:i < n:=by simp at hi;omega
  have ow1:w1.ownsRow 0 107 2 r n (L.flatMap elC):=owns_same ow (fun g hg=>hs1 g (.inl (hVr g hg)))
  have hP1:=hP.move (hs1.mono (fun _ h=>.inr (.inl h))) hl1
  have hn1:=hn.same (hs1 nb (by simp))
  have hv1:=hv.same (hs1 vb (by simp))
  have hss1:=hs.same (hs1 sb (by simp))
  have hsV:SameOn V w w1:=hs1.mono (fun _ h=>.inl h)
  obtain ⟨⟨T,u⟩,q⟩:=s
  rcases ow1.2 with ⟨e,h0⟩ | ⟨g,cap,cur,e,_⟩
  ·omega
  ·subst e
   have hgV:V g:=hVr g rfl
   have hgn:g≠nb:=fun e=>hVn (e ▸ hgV)
   simp only [Nat.add_zero] at hx
   obtain ⟨_,hM,_⟩:=owns_mem (hLn ▸ ow1)
   obtain ⟨c1,c2⟩:=hM.at hx
   refine (parts2_g hn1 hv1 hss1 hin hnn c1 c2 hgn hP1 hl hGn).mono ?_
   rintro e w2 ⟨k2,hb2,q',G',rfl,hP2,hG',hG'n⟩
   have hl2:=k2.size
   have hV1:∀ k,V k→k < w1.heap.size:=fun k hk=>Nat.lt_of_lt_of_le (hV k hk) hl1
   have hV2:SameOn V w1 w2:=k2.same hV1 (by grind)
   have hnl1:=hn1.lt
   refine ⟨k2,(x,q'),fun k=>V k∨G' k,_,_,rfl,((hst.move hsV hl1).move hV2 hl2).holds (by grind) (hP2 x),partsO_g hLn hnn hl hVn hVr hGn Qs (i+1) (by simp at hi;omega) (by simpa using hb2) (hv1.same (k2.block _ hv1.lt ?_)) (hss1.same (k2.block _ hss1.lt ?_)) (owns_same ow1 (fun g' hg'=>hV2 g' (hVr g' hg'))) (by grind) (hP1.after k2 (by grind)) ?_,by grind,by grind,by grind,by grind⟩
   ·intro e
    subst e
    have:=Option.some.inj (hn1.symm.trans hv1)
    simp at this
   ·intro e
    exact SpotB.ne hn1 hss1 e.symm
   ·intro j Q' hj
    obtain ⟨x',hx',hst'⟩:=hQ (j+1) Q' (by simpa using hj)
    have e1:i+(j+1)=i+1+j:=by omega
    rw [e1] at hx'
    exact ⟨x',hx',(hst'.move hsV hl1).move hV2 hl2⟩
def KidsQ (V:Nat→Prop) (w:World) (o:Option (List IV)) (ks:List (IV×IV)) (Qs:List SP):Prop:=ks.length=Qs.length∧∀ (j:Nat) (Q:SP),Qs[j]? = some Q→∃ k,ks[j]? = some k∧StepP V w o k.1 k.2 Q
theorem enumA_len:∀ (i:Nat) (xs:List IV),(enumA i xs).length=xs.length
 | _,[]=>rfl
 | i,x :: xs=>by simp [enumA,enumA_len (i+1) xs]
theorem parts_boxes (w:World) (s:Sp) (v:Value) (Tv:Nat):∃ wA,wA=((w.alloc (.cells #[iv s.1,.pointer s.2] 75)).alloc (.cells #[.int .i64 0] 3)).alloc (.cells #[v] Tv)∧Below w.heap.size w wA∧SpotB wA w.heap.size s∧Box wA (w.heap.size+1) (.int .i64 0) 3∧Box wA (w.heap.size+2) v Tv∧wA.heap.size=w.heap.size+3 :=
 ⟨_,rfl,below_alloc3 w _ _ _,heap_at1 w _ _ _,heap_at2 w _ _ _,heap_new3 w _ _ _,by simp⟩
theorem parts_arrg {C V G:Nat→Prop}{w:World}{r:Value}{xs:List IV}{q:Option Addr}{o:Option (List IV)}{Qs:List SP} (hr:w.ownsRow 0 32 1 r xs.length (xs.map iv)) (hnn:xs.length≤100000000) (hl:olen o≤1000000) (hVr:∀ g,r.ownBlock=some g→V g) (hV:∀ k,V k→k < w.heap.size) (hP:HoldsP (PathP o) G w ((86,r),q)) (hQ:KidsQ V w o (enumA 0 xs) Qs) (hVC:∀ k,V k→C k) (hGC:∀ k,G k→C k) :
  Calls Tryz.prog 92 #[spv ((86,r),q)] w (MadeC Qs C w):=by
 have m3:=hitVArray
 obtain ⟨p,m,c,rfl⟩:=owns_shape1 hr
 have HM:Hid (MadeC Qs C w (.returned (.func (.func 145) #[] #[.pointer (some ⟨w.heap.size+1,0,none⟩),.pointer (some ⟨w.heap.size+2,0,none⟩),.pointer (some ⟨w.heap.size,0,none⟩)])) (((w.alloc (.cells #[.iface 86 (.slice p m c),.pointer q] 75)).alloc (.cells #[.int .i64 0] 3)).alloc (.cells #[.slice p m c] 86))):=by
  obtain ⟨wA,hA,kW,ws,wn,wv,wl⟩:=parts_boxes w ((86,.slice p m c),q) (.slice p m c) 86
  simp only [iv] at hA
  rw [← hA]
  obtain ⟨hq1,hq2⟩:=hQ
  rw [enumA_len] at hq1
  have hPl:=hP.1
  have hsV:SameOn V w wA:=fun k hk=>kW.block k (hV k hk)
  refine .mk' kW (partsA_g (V:=V) (G:=G) (o:=o) (xs:=xs) hnn hl (by grind) hVr (by grind) Qs 0 (by omega) wn wv ws (owns_same hr (fun g hg=>hsV g (hVr g hg))) (by grind) (hP.move (fun k hk=>kW.block k (hPl k hk)) kW.size) ?_) (by grind) (by grind)
  intro j Q hj
  obtain ⟨⟨st,y⟩,hk,hst⟩:=hq2 j Q hj
  obtain ⟨e1,e2⟩:=enumA_at 0 xs j hk
  rw [Nat.zero_add] at e1 ⊢
  rw [e1] at hst
  exact ⟨y,e2,hst.move hsV kW.size⟩
 clear hr hP hQ
 simp only [spv,iv]
 go_enter Tryz.func92,Tryz.ntmps92
 go_wp2_with fail
 go_ret
 exact HM.out
theorem parts_objg {C V G:Nat→Prop}{w:World}{r:Value}{L:List El}{q:Option Addr}{o:Option (List IV)}{Qs:List SP} (hr:w.ownsRow 0 107 2 r L.length (L.flatMap elC)) (hnn:L.length≤100000000) (hl:olen o≤1000000) (hVr:∀ g,r.ownBlock=some g→V g) (hV:∀ k,V k→k < w.heap.size) (hP:HoldsP (PathP o) G w ((102,r),q)) (hQ:KidsQ V w o (L.map fun e=>(strS e.1,e.2.1)) Qs) (hVC:∀ k,V k→C k) (hGC:∀ k,G k→C k) :
  Calls Tryz.prog 92 #[spv ((102,r),q)] w (MadeC Qs C w):=by
 have m3:=missVArray
 have m4:=hitVObject
 obtain ⟨p,m,c,rfl⟩:∃ p m c,r = .slice p m c:=by
  rcases hr.2 with ⟨e,_⟩ | ⟨g,cap,cur,e,_⟩
  ·exact ⟨_,_,_,e⟩
  ·exact ⟨_,_,_,e⟩
 have HM:Hid (MadeC Qs C w (.returned (.func (.func 146) #[] #[.pointer (some ⟨w.heap.size+1,0,none⟩),.pointer (some ⟨w.heap.size+2,0,none⟩),.pointer (some ⟨w.heap.size,0,none⟩)])) (((w.alloc (.cells #[.iface 102 (.slice p m c),.pointer q] 75)).alloc (.cells #[.int .i64 0] 3)).alloc (.cells #[.slice p m c] 102))):=by
  obtain ⟨wA,hA,kW,ws,wn,wv,wl⟩:=parts_boxes w ((102,.slice p m c),q) (.slice p m c) 102
  simp only [iv] at hA
  rw [← hA]
  obtain ⟨hq1,hq2⟩:=hQ
  rw [List.length_map] at hq1
  have hPl:=hP.1
  have hsV:SameOn V w wA:=fun k hk=>kW.block k (hV k hk)
  refine .mk' kW (partsO_g (V:=V) (G:=G) (o:=o) (L:=L) rfl hnn hl (by grind) hVr (by grind) Qs 0 (by omega) wn wv ws (owns_same hr (fun g hg=>hsV g (hVr g hg))) (by grind) (hP.move (fun k hk=>kW.block k (hPl k hk)) kW.size) ?_) (by grind) (by grind)
  intro j Q hj
  obtain ⟨k,hk,hst⟩:=hq2 j Q hj
  rw [List.getElem?_map] at hk
  rw [Nat.zero_add]
  cases hLj:L[j]? with
  | none=>rw [hLj] at hk;cases hk
  | some e =>
   rw [hLj] at hk
   cases hk
   exact ⟨e,rfl,hst.move hsV kW.size⟩
 clear hr hP hQ
 simp only [spv,iv]
 go_enter Tryz.func92,Tryz.ntmps92
 go_wp2_with fail
 go_ret
 exact HM.out
end Go.Proofs.Tryz
