import Derived.Test.YtfocepfmpnpaiaaGreatDoorYl2
set_option linter.all false
namespace Go.Proofs.Tryz
set_option maxHeartbeats 16000000
open Go.RowKit
set_option maxRecDepth 10000
section
variable {a w w' : World} {rb g : Nat} {X : List Nat} {L L' M : List Tok} {K K' : List Kn} {lost lost' : Int} {its : List (Out Tn × Value)} {s : ByteArray}
theorem brack_prim {P:Ps} (hwf:Wf L) (h2:kindOf L≠2) (h4:kindOf L≠4) (h5:kindOf L≠5) (h6:kindOf L≠6):primaryS P L=brackS P L:=by
 match L,hwf with
 | [t],hwf =>
  have hk:t.kind=0∨t.kind=1:=hwf
  have h3:¬ kindOf [t]=3:=by show ¬ t.kind=3;omega
  unfold brackS
  rw [if_neg h3]
  rfl
 | t :: u :: l,_ =>
  have h2:¬ t.kind=2:=h2
  have h4:¬ t.kind=4:=h4
  have h5:¬ t.kind=5:=h5
  have h6:¬ t.kind=6:=h6
  unfold brackS
  show (if t.kind=2 then _ else if t.kind=4 then _ else if t.kind=5 then _ else if t.kind=6 then _ else if t.kind=3 then _ else _)=if t.kind=3 then _ else _
  rw [if_neg h2,if_neg h4,if_neg h5,if_neg h6]
theorem primaryR_ok (hIt:ItoaAt) {P:Ps}{B:Nat} (hP:SndR P B) (hMe:MembersOk P B) (h:RdR w rb g L K lost) (ht:TbR w rb) (hK:K.length+L.length≤100000) (hB:8 * L.length≤B) :
  Calls Tryz.prog 102 #[.pointer (some ⟨rb,0,none⟩)] w (GvR rb g w L K lost (primaryS P L)):=by
 have hn:=NqR.start h ht
 obtain ⟨t,b,c2,hkt,hH,hcase⟩:=hn.rd.hand
 have hwf:=h.wf
 clear h
 have hrb:=hn.rd.rbs
 go_enter Tryz.func102,Tryz.ntmps102
 go_wp2_with fail
 refine Calls.mono hH ?_
 rintro e w1 ⟨tk,tx,tn,tp,rfl,hRT,hB1⟩
 have c2':=(hB1.cell (p:=⟨rb,2,none⟩) hrb).trans c2
 have hrb1:rb < w1.heap.size:=Nat.lt_of_lt_of_le hrb hB1.size
 have hRT:Aside (RTk t tk tx tn tp):=hRT
 clear c2
 rcases hcase with ⟨hb,⟨l,hL⟩,i,c1,hi,f1,hstep⟩ | ⟨hb,hk1⟩
 case inr =>
  go_wp2_with fail
  go_ret
  have hBA:Below w.heap.size w ((w1.alloc (.cells #[.int .u8 tk,.string tx,.int .i64 tn,.int .i64 tp] 43)).alloc (.cells #[.string ⟨#[]⟩,.string ⟨#[]⟩,.int .i64 0,.int .i64 0,.string ⟨#[]⟩,.slice none 0 0,.slice none 0 0,.slice none 0 0,.slice none 0 0] 51)):=(hB1.alloc (hB1.size) _).alloc (by have:=hB1.size;simp;omega) _
  have hn:=hn.below hBA
  have hE:primaryS P L = .error L:=by
   match L,hk1 with
   | [],_=>rfl
   | [t],_=>rfl
   | t :: u :: l,hk1 =>
    have hk1:t.kind=1:=hk1
    rw [brack_prim hwf (by show t.kind≠2;omega) (by show t.kind≠4;omega) (by show t.kind≠5;omega) (by show t.kind≠6;omega)]
    unfold brackS
    rw [if_neg (by show ¬ t.kind=3;omega)]
    simp only [signedS,acc_one (show kindOf (t :: u :: l)=1 from hk1)]
  rw [hE]
  exact ⟨_,L,lost,rfl,hn.kept,hn.rd,Nat.le_refl _,Sx.refl _,Fn.bad (stuck_one hk1).symm hk1⟩
 have c1':=(hB1.cell (p:=⟨rb,1,none⟩) hrb).trans c1
 have f1':=(hB1.frozen (p:=⟨rb,1,none⟩) hrb).trans f1
 have hnr:w1.heap.size≠rb:=by omega
 clear c1 f1
 have hks:=kb_sign hkt.k0 hkt.k7
 have hBT:Below w.heap.size w (w1.alloc (.cells #[.int .u8 tk,.string tx,.int .i64 tn,.int .i64 tp] 43)):=hB1.alloc (hB1.size) _
 by_cases h5:t.kind=5
 ·have hkb:tk=100:=by rw [hRT.out.kind,h5];rfl
  clear hks
  subst hkb
  obtain ⟨u,l',hl'⟩:∃ u l',l=u :: l':=by
   cases l with
   | nil =>
    rw [hL] at hwf
    have:t.kind=0∨t.kind=1:=hwf
    omega
   | cons u l'=>exact ⟨u,l',rfl⟩
  rw [hl'] at hL
  have hst:=hstep u l' hL w1 hB1
  have hs0:∀ M,Sx L M:=fun M e=>by
   rw [hL] at e
   have:t.kind=1:=e
   omega
  have hlen:L.length=(u :: l').length+1:=by rw [hL];rfl
  have hE:Aside (primaryS P L=primaryS P (t :: u :: l')):=by rw [hL];exact rfl
  clear hstep
  have hL:Hid (L=t :: u :: l'):=hL
  have hst:Aside (RdR (w1.setCell ⟨rb,1,none⟩ (.int .i64 ((i:Int)+1))) rb g (u :: l') K lost∧KpR rb w1 (w1.setCell ⟨rb,1,none⟩ (.int .i64 ((i:Int)+1)))):=hst
  go_wp2_with fail
  obtain ⟨hr2,hk2⟩:=hst.out
  have hn':=(hn.below hB1).call hk2 hr2
  have hn:=hn'.alloc (.cells #[.int .u8 100,.string tx,.int .i64 tn,.int .i64 tp] 43)
  have htn:tn=digN t.text:=hRT.out.num h5
  go_ret
  have hl:=Rn.leaf (kind:=2) (y:={ Pyl.none with val:=(3,0,t.text) }) hn rfl _ rfl
  simp only [World.size_setCell,World.size_alloc] at hl
  rw [hE.out,show primaryS P (t :: u :: l') = .ok (litT (3,0,t.text),u :: l') by
   show (if t.kind=2 then _ else if t.kind=4 then _ else if t.kind=5 then _ else if t.kind=6 then _ else _)=_
   rw [if_neg (by omega),if_neg (by omega),if_pos h5]]
  subst htn
  exact ⟨_,u :: l',lost,rfl,hl.1.kept,hl.1.rd,by omega,hs0 _,Fn.ok ⟨hl.2,(lost_nd0 rfl).symm⟩⟩
 by_cases h6:t.kind=6
 ·have hkb:tk=115:=by rw [hRT.out.kind,h6];rfl
  clear hks
  subst hkb
  obtain ⟨u,l',hl'⟩:∃ u l',l=u :: l':=by
   cases l with
   | nil =>
    rw [hL] at hwf
    have:t.kind=0∨t.kind=1:=hwf
    omega
   | cons u l'=>exact ⟨u,l',rfl⟩
  rw [hl'] at hL
  have hst:=hstep u l' hL w1 hB1
  have hs0:∀ M,Sx L M:=fun M e=>by
   rw [hL] at e
   have:t.kind=1:=e
   omega
  have hlen:L.length=(u :: l').length+1:=by rw [hL];rfl
  have hE:Aside (primaryS P L=primaryS P (t :: u :: l')):=by rw [hL];exact rfl
  clear hstep
  have hL:Hid (L=t :: u :: l'):=hL
  have hst:Aside (RdR (w1.setCell ⟨rb,1,none⟩ (.int .i64 ((i:Int)+1))) rb g (u :: l') K lost∧KpR rb w1 (w1.setCell ⟨rb,1,none⟩ (.int .i64 ((i:Int)+1)))):=hst
  go_wp2_with fail
  obtain ⟨hr2,hk2⟩:=hst.out
  have hn':=(hn.below hB1).call hk2 hr2
  have hn:=hn'.alloc (.cells #[.int .u8 115,.string tx,.int .i64 tn,.int .i64 tp] 43)
  have htx:tx=t.text:=by first | exact hRT.out.text (by omega) (by omega) (by omega) | (exact absurd h6 (by omega))
  go_ret
  have hl:=Rn.leaf (kind:=2) (y:={ Pyl.none with val:=(4,0,t.text) }) hn rfl _ rfl
  simp only [World.size_setCell,World.size_alloc] at hl
  rw [hE.out,show primaryS P (t :: u :: l') = .ok (litT (4,0,t.text),u :: l') by
   show (if t.kind=2 then _ else if t.kind=4 then _ else if t.kind=5 then _ else if t.kind=6 then _ else _)=_
   rw [if_neg (by omega),if_neg (by omega),if_neg (by omega),if_pos h6]]
  subst htx
  exact ⟨_,u :: l',lost,rfl,hl.1.kept,hl.1.rd,by omega,hs0 _,Fn.ok ⟨hl.2,(lost_nd0 rfl).symm⟩⟩
 by_cases h4:t.kind=4
 ·have hkb:tk=118:=by rw [hRT.out.kind,h4];rfl
  clear hks
  subst hkb
  obtain ⟨u,l',hl'⟩:∃ u l',l=u :: l':=by
   cases l with
   | nil =>
    rw [hL] at hwf
    have:t.kind=0∨t.kind=1:=hwf
    omega
   | cons u l'=>exact ⟨u,l',rfl⟩
  rw [hl'] at hL
  have hst:=hstep u l' hL w1 hB1
  have hs0:∀ M,Sx L M:=fun M e=>by
   rw [hL] at e
   have:t.kind=1:=e
   omega
  have hlen:L.length=(u :: l').length+1:=by rw [hL];rfl
  have hE:Aside (primaryS P L=primaryS P (t :: u :: l')):=by rw [hL];exact rfl
  clear hstep
  have hL:Hid (L=t :: u :: l'):=hL
  have hst:Aside (RdR (w1.setCell ⟨rb,1,none⟩ (.int .i64 ((i:Int)+1))) rb g (u :: l') K lost∧KpR rb w1 (w1.setCell ⟨rb,1,none⟩ (.int .i64 ((i:Int)+1)))):=hst
  go_wp2_with fail
  obtain ⟨hr2,hk2⟩:=hst.out
  have hn':=(hn.below hB1).call hk2 hr2
  have hn:=hn'.alloc (.cells #[.int .u8 118,.string tx,.int .i64 tn,.int .i64 tp] 43)
  have htx:tx=t.text:=by first | exact hRT.out.text (by omega) (by omega) (by omega) | (exact absurd h4 (by omega))
  have htp:tp=t.pos:=hRT.out.pos
  subst htx
  subst htp
  have ht0:=Cl.start (w1.setCell ⟨rb,1,none⟩ (.int .i64 ((i:Int)+1))) [.int .u8 118,.string t.text,.int .i64 tn,.int .i64 t.pos] 43
  have hn:=hn'.own (.cells #[.int .u8 118,.string t.text,.int .i64 tn,.int .i64 t.pos] 43)
  simp only [World.size_setCell] at ht0 hn
  refine Calls.mono (asksQ hIt 118 t.text 0 t.pos hn.rd hn.tbw (by omega) hkt.size (by omega) hkt.pos) ?_
  rintro e w3 ⟨rfl,k3,r3⟩
  have t1:=(ht0.callR hn (.head _) k3).cell 1
  have hn:=hn.call k3 r3
  have t1:w3.cell? ⟨w1.heap.size,1,none⟩=some (.string t.text):=by simpa using t1
  go_wp2_with fail
  go_ret
  have hl:=Rn.leaf (kind:=3) (y:={ Pyl.none with name:=t.text,num:=t.pos }) hn rfl _ rfl
  rw [hE.out,show primaryS P (t :: u :: l') = .ok (nd 3 { Pyl.none with name:=t.text,num:=t.pos } [],u :: l') by
   show (if t.kind=2 then _ else if t.kind=4 then _ else _)=_
   rw [if_neg (by omega),if_pos h4]]
  exact ⟨_,u :: l',_,rfl,hl.1.kept,hl.1.rd,by omega,hs0 _,Fn.ok ⟨hl.2,ask_v ..⟩⟩
 by_cases h2:t.kind=2
 ·have hkb:tk=110:=by rw [hRT.out.kind,h2];rfl
  clear hks
  subst hkb
  obtain ⟨u,l',hl'⟩:∃ u l',l=u :: l':=by
   cases l with
   | nil =>
    rw [hL] at hwf
    have:t.kind=0∨t.kind=1:=hwf
    omega
   | cons u l'=>exact ⟨u,l',rfl⟩
  rw [hl'] at hL
  have hst:=hstep u l' hL w1 hB1
  have hs0:∀ M,Sx L M:=fun M e=>by
   rw [hL] at e
   have:t.kind=1:=e
   omega
  have hlen:L.length=(u :: l').length+1:=by rw [hL];rfl
  have hE:Aside (primaryS P L=primaryS P (t :: u :: l')):=by rw [hL];exact rfl
  clear hstep
  have hL:Hid (L=t :: u :: l'):=hL
  have hst:Aside (RdR (w1.setCell ⟨rb,1,none⟩ (.int .i64 ((i:Int)+1))) rb g (u :: l') K lost∧KpR rb w1 (w1.setCell ⟨rb,1,none⟩ (.int .i64 ((i:Int)+1)))):=hst
  go_wp2_with fail
  obtain ⟨hr2,hk2⟩:=hst.out
  have hn':=(hn.below hB1).call hk2 hr2
  have hn:=hn'.alloc (.cells #[.int .u8 110,.string tx,.int .i64 tn,.int .i64 tp] 43)
  have htx:tx=t.text:=by first | exact hRT.out.text (by omega) (by omega) (by omega) | (exact absurd h2 (by omega))
  have htp:tp=t.pos:=hRT.out.pos
  subst htx
  subst htp
  refine Calls.mono (callR_ok hIt hP (t:=t) hkt h2 hn.rd hn.tbw (by omega) (by omega)) ?_
  rintro e w3 ⟨b3,L3,lost3,rfl,k3,r3,l3,s3,f3⟩
  have hn:=hn.item (v:=.pointer (some ⟨b3,0,none⟩)) k3 r3 f3.rn
  have f3:=f3.lo
  go_wp2_with fail
  go_ret
  rw [hE.out,show primaryS P (t :: u :: l')=callS P t (u :: l') by
   show (if t.kind=2 then _ else _)=_
   rw [if_pos h2]]
  exact ⟨b3,L3,lost3,rfl,hn.kept,hn.rd,by omega,hs0 _,f3.mono fun t e4 h4=>⟨hn.kid (.head _) e4,h4⟩⟩
 have m5:(tk == 100)=false:=by rw [hRT.out.kind];simpa using fun e=>h5 (hks.2.2.2.2.1.1 e)
 have m6:(tk == 115)=false:=by rw [hRT.out.kind];simpa using fun e=>h6 (hks.2.2.2.2.2.1.1 e)
 have m4:(tk == 118)=false:=by rw [hRT.out.kind];simpa using fun e=>h4 (hks.2.2.2.1.1 e)
 have m2:(tk == 110)=false:=by rw [hRT.out.kind];simpa using fun e=>h2 (hks.2.2.1.1 e)
 clear hks hstep
 have hkL:kindOf L=t.kind:=by rw [hL];rfl
 have hE:Aside (primaryS P L=brackS P L):=brack_prim hwf (by rw [hkL];exact h2) (by rw [hkL];exact h4) (by rw [hkL];exact h5) (by rw [hkL];exact h6)
 have hL:Hid (L=t :: l):=hL
 go_wp2_with fail
 have hn:=hn.below hBT
 refine Calls.mono (bracket_ok hIt hP hMe hn.rd hn.tbw (by omega) (by omega)) ?_
 rintro e w3 ⟨b3,L3,lost3,rfl,k3,r3,l3,s3,f3⟩
 have hn:=hn.item (v:=.pointer (some ⟨b3,0,none⟩)) k3 r3 f3.rn
 have f3:=f3.lo
 go_wp2_with fail
 go_ret
 rw [hE.out]
 exact ⟨b3,L3,lost3,rfl,hn.kept,hn.rd,by omega,s3,f3.mono fun t e4 h4=>⟨hn.kid (.head _) e4,h4⟩⟩
end
end Go.Proofs.Tryz
namespace Go.Proofs.Tryz
set_option maxHeartbeats 16000000
open Go.RowKit
set_option maxRecDepth 10000
section
variable {a w w' : World} {rb g : Nat} {X : List Nat} {L L' M : List Tok} {K K' : List Kn} {lost lost' : Int} {its : List (Out Tn × Value)} {s : ByteArray}
def WrongB (rb g:Nat) (L:List Tok) (K:List Kn) (lost:Int) (w:World) (e:Ending) (w':World):Prop:=∃ b c,e = .returned (.pointer (some ⟨b,0,none⟩))∧KpR rb w w'∧RdR w' rb g (stuck L) K lost∧kindOf (stuck L)=1∧w'.cell? ⟨rb,2,none⟩=some (.int .i64 c)∧0≤c
theorem wrongB (h:RdR w rb g L K lost) :
  Calls Tryz.prog 12 #[.pointer (some ⟨rb,0,none⟩)] w (WrongB rb g L K lost w):=by
 obtain ⟨cap,F,I,bad,nv,h,h2,h3⟩:=h
 obtain ⟨t,ht,hdr⟩:=drop_cons h.lt
 have hk:=wf_stuck_kind h3
 have hw:=stuck_wf h3
 have c2:=h.c2
 have f2:=h.fz 2
 have hrb:=h.rbs
 rcases h2 with ⟨rfl,hL⟩ | ⟨hb0,hb1,hb2⟩
 ·have hh:=hand_ok h ht
  have HH:Aside (RRa w rb g cap F I (-1) lost nv K):=h
  have okt:=h.okt t (List.mem_of_getElem? ht)
  rw [hdr] at hL
  have HL:Hid _:=hL
  have HC:Aside (Calls Tryz.prog 11 #[.pointer (some ⟨rb,0,none⟩)] w (HandP t w)):=hh
  clear hh h hL
  go_enter Tryz.func12,Tryz.ntmps12
  go_wp2_with fail
  refine Calls.mono HC.out ?_
  rintro e w1 ⟨k,x,n,p,rfl,hR,hB⟩
  have c2':w1.cell? ⟨rb,2,none⟩=some (.int .i64 (-1)):=(hB.cell (p:=⟨rb,2,none⟩) hrb).trans c2
  have f2':w1.frozen? ⟨rb,2,none⟩=false:=(hB.frozen (p:=⟨rb,2,none⟩) hrb).trans f2
  have hrb':rb < w1.heap.size:=Nat.lt_of_lt_of_le hrb hB.size
  have HR:Aside (RTk t k x n p):=hR
  have hfd:=fieldR3 k n p x
  clear hR c2 f2
  go_wp2_with fail
  go_ret
  have hA:=((HH.out.below hB).set2 p)
  have hp:=HR.out.pos
  have hA2:=hA.below (below_alloc _ (.cells #[.string ⟨#[]⟩,.string ⟨#[]⟩,.int .i64 0,.int .i64 0,.string ⟨#[]⟩,.slice none 0 0,.slice none 0 0,.slice none 0 0,.slice none 0 0] 51))
  refine ⟨_,p,rfl,((KpR.of_below hB hrb).trans (KpR.set (by decide))).trans (KpR.of_below (below_alloc _ _) (by simpa using hrb')),⟨cap,F,I,p,nv,hA2,.inr ⟨by rw [hp];exact okt.pos,hk,?_⟩,hw⟩,hk,hA2.c2,by rw [hp];exact okt.pos⟩
  rw [← HL.out,hp]
  rfl
 ·have hst:=stuck_one hb1
  have nb:¬ bad < 0:=by omega
  have HH:Aside (RRa w rb g cap F I bad lost nv K):=h
  clear h
  go_enter Tryz.func12,Tryz.ntmps12
  go_wp2_with fail
  go_ret
  have hA2:=HH.out.below (below_alloc w (.cells #[.string ⟨#[]⟩,.string ⟨#[]⟩,.int .i64 0,.int .i64 0,.string ⟨#[]⟩,.slice none 0 0,.slice none 0 0,.slice none 0 0,.slice none 0 0] 51))
  show WrongB rb g L K lost w _ _
  unfold WrongB
  rw [hst]
  exact ⟨_,bad,rfl,KpR.of_below (below_alloc _ _) hrb,⟨cap,F,I,bad,nv,hA2,.inr ⟨hb0,hb1,hb2⟩,h3⟩,hb1,hA2.c2,hb0⟩
theorem needsF (h:RdR w rb g L K lost) (d:acc s L=(false,M)) :
  Calls Tryz.prog 29 #[.pointer (some ⟨rb,0,none⟩),.string s] w fun e w'=>e = .returned (.tuple #[])∧KpR rb w w'∧RdR w' rb g (stuck L) K lost∧kindOf (stuck L)=1∧∃ c,w'.cell? ⟨rb,2,none⟩=some (.int .i64 c)∧0≤c:=by
 have hT:=takesF h d
 clear h
 go_enter Tryz.func29,Tryz.ntmps29
 go_wp2_with fail
 refine Calls.mono hT ?_
 rintro e w1 ⟨rfl,k1,r1⟩
 go_wp2_with fail
 refine Calls.mono (wrongB r1) ?_
 rintro e w2 ⟨b,c,rfl,k2,r2,h1,h2,h3⟩
 go_wp2_with fail
 go_end0
 exact ⟨rfl,k1.trans k2,r2,h1,c,h2,h3⟩
theorem needsT (h:RdR w rb g L K lost) (d:acc s L=(true,M)) :
  Calls Tryz.prog 29 #[.pointer (some ⟨rb,0,none⟩),.string s] w fun e w'=>e = .returned (.tuple #[])∧KpR rb w w'∧RdR w' rb g M K lost:=by
 refine (needsQ (s:=s) h).mono ?_
 rintro e w' ⟨rfl,L',k,r,_,f,_⟩
 have f:Fn (exq s L) L' fun _=>True:=f
 rw [show exq s L = .ok ((),M) by unfold exq;rw [d]] at f
 exact ⟨rfl,k,f.1 ▸ r⟩
theorem chk_build (ms:List (Nat×ByteArray×Tn×Tn)) (K:List Kn) (l:Int):lostF l (chk (buildT ms) K)=lostS K l (ms.flatMap fun m=>[m.2.2.1,m.2.2.2]):=by
 unfold buildT
 rw [chk_nd]
 have:=foldl_range (fun l t=>lostF l (chk t K)) Tn.no (ms.flatMap fun m=>[m.2.2.1,m.2.2.2]) (-1)
 refine (congrArg (lostF l) this).trans ?_
 show lostF l (lostS K (-1) _)=_
 rw [lostS_from,lostF_no]
def memH (m:Nat×ByteArray×Tn×Tn):ByteArray:=if m.1=0 then ⟨#[110]⟩ else if m.1=1 then ⟨#[115]⟩ else ⟨#[40]⟩
def MemG (m:Nat×ByteArray×Tn×Tn):Prop:=m.1=0→m.2.1.data.toList≠[40]∧m.2.1.data.toList≠[34]
theorem how_mem (m:Nat×ByteArray×Tn×Tn) (h:MemG m):howR (if m.1=0 then m.2.1 else if m.1=1 then ⟨#[34]⟩ else ⟨#[40]⟩)=memH m:=by
 unfold memH
 by_cases h0:m.1=0
 ·rw [if_pos h0,if_pos h0]
  unfold howR
  rw [if_neg (h h0).1,if_neg (h h0).2]
 ·rw [if_neg h0,if_neg h0]
  by_cases h1:m.1=1
  ·rw [if_pos h1,if_pos h1];rfl
  ·rw [if_neg h1,if_neg h1];rfl
theorem par_build (ms:List (Nat×ByteArray×Tn×Tn)) (h:∀ m∈ms,MemG m) (c:Nat):parR 10 { Pyl.none with names:=ms.map fun m=>if m.1=0 then m.2.1 else if m.1=1 then ⟨#[34]⟩ else ⟨#[40]⟩,cnt:=c }=ms.map memH:=by
 show (ms.map _).map howR=_
 rw [List.map_map]
 exact List.map_congr_left fun m hm=>how_mem m (h m hm)
abbrev Mm:=Nat×ByteArray×Tn×Tn
def memK (ms:List Mm):List Tn:=ms.flatMap fun m=>[m.2.2.1,m.2.2.2]
theorem memK_add (ms:List Mm) (m:Mm):memK (ms ++ [m])=memK ms ++ [m.2.2.1,m.2.2.2]:=by
 unfold memK
 rw [List.flatMap_append]
 simp
theorem memK_len (ms:List Mm):(memK ms).length=2 * ms.length:=by
 unfold memK
 induction ms with
 | nil=>rfl
 | cons m ms ih=>rw [List.flatMap_cons,List.length_append,ih];simp;omega
def BuRR (P:Ps) (K:List Kn) (lost lostM:Int) (L0 M:List Tok) (n:Nat) (vs hs:List Value) (its:List (Out Tn×Value)):Prop :=
  (∃ (ms:List Mm) (q:List Tok→Nat),ms.length=n∧(∀ l,l.length≤M.length→l.length≤q l)∧buildS P L0=thn (memberS P M) (fun a l1=>thn (membersS P (q l1) l1) fun az l2=>thn (exq sCuC l2) fun _ l3=>.ok (buildT (ms ++ a :: az),l3))∧its=itsOf (memK ms) vs∧hs=ms.map (fun m=>Value.string (memH m))∧(∀ m∈ms,MemG m)∧lostM=lostS K lost (memK ms))∨
     (∃ r,buildS P L0 = .error r∧M=stuck r∧kindOf M=1)
def BuJ (P:Ps) (w:World) (rb g N:Nat) (L0:List Tok) (K:List Kn) (lost:Int) (k:Nat) (wr:World):Prop :=
 ∃ (X:List Nat) (M:List Tok) (lostM:Int) (rv rp:Value) (n:Nat) (vs hs:List Value) (its:List (Out Tn×Value)),N∈X∧Cl wr N [.string ⟨#[111,98,106,101,99,116]⟩,.string ⟨#[]⟩,.int .i64 0,.int .i64 0,.string ⟨#[]⟩,.slice none 0 0,.slice none 0 0,rv,rp]∧(∀ g,rv.ownBlock=some g→g∈X∧g≠N∧rp.ownBlock≠some g)∧(∀ g,rp.ownBlock=some g→g∈X∧g≠N)∧wr.ownsRow 0 25 1 rv (2 * n) vs∧wr.ownsRow 0 9 1 rp n hs∧n+k≤L0.length+1∧M.length≤L0.length∧Sx L0 M∧(M.length≤k∨∃ c,wr.cell? ⟨rb,2,none⟩=some (.int .i64 c)∧0≤c)∧NqR w wr rb g X M K lostM its∧BuRR P K lost lostM L0 M n vs hs its
theorem key_open {P:Ps}{t:Tok}{l:List Tok} (h2:t.kind≠2) (h6:t.kind≠6):keyS P (t :: l)=thn (exq sOpen (t :: l)) fun _ l1=>thn (P 0 l1) fun f l2=>thn (exq sShut l2) fun _ l3=>.ok ((2,⟨#[]⟩,f),l3):=by
 cases l with
 | nil=>rfl
 | cons u m =>
  show (if t.kind=2 then _ else if t.kind=6 then _ else _)=_
  rw [if_neg h2,if_neg h6]
def keyO (P:Ps) (M:List Tok):Out Tn:=thn (keyS P M) fun q l=>.ok (q.2.2,l)
def MemP (P:Ps) (M L2 L3:List Tok) (K:List Kn) (lostM lost3:Int) (how:ByteArray):Prop:=Fn (memberS P M) L3 fun m=>how=memH m∧MemG m∧(∃ l,keyO P M = .ok (m.2.2.1,l))∧(∃ l,P 13 L2 = .ok (m.2.2.2,l))∧lost3=lostF (lostF lostM (chk m.2.2.1 K)) (chk m.2.2.2 K)
theorem memP {P:Ps}{L1 L2 L3:List Tok}{lostM lost1 lost3:Int}{how:ByteArray} (f1:Fn (keyS P M) L1 fun q=>how=memH (q.1,q.2.1,q.2.2,q.2.2)∧lost1=lostF lostM (chk q.2.2 K)∧(q.1=0→q.2.1.data.toList≠[40]∧q.2.1.data.toList≠[34])) (f2:Rs (exq sColon L1) L2) (s2:Sx L1 L2) (f3:Fn (P 13 L2) L3 fun t=>lost3=lostF lost1 (chk t K)) (s3:Sx L2 L3):MemP P M L2 L3 K lostM lost3 how:=by
 unfold MemP memberS
 refine Fn.thn f1 (fun q e1 h1=>Fn.thn f2 (fun _ _ _=>Fn.thn f3 (fun v e3 h3=>Fn.ok ⟨h1.1,h1.2.2,⟨L1,by unfold keyO;rw [e1];rfl⟩,⟨L3,e3⟩,by rw [← h1.2.1];exact h3⟩) (Sx.refl _)) s3) (s2.trans s3)
theorem its_two {ts:List Tn}{vs:List Value} (h:ts.length=vs.length) {x y:Tn}{l l':List Tok}{kv vv:Value} (hn:NqR a w rb g X L K lost ((.ok (y,l'),vv) :: (.ok (x,l),kv) :: itsOf ts vs)):NqR a w rb g X L K lost (itsOf (ts ++ [x,y]) (vs ++ [kv,vv])):=by
 have e:itsOf (ts ++ [x,y]) (vs ++ [kv,vv])=itsOf ts vs ++ [(.ok (x,[]),kv),(.ok (y,[]),vv)]:=by
  unfold itsOf
  rw [List.zip_append h,List.map_append]
  rfl
 rw [e]
 refine ⟨hn.kept,hn.rd,hn.rbs,hn.gbs,hn.tb,hn.mine,fun q hq=>?_⟩
 rcases List.mem_append.1 hq with hq | hq
 ·exact hn.its q (.tail _ (.tail _ hq))
 ·rcases List.mem_cons.1 hq with rfl | hq
  ·exact fun t l2 e=>by cases e;exact hn.its _ (.tail _ (.head _)) x l rfl
  ·rcases List.mem_cons.1 hq with rfl | hq
   ·exact fun t l2 e=>by cases e;exact hn.its _ (.head _) y l' rfl
   ·simp at hq
theorem Rn.build {N n:Nat}{ms:List Mm}{vs:List Value}{r r':Value}{o:List Value} (hn:NqR a w rb g X L K lost its) (hi:its=itsOf (memK ms) vs) (hN:N∈X) (hc:Cl w N o) (ho:o=[.string ⟨#[111,98,106,101,99,116]⟩,.string ⟨#[]⟩,.int .i64 0,.int .i64 0,.string ⟨#[]⟩,.slice none 0 0,.slice none 0 0,r,r']) (hg:∀ b,r.ownBlock=some b→b∈X) (hg':∀ b,r'.ownBlock=some b→b∈X) (ow:w.ownsRow 0 25 1 r (2 * n) vs) (ow':w.ownsRow 0 9 1 r' n (ms.map fun m=>Value.string (memH m))) (hm:ms.length=n) (hG:∀ m∈ms,MemG m) :
  Rn (fun b=>a.heap.size≤b∧nbOf w rb≠some b) w (buildT ms) (.pointer (some ⟨N,0,none⟩)):=by
 have hmm:=hn.mine _ hN
 subst ho
 subst hi
 subst hm
 unfold buildT
 have hk:=memK_len ms
 unfold memK at hk
 refine Rn.mk (r:=r) (r':=r') (vs:=vs) ⟨hmm.1,hmm.2.2⟩ hmm.2.1 hc (by rw [hk];exact ow) (fun b e=>⟨(hn.mine b (hg b e)).1,(hn.mine b (hg b e)).2.2⟩) (fun j x hx=>?_) ?_ (fun b e=>⟨(hn.mine b (hg' b e)).1,(hn.mine b (hg' b e)).2.2⟩)
 ·have hl:vs.length=(memK ms).length:=by rw [ow.1,memK_len];omega
  have hj:j < (memK ms).length:=by
   have:=(List.getElem?_eq_some_iff.mp hx).1
   omega
  show Rn _ w ((memK ms).getD j Tn.no) x
  have:(memK ms).getD j Tn.no=(memK ms)[j]:=by simp [hj]
  rw [this]
  exact hn.kid (its_mem (List.getElem?_eq_getElem hj) hx) rfl
 ·rw [par_build ms hG,List.length_map,List.map_map]
  exact ow'
theorem member_one {P:Ps} (hk:kindOf M=1):memberS P M = .error M:=by
 unfold memberS
 have:keyS P M = .error M:=by
  match M,hk with
  | [],_=>rfl
  | t :: l,hk =>
   have hk:t.kind=1:=hk
   rw [key_open (by omega) (by omega)]
   have:exq sOpen (t :: l) = .error (t :: l):=by unfold exq;rw [acc_one (show kindOf (t :: l)=1 from hk)]
   rw [this]
   rfl
 rw [this]
 rfl
end
end Go.Proofs.Tryz
namespace Go.Proofs.Tryz
set_option maxHeartbeats 16000000
open Go.RowKit
set_option maxRecDepth 10000
section
variable {a w w' : World} {rb g : Nat} {X : List Nat} {L L' M : List Tok} {K K' : List Kn} {lost lost' : Int} {its : List (Out Tn × Value)} {s : ByteArray}
theorem mem_get {P:Ps}{L2 L3:List Tok}{lostM lost3:Int}{how:ByteArray} (h:MemP P M L2 L3 K lostM lost3 how) (hk:kindOf L3≠1):∃ m,memberS P M = .ok (m,L3)∧(how=memH m∧MemG m∧(∃ l,keyO P M = .ok (m.2.2.1,l))∧(∃ l,P 13 L2 = .ok (m.2.2.2,l))∧lost3=lostF (lostF lostM (chk m.2.2.1 K)) (chk m.2.2.2 K)):=by
 unfold MemP at h
 match e:memberS P M,h with
 | .ok (m,l),h=>obtain ⟨rfl,h⟩:=h;exact ⟨m,rfl,h⟩
 | .error r,h=>exact absurd h.2 hk
theorem mem_or {P:Ps}{L2 L3:List Tok}{lostM lost3:Int}{how:ByteArray} (h:MemP P M L2 L3 K lostM lost3 how):(∃ m,memberS P M = .ok (m,L3))∨∃ r,memberS P M = .error r∧L3=stuck r:=by
 unfold MemP at h
 match e:memberS P M,h with
 | .ok (m,l),h=>obtain ⟨rfl,h⟩:=h;exact .inl ⟨m,rfl⟩
 | .error r,h=>exact .inr ⟨r,rfl,h.1⟩
theorem key_filter {P:Ps}{L2 l2:List Tok}{t:Tn} (f2:Rs (exq sOpen M) L2) (e:(thn (thn (exq sOpen M) fun _ l1=>thn (P 0 l1) fun f l2=>thn (exq sShut l2) fun _ l3=>.ok ((2,(⟨#[]⟩:ByteArray),f),l3)) fun (q:Nat×ByteArray×Tn) l=>.ok (q.2.2,l)) = .ok (t,l2)):∃ (f:Tn) (l5:List Tok),P 0 L2 = .ok (t,l5):=by
 have f2:Fn (exq sOpen M) L2 fun _=>True:=f2
 cases h1:exq sOpen M with
 | error r=>rw [h1] at e;cases e
 | ok q =>
  obtain ⟨u,l⟩:=q
  rw [h1] at e f2
  have hl:L2=l:=f2.1
  rw [hl]
  have e:(thn (thn (P 0 l) fun f l2=>thn (exq sShut l2) fun _ l3=>.ok ((2,(⟨#[]⟩:ByteArray),f),l3)) fun (q:Nat×ByteArray×Tn) l=>.ok (q.2.2,l)) = .ok (t,l2):=e
  cases h2:P 0 l with
  | error r=>rw [h2] at e;cases e
  | ok q =>
   obtain ⟨f,l'⟩:=q
   rw [h2] at e
   have e:(thn (thn (exq sShut l') fun _ l3=>.ok ((2,(⟨#[]⟩:ByteArray),f),l3)) fun (q:Nat×ByteArray×Tn) l=>.ok (q.2.2,l)) = .ok (t,l2):=e
   cases h3:exq sShut l' with
   | error r=>rw [h3] at e;cases e
   | ok q=>rw [h3] at e;cases e;exact ⟨f,l',rfl⟩
theorem members_ok {P:Ps}{B:Nat} (hP:SndR P B):MembersOk P B:=by
  intro w rb g L K lost h ht hK hB
  have hn:=NqR.start h ht
  obtain ⟨j0,hj0,hy0,hy1,hy2⟩:=info_parts info_node
  obtain ⟨i0,hi0,hz0,hz1,hz2⟩:=info_parts info_stringP
  clear h
  go_enter Tryz.func132,Tryz.ntmps132
  go_wp2_with fail
  have hc:=Cl.start w [.string ⟨#[111,98,106,101,99,116]⟩,.string ⟨#[]⟩,.int .i64 0,.int .i64 0,.string ⟨#[]⟩,.slice none 0 0,.slice none 0 0,.slice none 0 0,.slice none 0 0] 51
  have hn:=hn.own (.cells #[.string ⟨#[111,98,106,101,99,116]⟩,.string ⟨#[]⟩,.int .i64 0,.int .i64 0,.string ⟨#[]⟩,.slice none 0 0,.slice none 0 0,.slice none 0 0,.slice none 0 0] 51)
  cases d0:acc sCuC L with
  | mk b0 M0 =>
  cases b0 with
  | true =>
    have z0:=acc_len d0
    refine Calls.mono (takesT hn.rd d0) ?_
    rintro e w2 ⟨rfl,k2,r2⟩
    have hc:=hc.callR hn (.head _) k2
    have hn:=hn.call k2 r2
    go_wp2_with fail
    go_ret
    rw [show buildS P L = .ok (buildT [],M0) by simp [buildS,d0]]
    exact ⟨w.heap.size,M0,lost,rfl,hn.kept,hn.rd,by omega,acc_sx d0,Fn.ok ⟨Rn.build (ms:=[]) (n:=0) (vs:=[]) hn rfl (.head _) hc rfl (by simp [Value.ownBlock]) (by simp [Value.ownBlock]) (World.ownsRow_nil _ _ _ _) (World.ownsRow_nil _ _ _ _) rfl (by simp),by rw [chk_build];rfl⟩⟩
  | false =>
  refine Calls.mono (takesF hn.rd d0) ?_
  rintro e w2 ⟨rfl,k2,r2⟩
  have hc:=hc.callR hn (.head _) k2
  have hn:=hn.call k2 r2
  go_wp2_with fail
  go_loopg [] (L.length+1) (fun k wr=>BuJ P w rb g w.heap.size L K lost k wr)
  case atStart =>
    exact ⟨_,L,lost,_,_,0,[],[],[],.head _,hc,by simp [Value.ownBlock],by simp [Value.ownBlock],World.ownsRow_nil _ _ _ _,World.ownsRow_nil _ _ _ _,by omega,Nat.le_refl _,Sx.refl _,.inl (by omega),hn,.inl ⟨[],List.length,rfl,fun l _=>Nat.le_refl _,by simp [buildS,d0],rfl,rfl,by simp,rfl⟩⟩
  case round =>
    clear hn hc
    obtain ⟨X,M,lostM,rv,rp,n,vs,hs,its,hNX,hc,hg,hg',ho,ho',hnk,hML,sM,hMk,hn,hR⟩:=hrel
    obtain ⟨pa,pc,hpe⟩:=owns_sl ho'
    subst hpe
    have ho:Aside (wr.ownsRow 0 25 1 rv (2 * n) vs):=ho
    have ho':Aside (wr.ownsRow 0 9 1 (.slice pa n pc) n hs):=ho'
    have hne:=hn.rd.wf.ne
    have hwf:=hn.rd.wf
    have hrb:=hn.rd.rbs
    obtain ⟨t,b,c2,hkt,hH,hcase⟩:=hn.rd.hand
    rcases hcase with ⟨hb,⟨l,hL⟩,i,c1,hi,f1,hstep⟩ | ⟨hb,hk1⟩
    case inr =>
      go_wp2_with fail
      go_ret
      refine ⟨w.heap.size,M,lostM,rfl,hn.kept,hn.rd,hML,sM,?_⟩
      rcases hR with ⟨ms,q,_,_,hE,_⟩ | ⟨r,hE,e,k⟩
      · rw [hE,member_one hk1]
        exact Fn.bad (stuck_one hk1).symm hk1
      · rw [hE]
        exact Fn.bad e k
    have hMk:M.length≤gk:=by
      rcases hMk with h | ⟨c,h1,h2⟩
      · exact h
      · rw [c2] at h1
        cases h1
        omega
    match gk,hMk,hnk with
    | 0,hMk,_=>exact absurd hne (by intro h;exact h (List.eq_nil_of_length_eq_zero (by omega)))
    | k+1,hMk,hnk =>
    have hks:=kb_sign hkt.k0 hkt.k7
    go_wp2_with fail
    refine Calls.mono hH ?_
    rintro e w1 ⟨tk,tx,tn,tp,rfl,hRT,hB1⟩
    have hrb1:rb < w1.heap.size:=Nat.lt_of_lt_of_le hrb hB1.size
    have c1':=(hB1.cell (p:=⟨rb,1,none⟩) hrb).trans c1
    have f1':=(hB1.frozen (p:=⟨rb,1,none⟩) hrb).trans f1
    have hnr:w1.heap.size≠rb:=by omega
    have hnr2:w1.heap.size+1≠rb:=by omega
    have hRT:Aside (RTk t tk tx tn tp):=hRT
    have hzN:=(hn.mine _ hNX).2.1
    have hc1:=hc.below hB1 hzN
    have ho1:Aside (w1.ownsRow 0 25 1 rv (2 * n) vs):=ownsB_below ho.out hB1
    have ho1':Aside (w1.ownsRow 0 9 1 (.slice pa n pc) n hs):=ownsB_below ho'.out hB1
    clear c1 f1 c2
    by_cases h2:t.kind=2
    · have hkb:tk=110:=by rw [hRT.out.kind,h2];rfl
      clear hks
      subst hkb
      have htx:tx=t.text:=hRT.out.text (by omega) (by omega) (by omega)
      subst htx
      obtain ⟨u,l',hl'⟩:∃ u l',l=u :: l':=by
        cases l with
        | nil =>
          rw [hL] at hwf
          have:t.kind=0∨t.kind=1:=hwf
          omega
        | cons u l'=>exact ⟨u,l',rfl⟩
      rw [hl'] at hL
      obtain ⟨hr2,hk2⟩:=hstep u l' hL w1 hB1
      have hlen:M.length=(u :: l').length+1:=by rw [hL];rfl
      have hKey:Aside (keyS P M = .ok ((0,t.text,litT (4,0,t.text)),u :: l')):=by rw [hL];exact by show (if t.kind=2 then _ else _)=_;rw [if_pos h2]
      clear hstep
      have hs1:∀ Q,Sx M Q:=fun Q e=>by
        rw [hL] at e
        have:t.kind=1:=e
        omega
      have hL:Hid (M=t :: u :: l'):=hL
      have hr2:Aside (RdR (w1.setCell ⟨rb,1,none⟩ (.int .i64 ((i:Int)+1))) rb g (u :: l') K lostM):=hr2
      have hk2:Aside (KpR rb w1 (w1.setCell ⟨rb,1,none⟩ (.int .i64 ((i:Int)+1)))):=hk2
      go_wp2_with fail
      have hn1:=hn.below hB1
      have hc2:=hc1.callR hn1 hNX hk2.out
      have ho2:=ownsR_call ho1.out hn1 (fun b e=>(hg b e).1) hk2.out
      have ho2':=ownsR_call ho1'.out hn1 (fun b e=>(hg' b e).1) hk2.out
      have hn2:=(hn1.call hk2.out hr2.out).alloc (.cells #[.int .u8 110,.string t.text,.int .i64 tn,.int .i64 tp] 43)
      have hlf:=Rn.leaf (kind:=2) (y:={ Pyl.none with val:=(4,0,t.text) }) (NqR.start hn2.rd hn2.tbw) rfl _ rfl
      have hn:=hn2.item (KpR.of_below (below_alloc _ _) hn2.rd.rbs) (hn2.rd.below (below_alloc _ _)) (x:=keyO P M) (v:=.pointer (some ⟨w1.heap.size+1,0,none⟩)) (f:=fun t' l2 e=>by
        unfold keyO at e
        rw [hKey.out] at e
        cases e
        have:=hlf.2
        simp only [World.size_setCell,World.size_alloc] at this ⊢
        exact this)
      have hc:=(hc2.below (below_alloc _ (.cells #[.int .u8 110,.string t.text,.int .i64 tn,.int .i64 tp] 43)) (by simp;have:=hB1.size;omega)).below (below_alloc _ (.cells (cellsN 2 { Pyl.none with val:=(4,0,t.text),cnt:=0 } ++ [Value.slice none 0 0,Value.slice none 0 0]).toArray 51)) (by simp;have:=hB1.size;omega)
      have ho:Aside (World.ownsRow _ 0 25 1 rv (2 * n) vs):=ownsB_below (ownsB_below ho2 (below_alloc _ (.cells #[.int .u8 110,.string t.text,.int .i64 tn,.int .i64 tp] 43))) (below_alloc _ (.cells (cellsN 2 { Pyl.none with val:=(4,0,t.text),cnt:=0 } ++ [Value.slice none 0 0,Value.slice none 0 0]).toArray 51))
      have ho':Aside (World.ownsRow _ 0 9 1 (.slice pa n pc) n hs):=ownsB_below (ownsB_below ho2' (below_alloc _ (.cells #[.int .u8 110,.string t.text,.int .i64 tn,.int .i64 tp] 43))) (below_alloc _ (.cells (cellsN 2 { Pyl.none with val:=(4,0,t.text),cnt:=0 } ++ [Value.slice none 0 0,Value.slice none 0 0]).toArray 51))
      have fK:Fn (keyS P M) (u :: l') fun q=>(⟨#[110]⟩:ByteArray)=memH (q.1,q.2.1,q.2.2,q.2.2)∧lostM=lostF lostM (chk q.2.2 K)∧(q.1=0→q.2.1.data.toList≠[40]∧q.2.1.data.toList≠[34]):=by
        rw [hKey.out]
        refine Fn.ok ⟨rfl,(lost_nd0 rfl).symm,fun _=>?_⟩
        have hnm:=hkt.name h2
        constructor
        · intro e
          have:=hnm 40 (by rw [e];exact .head _)
          revert this;decide
        · intro e
          have:=hnm 34 (by rw [e];exact .head _)
          revert this;decide
      clear hc1 ho1 ho1' hc2 ho2 ho2' hn1 hn2 hlf hr2 hk2
      refine Calls.mono (needsQ hn.rd) ?_
      rintro e w5 ⟨rfl,L5,k5,r5,l5,f5,s5⟩
      have hc:=hc.callR hn hNX k5
      have ho:Aside (w5.ownsRow 0 25 1 rv (2 * n) vs):=ownsR_call ho.out hn (fun b e=>(hg b e).1) k5
      have ho':Aside (w5.ownsRow 0 9 1 (.slice pa n pc) n hs):=ownsR_call ho'.out hn (fun b e=>(hg' b e).1) k5
      have hn:=hn.call k5 r5
      go_wp2_with fail
      refine Calls.mono (hP.climb 3 2 rfl (by decide) (by decide) hn.rd hn.tbw (by omega) (by omega)) ?_
      rintro e w6 ⟨b6,L6,lost6,rfl,k6,r6,l6,s6,f6⟩
      have hc:=hc.callR hn hNX k6
      have ho:Aside (w6.ownsRow 0 25 1 rv (2 * n) vs):=ownsR_call ho.out hn (fun b e=>(hg b e).1) k6
      have ho':Aside (w6.ownsRow 0 9 1 (.slice pa n pc) n hs):=ownsR_call ho'.out hn (fun b e=>(hg' b e).1) k6
      have hn:=hn.item (v:=.pointer (some ⟨b6,0,none⟩)) k6 r6 f6.rn
      have hMem:Aside (MemP P M L5 L6 K lostM lost6 ⟨#[110]⟩):=memP fK f5 s5 f6.lo s6
      have hsx:Sx M L6:=(hs1 _).trans (s5.trans s6)
      clear fK f5 f6 s5 s6
      have hS:w6.cell? ⟨w.heap.size,7,none⟩=some rv:=(hc.cell 7).trans rfl
      have q6:=hc.free
      have y6:=(hn.mine _ hNX).2.1
      have hrp6:∀ b,(Value.slice pa n pc).ownBlock=some b→b < w6.heap.size:=fun b e=>(ho'.out.lt b e).2
      go_wp2_with
        (first
          | (refine wpList_append_lies _ (by rfl) _ _ _ (by rfl) 0 25 j0 _ 1 8 Tryz.underlying49 hj0 hy0 hy1 hy2 rfl (by omega) rv (2 * n) vs (by rfl) (ownsB_below ho.out (below_alloc _ _)) ⟨w6.heap.size,0,none⟩ 2 2 [(.pointer (some ⟨w1.heap.size+1,0,none⟩)),.pointer (some ⟨b6,0,none⟩)] (by rfl) (by rfl) (World.news_of_block (cs:=#[(.pointer (some ⟨w1.heap.size+1,0,none⟩)),.pointer (some ⟨b6,0,none⟩)]) (t:=25) (fr:=(0,0)) (heap_new w6 _)) (by simp [Value.oneCell']) (by omega) (by unfold maxLen;omega) (by omega) (by simp) (w6.heap.size+1) (by simp) ?_;intro g8 cap8 w8 ow8 hgr8 hat8 hlt8;have hc:=(hc.below (below_alloc _ _) y6).grown hgr8 (by simp;omega) (fun e=>(hg _ e).2.1 rfl);have ho':Aside (w8.ownsRow 0 9 1 (.slice pa n pc) n hs):=owns_sameT (ownsB_below ho'.out (below_alloc _ _)) (fun b e=>hgr8.block b (ownsB_below ho'.out (below_alloc _ _) |>.lt b e).2 (fun e2=>(hg _ e2.symm).2.2 e));have hn:=(hn.alloc _).grown hgr8 (fun i e=>(hg i e).1) (hat8.imp id (fun e=>by simpa using e)) hlt8;have hS8:w8.cell? ⟨w.heap.size,7,none⟩=some rv:=(hc.cell 7).trans rfl;have hS8b:w8.cell? ⟨w.heap.size,8,none⟩=some (.slice pa n pc):=(hc.cell 8).trans rfl;have q8:=hc.free)
          | (have hg8:g8≠w.heap.size∧(Value.slice pa n pc).ownBlock≠some g8:=by
               rcases hat8 with e | e
               · exact (hg _ e).2
               · have e:g8=w6.heap.size+1:=by simpa using e
                 refine ⟨by omega,fun e2=>?_⟩
                 have:=hrp6 _ e2
                 omega
             obtain ⟨W,hW⟩:∃ W,W=w8.setCell ⟨w.heap.size,7,none⟩ (.slice (some ⟨g8,0,none⟩) (2 * n+2) cap8):=⟨_,rfl⟩
             have hc:=hc.set 7 (.slice (some ⟨g8,0,none⟩) (2 * n+2) cap8) (by simp)
             have hn:=hn.set (o:=7) (.slice (some ⟨g8,0,none⟩) (2 * n+2) cap8) (.tail _ hNX)
             have ho:=ownsB_set (N:=w.heap.size) (o:=7) (u:=.slice (some ⟨g8,0,none⟩) (2 * n+2) cap8) ow8 (fun b e=>by cases e;exact hg8.1)
             have ho':=ownsB_set (N:=w.heap.size) (o:=7) (u:=.slice (some ⟨g8,0,none⟩) (2 * n+2) cap8) ho'.out (fun b e=>(hg' b e).2)
             have hWs:w8.heap.size=W.heap.size:=by rw [hW];simp
             rw [← hW] at hc hn ho ho' ⊢
             rw [hWs]
             clear hWs hW hS8 hS8b q8 hgr8 ow8
             have ho:Aside (W.ownsRow 0 25 1 (.slice (some ⟨g8,0,none⟩) (2 * n+2) cap8) (2 * n+2) (vs ++ [(.pointer (some ⟨w1.heap.size+1,0,none⟩)),.pointer (some ⟨b6,0,none⟩)])):=ho
             have ho':Aside (W.ownsRow 0 9 1 (.slice pa n pc) n hs):=ho'
             have hS9:W.cell? ⟨w.heap.size,8,none⟩=some (.slice pa n pc):=(hc.cell 8).trans rfl
             have q9:=hc.free
             have y9:=(hn.mine _ (.tail _ hNX)).2.1
             have y8:=(hn.mine _ (.head _)).2.1
             refine wpList_append_lies _ (by rfl) _ _ _ (by rfl) 0 9 i0 _ 1 16 Tryz.underlying46 hi0 hz0 hz1 hz2 rfl (by omega) (.slice pa n pc) n hs (by rfl) (ownsB_below ho'.out (below_alloc _ _)) ⟨W.heap.size,0,none⟩ 1 1 [.string ⟨#[110]⟩] (by rfl) (by rfl) (World.news_of_block (cs:=#[.string ⟨#[110]⟩]) (t:=9) (fr:=(0,0)) (heap_new W _)) (by simp [Value.oneCell']) (by omega) (by unfold maxLen;omega) (by omega) (by simp) (W.heap.size+1) (by simp) ?_
             intro g9 cap9 w9 ow9 hgr9 hat9 hlt9
             have hc:=(hc.below (below_alloc _ _) y9).grown hgr9 (by simp;omega) (fun e=>(hg' _ e).2 rfl)
             have ho:Aside (w9.ownsRow 0 25 1 (.slice (some ⟨g8,0,none⟩) (2 * n+2) cap8) (2 * n+2) (vs ++ [(.pointer (some ⟨w1.heap.size+1,0,none⟩)),.pointer (some ⟨b6,0,none⟩)])):=owns_sameT (ownsB_below ho.out (below_alloc _ _)) (fun b e=>hgr9.block b (ownsB_below ho.out (below_alloc _ _) |>.lt b e).2 (fun e2=>by cases e;exact hg8.2 e2.symm))
             have hn:=(hn.alloc _).grown hgr9 (fun i e=>.tail _ (hg' i e).1) (hat9.imp id (fun e=>by simpa using e)) hlt9
             have hS9:w9.cell? ⟨w.heap.size,8,none⟩=some (.slice pa n pc):=(hc.cell 8).trans rfl
             have q10:=hc.free))
      have hg9:g9≠w.heap.size∧g9≠g8:=by
        rcases hat9 with e | e
        · exact ⟨(hg' _ e).2,fun e2=>hg8.2 (e2 ▸ e)⟩
        · have e:g9=W.heap.size+1:=by simpa using e
          omega
      obtain ⟨V,hV⟩:∃ V,V=w9.setCell ⟨w.heap.size,8,none⟩ (.slice (some ⟨g9,0,none⟩) (n+1) cap9):=⟨_,rfl⟩
      have hc:=hc.set 8 (.slice (some ⟨g9,0,none⟩) (n+1) cap9) (by simp)
      have hn:=hn.set (o:=8) (.slice (some ⟨g9,0,none⟩) (n+1) cap9) (.tail _ (.tail _ hNX))
      have ho:=ownsB_set (N:=w.heap.size) (o:=8) (u:=.slice (some ⟨g9,0,none⟩) (n+1) cap9) ho.out (fun b e=>by cases e;exact hg8.1)
      have ho':=ownsB_set (N:=w.heap.size) (o:=8) (u:=.slice (some ⟨g9,0,none⟩) (n+1) cap9) ow9 (fun b e=>by cases e;exact hg9.1)
      rw [← hV] at hc hn ho ho' ⊢
      clear hV hS9 q10 hgr9 ow9
      have ho:Aside (V.ownsRow 0 25 1 (.slice (some ⟨g8,0,none⟩) (2 * n+2) cap8) (2 * n+2) (vs ++ [(.pointer (some ⟨w1.heap.size+1,0,none⟩)),.pointer (some ⟨b6,0,none⟩)])):=ho
      have ho':Aside (V.ownsRow 0 9 1 (.slice (some ⟨g9,0,none⟩) (n+1) cap9) (n+1) (hs ++ [.string ⟨#[110]⟩])):=ho'
      cases d9:acc sCuC L6 with
      | mk b9 M9 =>
      cases b9 with
      | true =>
        have z9:=acc_len d9
        refine Calls.mono (takesT hn.rd d9) ?_
        rintro e wA ⟨rfl,kA,rA⟩
        have hc:=hc.callR hn (.tail _ (.tail _ hNX)) kA
        have ho:=ownsR_call ho.out hn (fun b e=>by cases e;exact .tail _ (.head _)) kA
        have ho':=ownsR_call ho'.out hn (fun b e=>by cases e;exact .head _) kA
        have hn:=hn.call kA rA
        go_wp2_with fail
        go_ret
        have hn1:kindOf L6≠1:=fun e=>by rw [acc_one e] at d9;cases d9
        refine ⟨w.heap.size,M9,lost6,rfl,hn.kept,hn.rd,by omega,fun e=>?_,?_⟩
        · exfalso
          apply hn1
          have e2:=sM e
          rw [hsx (by rw [e2];exact e),e2]
          exact e
        rcases hR with ⟨ms,q,hms,hq,hE,hi,hh,hG,hls⟩ | ⟨r,hE,e,k⟩
        · rw [hE]
          obtain ⟨m,hmm,hm⟩:=mem_get hMem.out hn1
          rw [hmm]
          have hq6:=hq L6 (by omega)
          have hz6:L6.length≠0:=by omega
          rw [show (thn (.ok (m,L6):Out Mm) fun a l1=>thn (membersS P (q l1) l1) fun az l2=>thn (exq sCuC l2) fun _ l3=>.ok (buildT (ms ++ a :: az),l3)) = .ok (buildT (ms ++ [m]),M9) by
            show thn (membersS P (q L6) L6) _=_
            match q L6,hq6 with
            | 0,hq6=>omega
            | m'+1,_ =>
              rw [show membersS P (m'+1) L6 = .ok ([],L6) by simp only [membersS,acc_other d9 (s2:=sComma) (by decide)]]
              show thn (exq sCuC L6) _=_
              unfold exq
              rw [d9]
              rfl]
          obtain ⟨hm1,hm2,⟨ll,hm3⟩,⟨ll',hm4⟩,hm5⟩:=hm
          rw [hm3,hm4,hi] at hn
          have hvl:(memK ms).length=vs.length:=by
            have:=ho.1
            rw [memK_len,hms]
            simp at this
            omega
          have hn:=its_two hvl hn
          rw [← memK_add] at hn
          refine Fn.ok ⟨Rn.build (ms:=ms ++ [m]) (n:=n+1) hn rfl (.tail _ (.tail _ hNX)) hc rfl (fun b e=>by cases e;exact .tail _ (.head _)) (fun b e=>by cases e;exact .head _) ho ?_ (by simp [hms]) ?_,?_⟩
          · rw [List.map_append,← hh,List.map_singleton,← hm1]
            exact ho'
          · intro m' hm'
            rcases List.mem_append.1 hm' with h | h
            · exact hG m' h
            · rw [List.mem_singleton.1 h]
              exact hm2
          · rw [chk_build]
            show lost6=lostS K lost (memK (ms ++ [m]))
            rw [memK_add]
            unfold lostS
            rw [List.foldl_append]
            show lost6=lostF (lostF (lostS K lost (memK ms)) _) _
            rw [← hls]
            exact hm5
        · exact absurd (show kindOf L6=1 by rw [hsx k];exact k) hn1
      | false =>
        refine Calls.mono (takesF hn.rd d9) ?_
        rintro e wA ⟨rfl,kA,rA⟩
        have hc:=hc.callR hn (.tail _ (.tail _ hNX)) kA
        have ho:Aside (wA.ownsRow 0 25 1 (.slice (some ⟨g8,0,none⟩) (2 * n+2) cap8) (2 * n+2) (vs ++ [(.pointer (some ⟨w1.heap.size+1,0,none⟩)),.pointer (some ⟨b6,0,none⟩)])):=ownsR_call ho.out hn (fun b e=>by cases e;exact .tail _ (.head _)) kA
        have ho':Aside (wA.ownsRow 0 9 1 (.slice (some ⟨g9,0,none⟩) (n+1) cap9) (n+1) (hs ++ [.string ⟨#[110]⟩])):=ownsR_call ho'.out hn (fun b e=>by cases e;exact .head _) kA
        have hn:=hn.call kA rA
        go_wp2_with fail
        cases dB:acc sComma L6 with
        | mk bB MB =>
        cases bB with
        | true =>
          have zB:=acc_len dB
          refine Calls.mono (needsT hn.rd dB) ?_
          rintro e wB ⟨rfl,kB,rB⟩
          have hc:=hc.callR hn (.tail _ (.tail _ hNX)) kB
          have ho:=ownsR_call ho.out hn (fun b e=>by cases e;exact .tail _ (.head _)) kB
          have ho':=ownsR_call ho'.out hn (fun b e=>by cases e;exact .head _) kB
          have hn:=hn.call kB rB
          go_wp2_with fail
          go_roundg k
          case measure=>omega
          case rel =>
            have hn1:kindOf L6≠1:=fun e=>by rw [acc_one e] at dB;cases dB
            have hnM:kindOf M≠1:=fun e=>hn1 (by rw [hsx e];exact e)
            rcases hR with ⟨ms,q,hms,hq,hE,hi,hh,hG,hls⟩ | ⟨r,hE,e,k⟩
            · obtain ⟨m,hmm,hm⟩:=mem_get hMem.out hn1
              obtain ⟨hm1,hm2,⟨ll,hm3⟩,⟨ll',hm4⟩,hm5⟩:=hm
              rw [hm3,hm4,hi] at hn
              have hvl:(memK ms).length=vs.length:=by
                have:=ho.1
                rw [memK_len,hms]
                simp at this
                omega
              have hn:=its_two hvl hn
              rw [← memK_add] at hn
              have hq6:=hq L6 (by omega)
              obtain ⟨m',hm'⟩:∃ m',q L6=m'+1:=⟨q L6 - 1,by omega⟩
              refine ⟨_,MB,lost6,_,_,n+1,_,_,_,.tail _ (.tail _ hNX),hc,fun b e=>by cases e;exact ⟨.tail _ (.head _),hg8.1,fun e2=>by cases e2;exact hg9.2 rfl⟩,fun b e=>by cases e;exact ⟨.head _,hg9.1⟩,ho,ho',by omega,by omega,(fun e=>absurd (by rw [sM e];exact e) hnM),.inl (by omega),hn,.inl ⟨ms ++ [m],fun _=>m',by simp [hms],fun l hl=>by show l.length≤m';omega,?_,rfl,by rw [List.map_append,← hh,List.map_singleton,← hm1],?_,?_⟩⟩
              · rw [hE,hmm]
                show thn (membersS P (q L6) L6) _=_
                rw [hm',show membersS P (m'+1) L6=thn (memberS P MB) fun a l2=>thn (membersS P m' l2) fun az l3=>.ok (a :: az,l3) by simp only [membersS,dB]]
                simp only [thn_thn]
                congr 1
                funext a l2
                congr 1
                funext az l3
                show thn (exq sCuC l3) _=thn (exq sCuC l3) _
                simp
              · intro m2 hm2'
                rcases List.mem_append.1 hm2' with h | h
                · exact hG m2 h
                · rw [List.mem_singleton.1 h]
                  exact hm2
              · rw [memK_add]
                unfold lostS
                rw [List.foldl_append]
                show lost6=lostF (lostF (lostS K lost (memK ms)) _) _
                rw [← hls]
                exact hm5
            · exact absurd k hnM
        | false =>
          refine Calls.mono (needsF hn.rd dB) ?_
          rintro e wB ⟨rfl,kB,rB,hkB,hcB⟩
          have hc:=hc.callR hn (.tail _ (.tail _ hNX)) kB
          have ho:=ownsR_call ho.out hn (fun b e=>by cases e;exact .tail _ (.head _)) kB
          have ho':=ownsR_call ho'.out hn (fun b e=>by cases e;exact .head _) kB
          have hn:=hn.call kB rB
          have hcB:Aside (∃ c,wB.cell? ⟨rb,2,none⟩=some (.int .i64 c)∧0≤c):=hcB
          go_wp2_with fail
          go_roundg k
          case measure=>omega
          case rel =>
            refine ⟨_,stuck L6,lost6,_,_,n+1,_,_,_,.tail _ (.tail _ hNX),hc,fun b e=>by cases e;exact ⟨.tail _ (.head _),hg8.1,fun e2=>by cases e2;exact hg9.2 rfl⟩,fun b e=>by cases e;exact ⟨.head _,hg9.1⟩,ho,ho',by omega,by rw [stuck_len];omega,(fun e=>?_),.inr hcB.out,hn,.inr ?_⟩
            · have e2:=sM e
              have e3:=hsx (by rw [e2];exact e)
              rw [e3,e2]
              exact stuck_one e
            · rcases hR with ⟨ms,q,hms,hq,hE,hi,hh,hG,hls⟩ | ⟨r,hE,e,k⟩
              · rcases mem_or hMem.out with ⟨m,hmm⟩ | ⟨r,hmm,er⟩
                · refine ⟨L6,?_,rfl,hkB⟩
                  rw [hE,hmm]
                  show thn (membersS P (q L6) L6) _=_
                  have hq6:=hq L6 (by omega)
                  have hz6:L6.length≠0:=fun e=>hn.rd.wf.ne (List.eq_nil_of_length_eq_zero (by rw [stuck_len];exact e))
                  obtain ⟨m',hm'⟩:∃ m',q L6=m'+1:=⟨q L6 - 1,by omega⟩
                  rw [hm',show membersS P (m'+1) L6 = .ok ([],L6) by simp only [membersS,dB]]
                  show thn (exq sCuC L6) _=_
                  unfold exq
                  rw [d9]
                  rfl
                · refine ⟨r,by rw [hE,hmm];rfl,by rw [er,stuck_stuck],hkB⟩
              · exact ⟨r,hE,by rw [hsx k,e,stuck_stuck],hkB⟩
    by_cases h6:t.kind=6
    · have hkb:tk=115:=by rw [hRT.out.kind,h6];rfl
      clear hks
      subst hkb
      have htx:tx=t.text:=hRT.out.text (by omega) (by omega) (by omega)
      subst htx
      obtain ⟨u,l',hl'⟩:∃ u l',l=u :: l':=by
        cases l with
        | nil =>
          rw [hL] at hwf
          have:t.kind=0∨t.kind=1:=hwf
          omega
        | cons u l'=>exact ⟨u,l',rfl⟩
      rw [hl'] at hL
      obtain ⟨hr2,hk2⟩:=hstep u l' hL w1 hB1
      have hlen:M.length=(u :: l').length+1:=by rw [hL];rfl
      have hKey:Aside (keyS P M = .ok ((1,t.text,litT (4,0,t.text)),u :: l')):=by rw [hL];exact by show (if t.kind=2 then _ else if t.kind=6 then _ else _)=_;rw [if_neg h2,if_pos h6]
      clear hstep
      have hs1:∀ Q,Sx M Q:=fun Q e=>by
        rw [hL] at e
        have:t.kind=1:=e
        omega
      have hL:Hid (M=t :: u :: l'):=hL
      have hr2:Aside (RdR (w1.setCell ⟨rb,1,none⟩ (.int .i64 ((i:Int)+1))) rb g (u :: l') K lostM):=hr2
      have hk2:Aside (KpR rb w1 (w1.setCell ⟨rb,1,none⟩ (.int .i64 ((i:Int)+1)))):=hk2
      go_wp2_with fail
      have hn1:=hn.below hB1
      have hc2:=hc1.callR hn1 hNX hk2.out
      have ho2:=ownsR_call ho1.out hn1 (fun b e=>(hg b e).1) hk2.out
      have ho2':=ownsR_call ho1'.out hn1 (fun b e=>(hg' b e).1) hk2.out
      have hn2:=(hn1.call hk2.out hr2.out).alloc (.cells #[.int .u8 115,.string t.text,.int .i64 tn,.int .i64 tp] 43)
      have hlf:=Rn.leaf (kind:=2) (y:={ Pyl.none with val:=(4,0,t.text) }) (NqR.start hn2.rd hn2.tbw) rfl _ rfl
      have hn:=hn2.item (KpR.of_below (below_alloc _ _) hn2.rd.rbs) (hn2.rd.below (below_alloc _ _)) (x:=keyO P M) (v:=.pointer (some ⟨w1.heap.size+1,0,none⟩)) (f:=fun t' l2 e=>by
        unfold keyO at e
        rw [hKey.out] at e
        cases e
        have:=hlf.2
        simp only [World.size_setCell,World.size_alloc] at this ⊢
        exact this)
      have hc:=(hc2.below (below_alloc _ (.cells #[.int .u8 115,.string t.text,.int .i64 tn,.int .i64 tp] 43)) (by simp;have:=hB1.size;omega)).below (below_alloc _ (.cells (cellsN 2 { Pyl.none with val:=(4,0,t.text),cnt:=0 } ++ [Value.slice none 0 0,Value.slice none 0 0]).toArray 51)) (by simp;have:=hB1.size;omega)
      have ho:Aside (World.ownsRow _ 0 25 1 rv (2 * n) vs):=ownsB_below (ownsB_below ho2 (below_alloc _ (.cells #[.int .u8 115,.string t.text,.int .i64 tn,.int .i64 tp] 43))) (below_alloc _ (.cells (cellsN 2 { Pyl.none with val:=(4,0,t.text),cnt:=0 } ++ [Value.slice none 0 0,Value.slice none 0 0]).toArray 51))
      have ho':Aside (World.ownsRow _ 0 9 1 (.slice pa n pc) n hs):=ownsB_below (ownsB_below ho2' (below_alloc _ (.cells #[.int .u8 115,.string t.text,.int .i64 tn,.int .i64 tp] 43))) (below_alloc _ (.cells (cellsN 2 { Pyl.none with val:=(4,0,t.text),cnt:=0 } ++ [Value.slice none 0 0,Value.slice none 0 0]).toArray 51))
      have fK:Fn (keyS P M) (u :: l') fun q=>(⟨#[115]⟩:ByteArray)=memH (q.1,q.2.1,q.2.2,q.2.2)∧lostM=lostF lostM (chk q.2.2 K)∧(q.1=0→q.2.1.data.toList≠[40]∧q.2.1.data.toList≠[34]):=by
        rw [hKey.out]
        refine Fn.ok ⟨rfl,(lost_nd0 rfl).symm,fun e=>by cases e⟩
      clear hc1 ho1 ho1' hc2 ho2 ho2' hn1 hn2 hlf hr2 hk2
      refine Calls.mono (needsQ hn.rd) ?_
      rintro e w5 ⟨rfl,L5,k5,r5,l5,f5,s5⟩
      have hc:=hc.callR hn hNX k5
      have ho:Aside (w5.ownsRow 0 25 1 rv (2 * n) vs):=ownsR_call ho.out hn (fun b e=>(hg b e).1) k5
      have ho':Aside (w5.ownsRow 0 9 1 (.slice pa n pc) n hs):=ownsR_call ho'.out hn (fun b e=>(hg' b e).1) k5
      have hn:=hn.call k5 r5
      go_wp2_with fail
      refine Calls.mono (hP.climb 3 2 rfl (by decide) (by decide) hn.rd hn.tbw (by omega) (by omega)) ?_
      rintro e w6 ⟨b6,L6,lost6,rfl,k6,r6,l6,s6,f6⟩
      have hc:=hc.callR hn hNX k6
      have ho:Aside (w6.ownsRow 0 25 1 rv (2 * n) vs):=ownsR_call ho.out hn (fun b e=>(hg b e).1) k6
      have ho':Aside (w6.ownsRow 0 9 1 (.slice pa n pc) n hs):=ownsR_call ho'.out hn (fun b e=>(hg' b e).1) k6
      have hn:=hn.item (v:=.pointer (some ⟨b6,0,none⟩)) k6 r6 f6.rn
      have hMem:Aside (MemP P M L5 L6 K lostM lost6 ⟨#[115]⟩):=memP fK f5 s5 f6.lo s6
      have hsx:Sx M L6:=(hs1 _).trans (s5.trans s6)
      clear fK f5 f6 s5 s6
      have hS:w6.cell? ⟨w.heap.size,7,none⟩=some rv:=(hc.cell 7).trans rfl
      have q6:=hc.free
      have y6:=(hn.mine _ hNX).2.1
      have hrp6:∀ b,(Value.slice pa n pc).ownBlock=some b→b < w6.heap.size:=fun b e=>(ho'.out.lt b e).2
      go_wp2_with
        (first
          | (refine wpList_append_lies _ (by rfl) _ _ _ (by rfl) 0 25 j0 _ 1 8 Tryz.underlying49 hj0 hy0 hy1 hy2 rfl (by omega) rv (2 * n) vs (by rfl) (ownsB_below ho.out (below_alloc _ _)) ⟨w6.heap.size,0,none⟩ 2 2 [(.pointer (some ⟨w1.heap.size+1,0,none⟩)),.pointer (some ⟨b6,0,none⟩)] (by rfl) (by rfl) (World.news_of_block (cs:=#[(.pointer (some ⟨w1.heap.size+1,0,none⟩)),.pointer (some ⟨b6,0,none⟩)]) (t:=25) (fr:=(0,0)) (heap_new w6 _)) (by simp [Value.oneCell']) (by omega) (by unfold maxLen;omega) (by omega) (by simp) (w6.heap.size+1) (by simp) ?_;intro g8 cap8 w8 ow8 hgr8 hat8 hlt8;have hc:=(hc.below (below_alloc _ _) y6).grown hgr8 (by simp;omega) (fun e=>(hg _ e).2.1 rfl);have ho':Aside (w8.ownsRow 0 9 1 (.slice pa n pc) n hs):=owns_sameT (ownsB_below ho'.out (below_alloc _ _)) (fun b e=>hgr8.block b (ownsB_below ho'.out (below_alloc _ _) |>.lt b e).2 (fun e2=>(hg _ e2.symm).2.2 e));have hn:=(hn.alloc _).grown hgr8 (fun i e=>(hg i e).1) (hat8.imp id (fun e=>by simpa using e)) hlt8;have hS8:w8.cell? ⟨w.heap.size,7,none⟩=some rv:=(hc.cell 7).trans rfl;have hS8b:w8.cell? ⟨w.heap.size,8,none⟩=some (.slice pa n pc):=(hc.cell 8).trans rfl;have q8:=hc.free)
          | (have hg8:g8≠w.heap.size∧(Value.slice pa n pc).ownBlock≠some g8:=by
               rcases hat8 with e | e
               · exact (hg _ e).2
               · have e:g8=w6.heap.size+1:=by simpa using e
                 refine ⟨by omega,fun e2=>?_⟩
                 have:=hrp6 _ e2
                 omega
             obtain ⟨W,hW⟩:∃ W,W=w8.setCell ⟨w.heap.size,7,none⟩ (.slice (some ⟨g8,0,none⟩) (2 * n+2) cap8):=⟨_,rfl⟩
             have hc:=hc.set 7 (.slice (some ⟨g8,0,none⟩) (2 * n+2) cap8) (by simp)
             have hn:=hn.set (o:=7) (.slice (some ⟨g8,0,none⟩) (2 * n+2) cap8) (.tail _ hNX)
             have ho:=ownsB_set (N:=w.heap.size) (o:=7) (u:=.slice (some ⟨g8,0,none⟩) (2 * n+2) cap8) ow8 (fun b e=>by cases e;exact hg8.1)
             have ho':=ownsB_set (N:=w.heap.size) (o:=7) (u:=.slice (some ⟨g8,0,none⟩) (2 * n+2) cap8) ho'.out (fun b e=>(hg' b e).2)
             have hWs:w8.heap.size=W.heap.size:=by rw [hW];simp
             rw [← hW] at hc hn ho ho' ⊢
             rw [hWs]
             clear hWs hW hS8 hS8b q8 hgr8 ow8
             have ho:Aside (W.ownsRow 0 25 1 (.slice (some ⟨g8,0,none⟩) (2 * n+2) cap8) (2 * n+2) (vs ++ [(.pointer (some ⟨w1.heap.size+1,0,none⟩)),.pointer (some ⟨b6,0,none⟩)])):=ho
             have ho':Aside (W.ownsRow 0 9 1 (.slice pa n pc) n hs):=ho'
             have hS9:W.cell? ⟨w.heap.size,8,none⟩=some (.slice pa n pc):=(hc.cell 8).trans rfl
             have q9:=hc.free
             have y9:=(hn.mine _ (.tail _ hNX)).2.1
             have y8:=(hn.mine _ (.head _)).2.1
             refine wpList_append_lies _ (by rfl) _ _ _ (by rfl) 0 9 i0 _ 1 16 Tryz.underlying46 hi0 hz0 hz1 hz2 rfl (by omega) (.slice pa n pc) n hs (by rfl) (ownsB_below ho'.out (below_alloc _ _)) ⟨W.heap.size,0,none⟩ 1 1 [.string ⟨#[115]⟩] (by rfl) (by rfl) (World.news_of_block (cs:=#[.string ⟨#[115]⟩]) (t:=9) (fr:=(0,0)) (heap_new W _)) (by simp [Value.oneCell']) (by omega) (by unfold maxLen;omega) (by omega) (by simp) (W.heap.size+1) (by simp) ?_
             intro g9 cap9 w9 ow9 hgr9 hat9 hlt9
             have hc:=(hc.below (below_alloc _ _) y9).grown hgr9 (by simp;omega) (fun e=>(hg' _ e).2 rfl)
             have ho:Aside (w9.ownsRow 0 25 1 (.slice (some ⟨g8,0,none⟩) (2 * n+2) cap8) (2 * n+2) (vs ++ [(.pointer (some ⟨w1.heap.size+1,0,none⟩)),.pointer (some ⟨b6,0,none⟩)])):=owns_sameT (ownsB_below ho.out (below_alloc _ _)) (fun b e=>hgr9.block b (ownsB_below ho.out (below_alloc _ _) |>.lt b e).2 (fun e2=>by cases e;exact hg8.2 e2.symm))
             have hn:=(hn.alloc _).grown hgr9 (fun i e=>.tail _ (hg' i e).1) (hat9.imp id (fun e=>by simpa using e)) hlt9
             have hS9:w9.cell? ⟨w.heap.size,8,none⟩=some (.slice pa n pc):=(hc.cell 8).trans rfl
             have q10:=hc.free))
      have hg9:g9≠w.heap.size∧g9≠g8:=by
        rcases hat9 with e | e
        · exact ⟨(hg' _ e).2,fun e2=>hg8.2 (e2 ▸ e)⟩
        · have e:g9=W.heap.size+1:=by simpa using e
          omega
      obtain ⟨V,hV⟩:∃ V,V=w9.setCell ⟨w.heap.size,8,none⟩ (.slice (some ⟨g9,0,none⟩) (n+1) cap9):=⟨_,rfl⟩
      have hc:=hc.set 8 (.slice (some ⟨g9,0,none⟩) (n+1) cap9) (by simp)
      have hn:=hn.set (o:=8) (.slice (some ⟨g9,0,none⟩) (n+1) cap9) (.tail _ (.tail _ hNX))
      have ho:=ownsB_set (N:=w.heap.size) (o:=8) (u:=.slice (some ⟨g9,0,none⟩) (n+1) cap9) ho.out (fun b e=>by cases e;exact hg8.1)
      have ho':=ownsB_set (N:=w.heap.size) (o:=8) (u:=.slice (some ⟨g9,0,none⟩) (n+1) cap9) ow9 (fun b e=>by cases e;exact hg9.1)
      rw [← hV] at hc hn ho ho' ⊢
      clear hV hS9 q10 hgr9 ow9
      have ho:Aside (V.ownsRow 0 25 1 (.slice (some ⟨g8,0,none⟩) (2 * n+2) cap8) (2 * n+2) (vs ++ [(.pointer (some ⟨w1.heap.size+1,0,none⟩)),.pointer (some ⟨b6,0,none⟩)])):=ho
      have ho':Aside (V.ownsRow 0 9 1 (.slice (some ⟨g9,0,none⟩) (n+1) cap9) (n+1) (hs ++ [.string ⟨#[115]⟩])):=ho'
      cases d9:acc sCuC L6 with
      | mk b9 M9 =>
      cases b9 with
      | true =>
        have z9:=acc_len d9
        refine Calls.mono (takesT hn.rd d9) ?_
        rintro e wA ⟨rfl,kA,rA⟩
        have hc:=hc.callR hn (.tail _ (.tail _ hNX)) kA
        have ho:=ownsR_call ho.out hn (fun b e=>by cases e;exact .tail _ (.head _)) kA
        have ho':=ownsR_call ho'.out hn (fun b e=>by cases e;exact .head _) kA
        have hn:=hn.call kA rA
        go_wp2_with fail
        go_ret
        have hn1:kindOf L6≠1:=fun e=>by rw [acc_one e] at d9;cases d9
        refine ⟨w.heap.size,M9,lost6,rfl,hn.kept,hn.rd,by omega,fun e=>?_,?_⟩
        · exfalso
          apply hn1
          have e2:=sM e
          rw [hsx (by rw [e2];exact e),e2]
          exact e
        rcases hR with ⟨ms,q,hms,hq,hE,hi,hh,hG,hls⟩ | ⟨r,hE,e,k⟩
        · rw [hE]
          obtain ⟨m,hmm,hm⟩:=mem_get hMem.out hn1
          rw [hmm]
          have hq6:=hq L6 (by omega)
          have hz6:L6.length≠0:=by omega
          rw [show (thn (.ok (m,L6):Out Mm) fun a l1=>thn (membersS P (q l1) l1) fun az l2=>thn (exq sCuC l2) fun _ l3=>.ok (buildT (ms ++ a :: az),l3)) = .ok (buildT (ms ++ [m]),M9) by
            show thn (membersS P (q L6) L6) _=_
            match q L6,hq6 with
            | 0,hq6=>omega
            | m'+1,_ =>
              rw [show membersS P (m'+1) L6 = .ok ([],L6) by simp only [membersS,acc_other d9 (s2:=sComma) (by decide)]]
              show thn (exq sCuC L6) _=_
              unfold exq
              rw [d9]
              rfl]
          obtain ⟨hm1,hm2,⟨ll,hm3⟩,⟨ll',hm4⟩,hm5⟩:=hm
          rw [hm3,hm4,hi] at hn
          have hvl:(memK ms).length=vs.length:=by
            have:=ho.1
            rw [memK_len,hms]
            simp at this
            omega
          have hn:=its_two hvl hn
          rw [← memK_add] at hn
          refine Fn.ok ⟨Rn.build (ms:=ms ++ [m]) (n:=n+1) hn rfl (.tail _ (.tail _ hNX)) hc rfl (fun b e=>by cases e;exact .tail _ (.head _)) (fun b e=>by cases e;exact .head _) ho ?_ (by simp [hms]) ?_,?_⟩
          · rw [List.map_append,← hh,List.map_singleton,← hm1]
            exact ho'
          · intro m' hm'
            rcases List.mem_append.1 hm' with h | h
            · exact hG m' h
            · rw [List.mem_singleton.1 h]
              exact hm2
          · rw [chk_build]
            show lost6=lostS K lost (memK (ms ++ [m]))
            rw [memK_add]
            unfold lostS
            rw [List.foldl_append]
            show lost6=lostF (lostF (lostS K lost (memK ms)) _) _
            rw [← hls]
            exact hm5
        · exact absurd (show kindOf L6=1 by rw [hsx k];exact k) hn1
      | false =>
        refine Calls.mono (takesF hn.rd d9) ?_
        rintro e wA ⟨rfl,kA,rA⟩
        have hc:=hc.callR hn (.tail _ (.tail _ hNX)) kA
        have ho:Aside (wA.ownsRow 0 25 1 (.slice (some ⟨g8,0,none⟩) (2 * n+2) cap8) (2 * n+2) (vs ++ [(.pointer (some ⟨w1.heap.size+1,0,none⟩)),.pointer (some ⟨b6,0,none⟩)])):=ownsR_call ho.out hn (fun b e=>by cases e;exact .tail _ (.head _)) kA
        have ho':Aside (wA.ownsRow 0 9 1 (.slice (some ⟨g9,0,none⟩) (n+1) cap9) (n+1) (hs ++ [.string ⟨#[115]⟩])):=ownsR_call ho'.out hn (fun b e=>by cases e;exact .head _) kA
        have hn:=hn.call kA rA
        go_wp2_with fail
        cases dB:acc sComma L6 with
        | mk bB MB =>
        cases bB with
        | true =>
          have zB:=acc_len dB
          refine Calls.mono (needsT hn.rd dB) ?_
          rintro e wB ⟨rfl,kB,rB⟩
          have hc:=hc.callR hn (.tail _ (.tail _ hNX)) kB
          have ho:=ownsR_call ho.out hn (fun b e=>by cases e;exact .tail _ (.head _)) kB
          have ho':=ownsR_call ho'.out hn (fun b e=>by cases e;exact .head _) kB
          have hn:=hn.call kB rB
          go_wp2_with fail
          go_roundg k
          case measure=>omega
          case rel =>
            have hn1:kindOf L6≠1:=fun e=>by rw [acc_one e] at dB;cases dB
            have hnM:kindOf M≠1:=fun e=>hn1 (by rw [hsx e];exact e)
            rcases hR with ⟨ms,q,hms,hq,hE,hi,hh,hG,hls⟩ | ⟨r,hE,e,k⟩
            · obtain ⟨m,hmm,hm⟩:=mem_get hMem.out hn1
              obtain ⟨hm1,hm2,⟨ll,hm3⟩,⟨ll',hm4⟩,hm5⟩:=hm
              rw [hm3,hm4,hi] at hn
              have hvl:(memK ms).length=vs.length:=by
                have:=ho.1
                rw [memK_len,hms]
                simp at this
                omega
              have hn:=its_two hvl hn
              rw [← memK_add] at hn
              have hq6:=hq L6 (by omega)
              obtain ⟨m',hm'⟩:∃ m',q L6=m'+1:=⟨q L6 - 1,by omega⟩
              refine ⟨_,MB,lost6,_,_,n+1,_,_,_,.tail _ (.tail _ hNX),hc,fun b e=>by cases e;exact ⟨.tail _ (.head _),hg8.1,fun e2=>by cases e2;exact hg9.2 rfl⟩,fun b e=>by cases e;exact ⟨.head _,hg9.1⟩,ho,ho',by omega,by omega,(fun e=>absurd (by rw [sM e];exact e) hnM),.inl (by omega),hn,.inl ⟨ms ++ [m],fun _=>m',by simp [hms],fun l hl=>by show l.length≤m';omega,?_,rfl,by rw [List.map_append,← hh,List.map_singleton,← hm1],?_,?_⟩⟩
              · rw [hE,hmm]
                show thn (membersS P (q L6) L6) _=_
                rw [hm',show membersS P (m'+1) L6=thn (memberS P MB) fun a l2=>thn (membersS P m' l2) fun az l3=>.ok (a :: az,l3) by simp only [membersS,dB]]
                simp only [thn_thn]
                congr 1
                funext a l2
                congr 1
                funext az l3
                show thn (exq sCuC l3) _=thn (exq sCuC l3) _
                simp
              · intro m2 hm2'
                rcases List.mem_append.1 hm2' with h | h
                · exact hG m2 h
                · rw [List.mem_singleton.1 h]
                  exact hm2
              · rw [memK_add]
                unfold lostS
                rw [List.foldl_append]
                show lost6=lostF (lostF (lostS K lost (memK ms)) _) _
                rw [← hls]
                exact hm5
            · exact absurd k hnM
        | false =>
          refine Calls.mono (needsF hn.rd dB) ?_
          rintro e wB ⟨rfl,kB,rB,hkB,hcB⟩
          have hc:=hc.callR hn (.tail _ (.tail _ hNX)) kB
          have ho:=ownsR_call ho.out hn (fun b e=>by cases e;exact .tail _ (.head _)) kB
          have ho':=ownsR_call ho'.out hn (fun b e=>by cases e;exact .head _) kB
          have hn:=hn.call kB rB
          have hcB:Aside (∃ c,wB.cell? ⟨rb,2,none⟩=some (.int .i64 c)∧0≤c):=hcB
          go_wp2_with fail
          go_roundg k
          case measure=>omega
          case rel =>
            refine ⟨_,stuck L6,lost6,_,_,n+1,_,_,_,.tail _ (.tail _ hNX),hc,fun b e=>by cases e;exact ⟨.tail _ (.head _),hg8.1,fun e2=>by cases e2;exact hg9.2 rfl⟩,fun b e=>by cases e;exact ⟨.head _,hg9.1⟩,ho,ho',by omega,by rw [stuck_len];omega,(fun e=>?_),.inr hcB.out,hn,.inr ?_⟩
            · have e2:=sM e
              have e3:=hsx (by rw [e2];exact e)
              rw [e3,e2]
              exact stuck_one e
            · rcases hR with ⟨ms,q,hms,hq,hE,hi,hh,hG,hls⟩ | ⟨r,hE,e,k⟩
              · rcases mem_or hMem.out with ⟨m,hmm⟩ | ⟨r,hmm,er⟩
                · refine ⟨L6,?_,rfl,hkB⟩
                  rw [hE,hmm]
                  show thn (membersS P (q L6) L6) _=_
                  have hq6:=hq L6 (by omega)
                  have hz6:L6.length≠0:=fun e=>hn.rd.wf.ne (List.eq_nil_of_length_eq_zero (by rw [stuck_len];exact e))
                  obtain ⟨m',hm'⟩:∃ m',q L6=m'+1:=⟨q L6 - 1,by omega⟩
                  rw [hm',show membersS P (m'+1) L6 = .ok ([],L6) by simp only [membersS,dB]]
                  show thn (exq sCuC L6) _=_
                  unfold exq
                  rw [d9]
                  rfl
                · refine ⟨r,by rw [hE,hmm];rfl,by rw [er,stuck_stuck],hkB⟩
              · exact ⟨r,hE,by rw [hsx k,e,stuck_stuck],hkB⟩
    have m2:(tk == 110)=false:=by rw [hRT.out.kind];simpa using fun e=>h2 (hks.2.2.1.1 e)
    have m6:(tk == 115)=false:=by rw [hRT.out.kind];simpa using fun e=>h6 (hks.2.2.2.2.2.1.1 e)
    clear hks hstep
    have hKey:Aside (keyS P M=thn (exq sOpen M) fun _ l1=>thn (P 0 l1) fun f l2=>thn (exq sShut l2) fun _ l3=>.ok ((2,⟨#[]⟩,f),l3)):=by rw [hL];exact key_open h2 h6
    have hL:Hid (M=t :: l):=hL
    go_wp2_with fail
    have hBN:Below wr.heap.size wr ((w1.alloc (.cells #[.int .u8 tk,.string tx,.int .i64 tn,.int .i64 tp] 43)).alloc (.cells #[.string ⟨#[118,97,108]⟩,.string ⟨#[]⟩,.int .i64 4,.int .i64 0,.string tx,.slice none 0 0,.slice none 0 0,.slice none 0 0,.slice none 0 0] 51)):=(hB1.alloc (hB1.size) _).alloc (by have:=hB1.size;simp;omega) _
    have hc:=hc.below hBN hzN
    have ho2:=ownsB_below ho.out hBN
    have ho2':=ownsB_below ho'.out hBN
    have hn:=hn.below hBN
    clear hc1 ho1 ho1'
    refine Calls.mono (needsQ hn.rd) ?_
    rintro e w2 ⟨rfl,L2,k2,r2,l2,f2,s2⟩
    have hc:=hc.callR hn hNX k2
    have ho:Aside (w2.ownsRow 0 25 1 rv (2 * n) vs):=ownsR_call ho2 hn (fun b e=>(hg b e).1) k2
    have ho':Aside (w2.ownsRow 0 9 1 (.slice pa n pc) n hs):=ownsR_call ho2' hn (fun b e=>(hg' b e).1) k2
    have hn:=hn.call k2 r2
    clear ho2 ho2'
    go_wp2_with fail
    refine Calls.mono (hP.filter hn.rd hn.tbw (by omega) (by omega)) ?_
    rintro e w3 ⟨b3,L3,lost3,rfl,k3,r3,l3,s3,f3⟩
    have hc:=hc.callR hn hNX k3
    have ho:Aside (w3.ownsRow 0 25 1 rv (2 * n) vs):=ownsR_call ho.out hn (fun b e=>(hg b e).1) k3
    have ho':Aside (w3.ownsRow 0 9 1 (.slice pa n pc) n hs):=ownsR_call ho'.out hn (fun b e=>(hg' b e).1) k3
    have hfr:=f3.rn
    have hn:=hn.item (x:=P 0 L2) (v:=.pointer (some ⟨b3,0,none⟩)) k3 r3 hfr
    have f3:=f3.lo
    go_wp2_with fail
    refine Calls.mono (needsQ hn.rd) ?_
    rintro e w4 ⟨rfl,L4,k4,r4,l4,f4,s4⟩
    have hc:=hc.callR hn hNX k4
    have ho:Aside (w4.ownsRow 0 25 1 rv (2 * n) vs):=ownsR_call ho.out hn (fun b e=>(hg b e).1) k4
    have ho':Aside (w4.ownsRow 0 9 1 (.slice pa n pc) n hs):=ownsR_call ho'.out hn (fun b e=>(hg' b e).1) k4
    have hn:=hn.call k4 r4
    have hn:NqR w w4 rb g X L4 K lost3 ((keyO P M,.pointer (some ⟨b3,0,none⟩)) :: its):=by
      refine ⟨hn.kept,hn.rd,hn.rbs,hn.gbs,hn.tb,hn.mine,fun q hq=>?_⟩
      rcases List.mem_cons.1 hq with rfl | hq
      · intro t' l2 e
        unfold keyO at e
        rw [hKey.out] at e
        obtain ⟨f,l5,hf⟩:=key_filter f2 e
        exact hn.its _ (.head _) t' l5 hf
      · exact hn.its q (.tail _ hq)
    have fK:Fn (keyS P M) L4 fun q=>(⟨#[40]⟩:ByteArray)=memH (q.1,q.2.1,q.2.2,q.2.2)∧lost3=lostF lostM (chk q.2.2 K)∧(q.1=0→q.2.1.data.toList≠[40]∧q.2.1.data.toList≠[34]):=by
      rw [hKey.out]
      exact Fn.thn f2 (fun _ _ _=>Fn.thn f3 (fun a3 _ h3=>Fn.thn f4 (fun _ _ _=>Fn.ok ⟨rfl,h3,fun e=>by cases e⟩) (Sx.refl _)) s4) (s3.trans s4)
    have hs4:Sx M L4:=s2.trans (s3.trans s4)
    clear f2 f3 f4 s2 s3 s4 hfr
    go_wp2_with fail
    refine Calls.mono (needsQ hn.rd) ?_
    rintro e w5 ⟨rfl,L5,k5,r5,l5,f5,s5⟩
    have hc:=hc.callR hn hNX k5
    have ho:Aside (w5.ownsRow 0 25 1 rv (2 * n) vs):=ownsR_call ho.out hn (fun b e=>(hg b e).1) k5
    have ho':Aside (w5.ownsRow 0 9 1 (.slice pa n pc) n hs):=ownsR_call ho'.out hn (fun b e=>(hg' b e).1) k5
    have hn:=hn.call k5 r5
    go_wp2_with fail
    refine Calls.mono (hP.climb 3 2 rfl (by decide) (by decide) hn.rd hn.tbw (by omega) (by omega)) ?_
    rintro e w6 ⟨b6,L6,lost6,rfl,k6,r6,l6,s6,f6⟩
    have hc:=hc.callR hn hNX k6
    have ho:Aside (w6.ownsRow 0 25 1 rv (2 * n) vs):=ownsR_call ho.out hn (fun b e=>(hg b e).1) k6
    have ho':Aside (w6.ownsRow 0 9 1 (.slice pa n pc) n hs):=ownsR_call ho'.out hn (fun b e=>(hg' b e).1) k6
    have hn:=hn.item (v:=.pointer (some ⟨b6,0,none⟩)) k6 r6 f6.rn
    have hMem:Aside (MemP P M L5 L6 K lostM lost6 ⟨#[40]⟩):=memP fK f5 s5 f6.lo s6
    have hsx:Sx M L6:=hs4.trans (s5.trans s6)
    clear fK f5 f6 s5 s6
    have hS:w6.cell? ⟨w.heap.size,7,none⟩=some rv:=(hc.cell 7).trans rfl
    have q6:=hc.free
    have y6:=(hn.mine _ hNX).2.1
    have hrp6:∀ b,(Value.slice pa n pc).ownBlock=some b→b < w6.heap.size:=fun b e=>(ho'.out.lt b e).2
    go_wp2_with
      (first
        | (refine wpList_append_lies _ (by rfl) _ _ _ (by rfl) 0 25 j0 _ 1 8 Tryz.underlying49 hj0 hy0 hy1 hy2 rfl (by omega) rv (2 * n) vs (by rfl) (ownsB_below ho.out (below_alloc _ _)) ⟨w6.heap.size,0,none⟩ 2 2 [(.pointer (some ⟨b3,0,none⟩)),.pointer (some ⟨b6,0,none⟩)] (by rfl) (by rfl) (World.news_of_block (cs:=#[(.pointer (some ⟨b3,0,none⟩)),.pointer (some ⟨b6,0,none⟩)]) (t:=25) (fr:=(0,0)) (heap_new w6 _)) (by simp [Value.oneCell']) (by omega) (by unfold maxLen;omega) (by omega) (by simp) (w6.heap.size+1) (by simp) ?_;intro g8 cap8 w8 ow8 hgr8 hat8 hlt8;have hc:=(hc.below (below_alloc _ _) y6).grown hgr8 (by simp;omega) (fun e=>(hg _ e).2.1 rfl);have ho':Aside (w8.ownsRow 0 9 1 (.slice pa n pc) n hs):=owns_sameT (ownsB_below ho'.out (below_alloc _ _)) (fun b e=>hgr8.block b (ownsB_below ho'.out (below_alloc _ _) |>.lt b e).2 (fun e2=>(hg _ e2.symm).2.2 e));have hn:=(hn.alloc _).grown hgr8 (fun i e=>(hg i e).1) (hat8.imp id (fun e=>by simpa using e)) hlt8;have hS8:w8.cell? ⟨w.heap.size,7,none⟩=some rv:=(hc.cell 7).trans rfl;have hS8b:w8.cell? ⟨w.heap.size,8,none⟩=some (.slice pa n pc):=(hc.cell 8).trans rfl;have q8:=hc.free)
        | (have hg8:g8≠w.heap.size∧(Value.slice pa n pc).ownBlock≠some g8:=by
             rcases hat8 with e | e
             · exact (hg _ e).2
             · have e:g8=w6.heap.size+1:=by simpa using e
               refine ⟨by omega,fun e2=>?_⟩
               have:=hrp6 _ e2
               omega
           obtain ⟨W,hW⟩:∃ W,W=w8.setCell ⟨w.heap.size,7,none⟩ (.slice (some ⟨g8,0,none⟩) (2 * n+2) cap8):=⟨_,rfl⟩
           have hc:=hc.set 7 (.slice (some ⟨g8,0,none⟩) (2 * n+2) cap8) (by simp)
           have hn:=hn.set (o:=7) (.slice (some ⟨g8,0,none⟩) (2 * n+2) cap8) (.tail _ hNX)
           have ho:=ownsB_set (N:=w.heap.size) (o:=7) (u:=.slice (some ⟨g8,0,none⟩) (2 * n+2) cap8) ow8 (fun b e=>by cases e;exact hg8.1)
           have ho':=ownsB_set (N:=w.heap.size) (o:=7) (u:=.slice (some ⟨g8,0,none⟩) (2 * n+2) cap8) ho'.out (fun b e=>(hg' b e).2)
           have hWs:w8.heap.size=W.heap.size:=by rw [hW];simp
           rw [← hW] at hc hn ho ho' ⊢
           rw [hWs]
           clear hWs hW hS8 hS8b q8 hgr8 ow8
           have ho:Aside (W.ownsRow 0 25 1 (.slice (some ⟨g8,0,none⟩) (2 * n+2) cap8) (2 * n+2) (vs ++ [(.pointer (some ⟨b3,0,none⟩)),.pointer (some ⟨b6,0,none⟩)])):=ho
           have ho':Aside (W.ownsRow 0 9 1 (.slice pa n pc) n hs):=ho'
           have hS9:W.cell? ⟨w.heap.size,8,none⟩=some (.slice pa n pc):=(hc.cell 8).trans rfl
           have q9:=hc.free
           have y9:=(hn.mine _ (.tail _ hNX)).2.1
           have y8:=(hn.mine _ (.head _)).2.1
           refine wpList_append_lies _ (by rfl) _ _ _ (by rfl) 0 9 i0 _ 1 16 Tryz.underlying46 hi0 hz0 hz1 hz2 rfl (by omega) (.slice pa n pc) n hs (by rfl) (ownsB_below ho'.out (below_alloc _ _)) ⟨W.heap.size,0,none⟩ 1 1 [.string ⟨#[40]⟩] (by rfl) (by rfl) (World.news_of_block (cs:=#[.string ⟨#[40]⟩]) (t:=9) (fr:=(0,0)) (heap_new W _)) (by simp [Value.oneCell']) (by omega) (by unfold maxLen;omega) (by omega) (by simp) (W.heap.size+1) (by simp) ?_
           intro g9 cap9 w9 ow9 hgr9 hat9 hlt9
           have hc:=(hc.below (below_alloc _ _) y9).grown hgr9 (by simp;omega) (fun e=>(hg' _ e).2 rfl)
           have ho:Aside (w9.ownsRow 0 25 1 (.slice (some ⟨g8,0,none⟩) (2 * n+2) cap8) (2 * n+2) (vs ++ [(.pointer (some ⟨b3,0,none⟩)),.pointer (some ⟨b6,0,none⟩)])):=owns_sameT (ownsB_below ho.out (below_alloc _ _)) (fun b e=>hgr9.block b (ownsB_below ho.out (below_alloc _ _) |>.lt b e).2 (fun e2=>by cases e;exact hg8.2 e2.symm))
           have hn:=(hn.alloc _).grown hgr9 (fun i e=>.tail _ (hg' i e).1) (hat9.imp id (fun e=>by simpa using e)) hlt9
           have hS9:w9.cell? ⟨w.heap.size,8,none⟩=some (.slice pa n pc):=(hc.cell 8).trans rfl
           have q10:=hc.free))
    have hg9:g9≠w.heap.size∧g9≠g8:=by
      rcases hat9 with e | e
      · exact ⟨(hg' _ e).2,fun e2=>hg8.2 (e2 ▸ e)⟩
      · have e:g9=W.heap.size+1:=by simpa using e
        omega
    obtain ⟨V,hV⟩:∃ V,V=w9.setCell ⟨w.heap.size,8,none⟩ (.slice (some ⟨g9,0,none⟩) (n+1) cap9):=⟨_,rfl⟩
    have hc:=hc.set 8 (.slice (some ⟨g9,0,none⟩) (n+1) cap9) (by simp)
    have hn:=hn.set (o:=8) (.slice (some ⟨g9,0,none⟩) (n+1) cap9) (.tail _ (.tail _ hNX))
    have ho:=ownsB_set (N:=w.heap.size) (o:=8) (u:=.slice (some ⟨g9,0,none⟩) (n+1) cap9) ho.out (fun b e=>by cases e;exact hg8.1)
    have ho':=ownsB_set (N:=w.heap.size) (o:=8) (u:=.slice (some ⟨g9,0,none⟩) (n+1) cap9) ow9 (fun b e=>by cases e;exact hg9.1)
    rw [← hV] at hc hn ho ho' ⊢
    clear hV hS9 q10 hgr9 ow9
    have ho:Aside (V.ownsRow 0 25 1 (.slice (some ⟨g8,0,none⟩) (2 * n+2) cap8) (2 * n+2) (vs ++ [(.pointer (some ⟨b3,0,none⟩)),.pointer (some ⟨b6,0,none⟩)])):=ho
    have ho':Aside (V.ownsRow 0 9 1 (.slice (some ⟨g9,0,none⟩) (n+1) cap9) (n+1) (hs ++ [.string ⟨#[40]⟩])):=ho'
    cases d9:acc sCuC L6 with
    | mk b9 M9 =>
    cases b9 with
    | true =>
      have z9:=acc_len d9
      refine Calls.mono (takesT hn.rd d9) ?_
      rintro e wA ⟨rfl,kA,rA⟩
      have hc:=hc.callR hn (.tail _ (.tail _ hNX)) kA
      have ho:=ownsR_call ho.out hn (fun b e=>by cases e;exact .tail _ (.head _)) kA
      have ho':=ownsR_call ho'.out hn (fun b e=>by cases e;exact .head _) kA
      have hn:=hn.call kA rA
      go_wp2_with fail
      go_ret
      have hn1:kindOf L6≠1:=fun e=>by rw [acc_one e] at d9;cases d9
      refine ⟨w.heap.size,M9,lost6,rfl,hn.kept,hn.rd,by omega,fun e=>?_,?_⟩
      · exfalso
        apply hn1
        have e2:=sM e
        rw [hsx (by rw [e2];exact e),e2]
        exact e
      rcases hR with ⟨ms,q,hms,hq,hE,hi,hh,hG,hls⟩ | ⟨r,hE,e,k⟩
      · rw [hE]
        obtain ⟨m,hmm,hm⟩:=mem_get hMem.out hn1
        rw [hmm]
        have hq6:=hq L6 (by omega)
        have hz6:L6.length≠0:=by omega
        rw [show (thn (.ok (m,L6):Out Mm) fun a l1=>thn (membersS P (q l1) l1) fun az l2=>thn (exq sCuC l2) fun _ l3=>.ok (buildT (ms ++ a :: az),l3)) = .ok (buildT (ms ++ [m]),M9) by
          show thn (membersS P (q L6) L6) _=_
          match q L6,hq6 with
          | 0,hq6=>omega
          | m'+1,_ =>
            rw [show membersS P (m'+1) L6 = .ok ([],L6) by simp only [membersS,acc_other d9 (s2:=sComma) (by decide)]]
            show thn (exq sCuC L6) _=_
            unfold exq
            rw [d9]
            rfl]
        obtain ⟨hm1,hm2,⟨ll,hm3⟩,⟨ll',hm4⟩,hm5⟩:=hm
        rw [hm3,hm4,hi] at hn
        have hvl:(memK ms).length=vs.length:=by
          have:=ho.1
          rw [memK_len,hms]
          simp at this
          omega
        have hn:=its_two hvl hn
        rw [← memK_add] at hn
        refine Fn.ok ⟨Rn.build (ms:=ms ++ [m]) (n:=n+1) hn rfl (.tail _ (.tail _ hNX)) hc rfl (fun b e=>by cases e;exact .tail _ (.head _)) (fun b e=>by cases e;exact .head _) ho ?_ (by simp [hms]) ?_,?_⟩
        · rw [List.map_append,← hh,List.map_singleton,← hm1]
          exact ho'
        · intro m' hm'
          rcases List.mem_append.1 hm' with h | h
          · exact hG m' h
          · rw [List.mem_singleton.1 h]
            exact hm2
        · rw [chk_build]
          show lost6=lostS K lost (memK (ms ++ [m]))
          rw [memK_add]
          unfold lostS
          rw [List.foldl_append]
          show lost6=lostF (lostF (lostS K lost (memK ms)) _) _
          rw [← hls]
          exact hm5
      · exact absurd (show kindOf L6=1 by rw [hsx k];exact k) hn1
    | false =>
      refine Calls.mono (takesF hn.rd d9) ?_
      rintro e wA ⟨rfl,kA,rA⟩
      have hc:=hc.callR hn (.tail _ (.tail _ hNX)) kA
      have ho:Aside (wA.ownsRow 0 25 1 (.slice (some ⟨g8,0,none⟩) (2 * n+2) cap8) (2 * n+2) (vs ++ [(.pointer (some ⟨b3,0,none⟩)),.pointer (some ⟨b6,0,none⟩)])):=ownsR_call ho.out hn (fun b e=>by cases e;exact .tail _ (.head _)) kA
      have ho':Aside (wA.ownsRow 0 9 1 (.slice (some ⟨g9,0,none⟩) (n+1) cap9) (n+1) (hs ++ [.string ⟨#[40]⟩])):=ownsR_call ho'.out hn (fun b e=>by cases e;exact .head _) kA
      have hn:=hn.call kA rA
      go_wp2_with fail
      cases dB:acc sComma L6 with
      | mk bB MB =>
      cases bB with
      | true =>
        have zB:=acc_len dB
        refine Calls.mono (needsT hn.rd dB) ?_
        rintro e wB ⟨rfl,kB,rB⟩
        have hc:=hc.callR hn (.tail _ (.tail _ hNX)) kB
        have ho:=ownsR_call ho.out hn (fun b e=>by cases e;exact .tail _ (.head _)) kB
        have ho':=ownsR_call ho'.out hn (fun b e=>by cases e;exact .head _) kB
        have hn:=hn.call kB rB
        go_wp2_with fail
        go_roundg k
        case measure=>omega
        case rel =>
          have hn1:kindOf L6≠1:=fun e=>by rw [acc_one e] at dB;cases dB
          have hnM:kindOf M≠1:=fun e=>hn1 (by rw [hsx e];exact e)
          rcases hR with ⟨ms,q,hms,hq,hE,hi,hh,hG,hls⟩ | ⟨r,hE,e,k⟩
          · obtain ⟨m,hmm,hm⟩:=mem_get hMem.out hn1
            obtain ⟨hm1,hm2,⟨ll,hm3⟩,⟨ll',hm4⟩,hm5⟩:=hm
            rw [hm3,hm4,hi] at hn
            have hvl:(memK ms).length=vs.length:=by
              have:=ho.1
              rw [memK_len,hms]
              simp at this
              omega
            have hn:=its_two hvl hn
            rw [← memK_add] at hn
            have hq6:=hq L6 (by omega)
            obtain ⟨m',hm'⟩:∃ m',q L6=m'+1:=⟨q L6 - 1,by omega⟩
            refine ⟨_,MB,lost6,_,_,n+1,_,_,_,.tail _ (.tail _ hNX),hc,fun b e=>by cases e;exact ⟨.tail _ (.head _),hg8.1,fun e2=>by cases e2;exact hg9.2 rfl⟩,fun b e=>by cases e;exact ⟨.head _,hg9.1⟩,ho,ho',by omega,by omega,(fun e=>absurd (by rw [sM e];exact e) hnM),.inl (by omega),hn,.inl ⟨ms ++ [m],fun _=>m',by simp [hms],fun l hl=>by show l.length≤m';omega,?_,rfl,by rw [List.map_append,← hh,List.map_singleton,← hm1],?_,?_⟩⟩
            · rw [hE,hmm]
              show thn (membersS P (q L6) L6) _=_
              rw [hm',show membersS P (m'+1) L6=thn (memberS P MB) fun a l2=>thn (membersS P m' l2) fun az l3=>.ok (a :: az,l3) by simp only [membersS,dB]]
              simp only [thn_thn]
              congr 1
              funext a l2
              congr 1
              funext az l3
              show thn (exq sCuC l3) _=thn (exq sCuC l3) _
              simp
            · intro m2 hm2'
              rcases List.mem_append.1 hm2' with h | h
              · exact hG m2 h
              · rw [List.mem_singleton.1 h]
                exact hm2
            · rw [memK_add]
              unfold lostS
              rw [List.foldl_append]
              show lost6=lostF (lostF (lostS K lost (memK ms)) _) _
              rw [← hls]
              exact hm5
          · exact absurd k hnM
      | false =>
        refine Calls.mono (needsF hn.rd dB) ?_
        rintro e wB ⟨rfl,kB,rB,hkB,hcB⟩
        have hc:=hc.callR hn (.tail _ (.tail _ hNX)) kB
        have ho:=ownsR_call ho.out hn (fun b e=>by cases e;exact .tail _ (.head _)) kB
        have ho':=ownsR_call ho'.out hn (fun b e=>by cases e;exact .head _) kB
        have hn:=hn.call kB rB
        have hcB:Aside (∃ c,wB.cell? ⟨rb,2,none⟩=some (.int .i64 c)∧0≤c):=hcB
        go_wp2_with fail
        go_roundg k
        case measure=>omega
        case rel =>
          refine ⟨_,stuck L6,lost6,_,_,n+1,_,_,_,.tail _ (.tail _ hNX),hc,fun b e=>by cases e;exact ⟨.tail _ (.head _),hg8.1,fun e2=>by cases e2;exact hg9.2 rfl⟩,fun b e=>by cases e;exact ⟨.head _,hg9.1⟩,ho,ho',by omega,by rw [stuck_len];omega,(fun e=>?_),.inr hcB.out,hn,.inr ?_⟩
          · have e2:=sM e
            have e3:=hsx (by rw [e2];exact e)
            rw [e3,e2]
            exact stuck_one e
          · rcases hR with ⟨ms,q,hms,hq,hE,hi,hh,hG,hls⟩ | ⟨r,hE,e,k⟩
            · rcases mem_or hMem.out with ⟨m,hmm⟩ | ⟨r,hmm,er⟩
              · refine ⟨L6,?_,rfl,hkB⟩
                rw [hE,hmm]
                show thn (membersS P (q L6) L6) _=_
                have hq6:=hq L6 (by omega)
                have hz6:L6.length≠0:=fun e=>hn.rd.wf.ne (List.eq_nil_of_length_eq_zero (by rw [stuck_len];exact e))
                obtain ⟨m',hm'⟩:∃ m',q L6=m'+1:=⟨q L6 - 1,by omega⟩
                rw [hm',show membersS P (m'+1) L6 = .ok ([],L6) by simp only [membersS,dB]]
                show thn (exq sCuC L6) _=_
                unfold exq
                rw [d9]
                rfl
              · refine ⟨r,by rw [hE,hmm];rfl,by rw [er,stuck_stuck],hkB⟩
            · exact ⟨r,hE,by rw [hsx k,e,stuck_stuck],hkB⟩
end
end Go.Proofs.Tryz
