import Derived.Test.YtfocepfmpnpaiaaGreatDoorYk7
set_option linter.all false
namespace Go.Proofs.Tryz
set_option maxHeartbeats 16000000
open Go.RowKit
set_option maxRecDepth 10000
section
variable {a w w' : World} {rb g : Nat} {X : List Nat} {L L' M : List Tok} {K K' : List Kn} {lost lost' : Int} {its : List (Out Tn × Value)} {s : ByteArray}
theorem acc_head {s:ByteArray} (d:acc s L=(true,M)):∃ t l,L=t :: l∧(t.kind=7∨t.kind=3)∧t.text.data.toList=s.data.toList:=by
 match L,d with
 | t :: u :: l,d =>
  have d:(if isTok t s=true then (true,u :: l) else (false,t :: u :: l))=(true,M):=d
  split at d
  ·rename_i hi
   have:=isTok_kind hi
   rw [ByteArray.toList_eq,ByteArray.toList_eq] at this
   exact ⟨t,_,rfl,this.1,this.2⟩
  ·cases d
def Hok (L:List Tok):Prop:=kindOf L=1∨∃ t l,L=t :: l∧Okt t
theorem RdR.hok (h:RdR w rb g L K lost):Hok L:=by
 obtain ⟨t,b,_,hk,_,⟨_,⟨l,e⟩,_⟩ | ⟨_,e⟩⟩:=h.hand
 ·exact .inr ⟨t,l,e,hk⟩
 ·exact .inl e
theorem acc_sign (h:Hok L) (h3:kindOf L=3) (hs:isWordB s.data.toList=false):acc s L=(false,L):=by
 cases d:acc s L with
 | mk b M =>
  cases b with
  | false=>rw [acc_false d]
  | true =>
   obtain ⟨t,l,rfl,_,ht⟩:=acc_head d
   have h3:t.kind=3:=h3
   rcases h with e | ⟨t',l',e,hk⟩
   ·have e:t.kind=1:=e
    omega
   ·cases e
    have:=hk.word h3
    rw [ht,hs] at this
    cases this
theorem acc_word (h:Hok L) (h3:¬ kindOf L=3) (hs:isWordB s.data.toList=true):acc s L=(false,L):=by
 cases d:acc s L with
 | mk b M =>
  cases b with
  | false=>rw [acc_false d]
  | true =>
   obtain ⟨t,l,rfl,hk7,ht⟩:=acc_head d
   have h3:¬ t.kind=3:=h3
   rcases h with e | ⟨t',l',e,hk⟩
   ·have e:t.kind=1:=e
    omega
   ·cases e
    have:=hk.nword (by omega)
    rw [ht,hs] at this
    cases this
theorem acc_kind3 (d:acc s L=(true,M)) (h:Hok L) (hs:isWordB s.data.toList=true):kindOf L=3:=by
 by_cases h3:kindOf L=3
 ·exact h3
 ·rw [acc_word h h3 hs] at d
  cases d
theorem acc_kind7 (d:acc s L=(true,M)) (h:Hok L) (hs:isWordB s.data.toList=false):¬ kindOf L=3:=fun h3=>by
 rw [acc_sign h h3 hs] at d
 cases d
theorem takesN (h:RdR w rb g L K lost) (ha:acc s L=(true,M)) :
  Calls Tryz.prog 26 #[.pointer (some ⟨rb,0,none⟩),.string s] w fun e w'=>e = .returned (.bool true)∧KpR rb w w'∧RdR w' rb g M K lost∧w'.cell? ⟨rb,2,none⟩=some (.int .i64 (-1)):=by
 have hr:=h.rbs
 obtain ⟨cap,F,I,bad,nv,h,h2,h3⟩:=h
 obtain ⟨t,ht,hdr⟩:=drop_cons h.lt
 have hS:=sees_a s h ht
 rw [sees_abs h ht h2 h3,ha] at hS
 have c1:=h.c1
 have f1:=h.fz 1
 have hlen:=h.len
 have hI:=h.lt
 have HH:Aside (RRa w rb g cap F I bad lost nv K):=h
 have hwf:=acc_wf (s:=s) h3
 rw [ha] at hwf
 have HS:Aside (Calls Tryz.prog 54 #[.pointer (some ⟨rb,0,none⟩),.string s] w fun e w'=>e = .returned (.bool true)∧Below w.heap.size w w'):=hS
 clear h hS
 have hx:bad = -1∧I+1 < F.length∧F.drop (I+1)=M:=by
  rcases h2 with ⟨rfl,hL⟩ | ⟨_,hb1,_⟩
  ·rw [hdr] at hL
   subst hL
   cases e:F.drop (I+1) with
   | nil=>rw [e] at ha;cases ha
   | cons u m =>
    rw [e] at ha
    have hl:(F.drop (I+1)).length=m.length+1:=by rw [e];rfl
    rw [List.length_drop] at hl
    refine ⟨rfl,by omega,?_⟩
    have:(if isTok t s=true then (true,u :: m) else (false,t :: u :: m))=(true,M):=ha
    split at this
    ·cases this;rfl
    ·cases this
  ·rw [acc_one hb1] at ha
   cases ha
 obtain ⟨rfl,hI1,hdr1⟩:=hx
 clear ha h2
 go_enter Tryz.func26,Tryz.ntmps26
 go_wp2_with fail
 refine Calls.mono HS.out ?_
 rintro e w1 ⟨rfl,hB⟩
 have c1':w1.cell? ⟨rb,1,none⟩=some (.int .i64 I):=(hB.cell (p:=⟨rb,1,none⟩) hr).trans c1
 have f1':w1.frozen? ⟨rb,1,none⟩=false:=(hB.frozen (p:=⟨rb,1,none⟩) hr).trans f1
 clear c1 f1
 go_wp2_with fail
 go_ret
 have hA:=(HH.out.below hB).set1 (J:=I+1) hI1
 rw [show ((I+1:Nat):Int)=(I:Int)+1 by omega] at hA
 exact ⟨rfl,(KpR.of_below hB hr).trans (KpR.set (by decide)),⟨cap,F,I+1,-1,nv,hA,.inl ⟨rfl,hdr1⟩,hwf⟩,hA.c2⟩
def brackS (P:Ps) (L:List Tok):Out Tn:=if kindOf L=3 then wordyS L else signedS P L
def MembersOk (P:Ps) (B:Nat):Prop:=∀ {w:World}{rb g:Nat}{L:List Tok}{K:List Kn}{lost:Int},RdR w rb g L K lost→TbR w rb→K.length+L.length≤100000→8 * L.length+5≤B→
 Calls Tryz.prog 132 #[.pointer (some ⟨rb,0,none⟩)] w (GvR rb g w L K lost (buildS P L))
end
end Go.Proofs.Tryz
namespace Go.Proofs.Tryz
set_option maxHeartbeats 16000000
open Go.RowKit
set_option maxRecDepth 10000
section
variable {a w w' : World} {rb g : Nat} {X : List Nat} {L L' M : List Tok} {K K' : List Kn} {lost lost' : Int} {its : List (Out Tn × Value)} {s : ByteArray}
theorem ask_l (K:List Kn) (x:ByteArray) (p:Int) (lost:Int):(if askB K 108 x 0 then lost else lostF lost p)=lostF lost (chk (nd 4 { Pyl.none with name:=x,num:=p } []) K):=by
 have e:askB K 108 x 0=hasK K (108,x,0):=by unfold askB;simp
 rw [e]
 have e2:chk (nd 4 { Pyl.none with name:=x,num:=p } []) K=if hasK K (108,x,0)=true then -1 else p:=rfl
 rw [e2]
 cases hasK K (108,x,0)
 ·rfl
 ·exact (lostF_no lost).symm
theorem ask_v (K:List Kn) (x:ByteArray) (p:Int) (lost:Int):(if askB K 118 x 0 then lost else lostF lost p)=lostF lost (chk (nd 3 { Pyl.none with name:=x,num:=p } []) K):=by
 have e:askB K 118 x 0=hasK K (118,x,0):=by unfold askB;simp
 rw [e]
 have e2:chk (nd 3 { Pyl.none with name:=x,num:=p } []) K=if hasK K (118,x,0)=true then -1 else p:=rfl
 rw [e2]
 cases hasK K (118,x,0)
 ·rfl
 ·exact (lostF_no lost).symm
theorem exk_head {k:Int}{t t':Tok}{l l':List Tok} (h:exk k (t :: l) = .ok (t',l')):t'=t∧t.kind=k:=by
 cases l with
 | nil=>cases h
 | cons u l =>
  have h:(if t.kind=k then (.ok (t,u :: l):Out Tok) else .error (t :: u :: l)) = .ok (t',l'):=h
  split at h
  ·rename_i e;cases h;exact ⟨rfl,e⟩
  ·cases h
theorem brack_dot {P:Ps} (hok:Hok L) (d1:acc sDot L=(true,M)):brackS P L=match exk 2 M with
      | .ok (t,l2)=>.ok (nd 5 { Pyl.none with name:=t.text } [identT],l2)
      | .error _=>.ok (identT,M):=by
  unfold brackS
  rw [if_neg (acc_kind7 d1 hok (by decide))]
  simp only [signedS,d1]
  cases exk 2 M with
  | ok q=>rfl
  | error r=>rfl
theorem brack_list {P:Ps} (hok:Hok L) (d0:acc sDots L=(false,L)) (d6:acc sSqO L=(true,M)):brackS P L=match acc sSqC M with
      | (true,l2)=>.ok (nd 9 Pyl.none [],l2)
      | _=>thn (P 0 M) fun f l2=>thn (exq sSqC l2) fun _ l3=>.ok (nd 9 Pyl.none [f],l3):=by
  unfold brackS
  rw [if_neg (acc_kind7 d6 hok (by decide))]
  simp only [signedS,d0,acc_other d6 (s2:=sDot) (by decide),acc_other d6 (s2:=sOpen) (by decide),d6]
  cases acc sSqC M with
  | mk b l=>cases b <;> rfl
theorem bracket_ok (hIt:ItoaAt) {P:Ps}{B:Nat} (hP:SndR P B) (hMe:MembersOk P B) (h:RdR w rb g L K lost) (ht:TbR w rb) (hK:K.length+L.length≤100000) (hB:8 * L.length≤B) :
  Calls Tryz.prog 119 #[.pointer (some ⟨rb,0,none⟩)] w (GvR rb g w L K lost (brackS P L)):=by
 have hok:=h.hok
 have hn:=NqR.start h ht
 obtain ⟨j0,hj0,hy0,hy1,hy2⟩:=info_parts info_node
 clear h
 go_enter Tryz.func119,Tryz.ntmps119
 go_wp2_with fail
 cases d0:acc sDots L with
 | mk b0 M0 =>
 cases b0 with
 | true =>
  have z0:=acc_len d0
  refine Calls.mono (takesT hn.rd d0) ?_
  rintro e w1 ⟨rfl,k1,r1⟩
  have hn:=hn.call k1 r1
  go_wp2_with fail
  go_ret
  have hl:=Rn.leaf (kind:=1) (y:=Pyl.none) hn rfl _ rfl
  rw [show brackS P L = .ok (nd 1 Pyl.none [],M0) by unfold brackS;rw [if_neg (acc_kind7 d0 hok (by decide))];simp [signedS,acc_other d0 (s2:=sDot) (by decide),d0]]
  exact ⟨_,M0,lost,rfl,hl.1.kept,hl.1.rd,by omega,acc_sx d0,Fn.ok ⟨hl.2,(lost_nd0 rfl).symm⟩⟩
 | false =>
 have d0':=acc_false d0
 subst d0'
 refine Calls.mono (takesF hn.rd d0) ?_
 rintro e w1 ⟨rfl,k1,r1⟩
 have hn:=hn.call k1 r1
 go_wp2_with fail
 cases d1:acc sDot M0 with
 | mk b1 M1 =>
 cases b1 with
 | true =>
  have z1:=acc_len d1
  refine Calls.mono (takesN hn.rd d1) ?_
  rintro e w2 ⟨rfl,k2,r2,c2⟩
  have hn:=hn.call k2 r2
  obtain ⟨t,b,c2',hkt,hH,hcase⟩:=hn.rd.hand
  rw [c2] at c2'
  cases c2'
  obtain ⟨l,hM1⟩:∃ l,M1=t :: l:=by
   rcases hcase with ⟨_,hl,_⟩ | ⟨hb,_⟩
   ·exact hl
   ·omega
  clear hcase
  go_wp2_with fail
  refine Calls.mono hH ?_
  rintro e w3 ⟨tk,tx,tn,tp,rfl,hRT,hB3⟩
  have hn:=hn.below hB3
  have hkk:=hRT.kind
  clear hRT
  have hks:=kb_sign hkt.k0 hkt.k7
  by_cases h2:t.kind=2
  ·have hk110:tk=110:=by rw [hkk];exact hks.2.2.1.2 h2
   clear hkk hks
   subst hk110
   have hF0:=fieldR0 110 tn tp tx
   go_wp2_with fail
   refine Calls.mono (namedQ 2 110 rfl (.inl rfl) hn.rd) ?_
   rintro e w4 ⟨x,L4,rfl,k4,r4,l4,f4,s4,x4⟩
   have hn:=hn.call k4 r4
   go_wp2_with fail
   go_ret
   have hl:=Rn.leaf (kind:=0) (y:=Pyl.none) hn rfl _ rfl
   have hn5:=hl.1.add hl.2
   have h6:=Rn.lit (kind:=5) (y:={ Pyl.none with name:=x }) (ts:=[identT]) (vs:=[.pointer (some ⟨w4.heap.size,0,none⟩)]) hn5 rfl (fun j x hx=>by
    match j,hx with
    | 0,hx=>cases hx;exact hn5.kid (.head _) rfl
    | j+1,hx=>simp at hx) rfl (by simp) _ rfl
   simp only [World.size_alloc] at h6
   have hE2:brackS P M0=thn (exk 2 M1) fun t l2=>.ok (nd 5 { Pyl.none with name:=t.text } [identT],l2):=by
    rw [brack_dot hok d1,hM1]
    cases e:exk 2 (t :: l) with
    | ok q=>rfl
    | error r =>
     exfalso
     cases l with
     | nil =>
      have hw:t.kind=0∨t.kind=1:=by have:=r2.wf;rw [hM1] at this;exact this
      omega
     | cons u l =>
      have e:(if t.kind=2 then (.ok (t,u :: l):Out Tok) else .error (t :: u :: l)) = .error r:=e
      rw [if_pos h2] at e
      cases e
   rw [hE2]
   refine ⟨_,L4,lost,rfl,h6.1.kept,h6.1.rd,by omega,acc_sx d1,Fn.thn f4 (fun t4 _ h4=>Fn.ok ?_) (Sx.refl _)⟩
   rw [← h4]
   exact ⟨h6.2,((lost_nd1 rfl).trans (lost_nd0 rfl)).symm⟩
  ·have hk110:(tk == 110)=false:=by rw [hkk];simpa using fun e=>h2 (hks.2.2.1.1 e)
   clear hkk hks
   have hF0:=fieldR0 tk tn tp tx
   go_wp2_with fail
   go_ret
   have hl:=Rn.leaf (kind:=0) (y:=Pyl.none) hn rfl _ rfl
   rw [show brackS P M0 = .ok (identT,M1) by
    rw [brack_dot hok d1,hM1]
    cases e:exk 2 (t :: l) with
    | ok q=>exact absurd (exk_head (t':=q.1) (l':=q.2) e).2 h2
    | error r=>rfl]
   exact ⟨_,M1,lost,rfl,hl.1.kept,hl.1.rd,by omega,acc_sx d1,Fn.ok ⟨hl.2,(lost_nd0 rfl).symm⟩⟩
 | false =>
 refine Calls.mono (takesF hn.rd d1) ?_
 rintro e w2 ⟨rfl,k2,r2⟩
 have hn:=hn.call k2 r2
 go_wp2_with fail
 cases d2:acc sNull M0 with
 | mk b2 M2 =>
 cases b2 with
 | true =>
  have z2:=acc_len d2
  refine Calls.mono (takesT hn.rd d2) ?_
  rintro e w3 ⟨rfl,k3,r3⟩
  have hn:=hn.call k3 r3
  go_wp2_with fail
  go_ret
  have hl:=Rn.leaf (kind:=2) (y:={ Pyl.none with val:=(0,0,⟨#[]⟩) }) hn rfl _ rfl
  rw [show brackS P M0 = .ok (litT (0,0,⟨#[]⟩),M2) by unfold brackS;rw [if_pos (acc_kind3 d2 hok (by decide))];simp [wordyS,d2]]
  exact ⟨_,M2,lost,rfl,hl.1.kept,hl.1.rd,by omega,acc_sx d2,Fn.ok ⟨hl.2,(lost_nd0 rfl).symm⟩⟩
 | false =>
 refine Calls.mono (takesF hn.rd d2) ?_
 rintro e w3 ⟨rfl,k3,r3⟩
 have hn:=hn.call k3 r3
 go_wp2_with fail
 cases d3:acc sFalse M0 with
 | mk b3 M3 =>
 cases b3 with
 | true =>
  have z3:=acc_len d3
  refine Calls.mono (takesT hn.rd d3) ?_
  rintro e w4 ⟨rfl,k4,r4⟩
  have hn:=hn.call k4 r4
  go_wp2_with fail
  go_ret
  have hl:=Rn.leaf (kind:=2) (y:={ Pyl.none with val:=(1,0,⟨#[]⟩) }) hn rfl _ rfl
  rw [show brackS P M0 = .ok (litT (1,0,⟨#[]⟩),M3) by unfold brackS;rw [if_pos (acc_kind3 d3 hok (by decide))];simp [wordyS,d2,d3]]
  exact ⟨_,M3,lost,rfl,hl.1.kept,hl.1.rd,by omega,acc_sx d3,Fn.ok ⟨hl.2,(lost_nd0 rfl).symm⟩⟩
 | false =>
 refine Calls.mono (takesF hn.rd d3) ?_
 rintro e w4 ⟨rfl,k4,r4⟩
 have hn:=hn.call k4 r4
 go_wp2_with fail
 cases d4:acc sTrueW M0 with
 | mk b4 M4 =>
 cases b4 with
 | true =>
  have z4:=acc_len d4
  refine Calls.mono (takesT hn.rd d4) ?_
  rintro e w5 ⟨rfl,k5,r5⟩
  have hn:=hn.call k5 r5
  go_wp2_with fail
  go_ret
  have hl:=Rn.leaf (kind:=2) (y:={ Pyl.none with val:=(2,0,⟨#[]⟩) }) hn rfl _ rfl
  rw [show brackS P M0 = .ok (litT (2,0,⟨#[]⟩),M4) by unfold brackS;rw [if_pos (acc_kind3 d4 hok (by decide))];simp [wordyS,d2,d3,d4]]
  exact ⟨_,M4,lost,rfl,hl.1.kept,hl.1.rd,by omega,acc_sx d4,Fn.ok ⟨hl.2,(lost_nd0 rfl).symm⟩⟩
 | false =>
 refine Calls.mono (takesF hn.rd d4) ?_
 rintro e w5 ⟨rfl,k5,r5⟩
 have hn:=hn.call k5 r5
 go_wp2_with fail
 cases d5:acc sBreak M0 with
 | mk b5 M5 =>
 cases b5 with
 | true =>
  have z5:=acc_len d5
  refine Calls.mono (takesN hn.rd d5) ?_
  rintro e w6 ⟨rfl,k6,r6,c6⟩
  have hn:=hn.call k6 r6
  obtain ⟨t,b,c2',hkt,hH,hcase⟩:=hn.rd.hand
  rw [c6] at c2'
  cases c2'
  obtain ⟨l,hM1⟩:∃ l,M5=t :: l:=by
   rcases hcase with ⟨_,hl,_⟩ | ⟨hb,_⟩
   ·exact hl
   ·omega
  clear hcase
  go_wp2_with fail
  refine Calls.mono hH ?_
  rintro e w7 ⟨tk,tx,tn,tp,rfl,hRT,hB7⟩
  have hn:=hn.below hB7
  have hF3:=fieldR3 tk tn tp tx
  have hp0:0≤tp:=by rw [hRT.pos];exact hkt.pos
  have hpp:Aside (tp=t.pos):=hRT.pos
  clear hRT
  go_wp2_with fail
  have hc:=Cl.start w7 [.string ⟨#[98,114,101,97,107]⟩,.string ⟨#[]⟩,.int .i64 0,.int .i64 0,.string ⟨#[]⟩,.slice none 0 0,.slice none 0 0,.slice none 0 0,.slice none 0 0] 51
  have hn:=hn.own (.cells #[.string ⟨#[98,114,101,97,107]⟩,.string ⟨#[]⟩,.int .i64 0,.int .i64 0,.string ⟨#[]⟩,.slice none 0 0,.slice none 0 0,.slice none 0 0,.slice none 0 0] 51)
  refine Calls.mono (namedQ 4 118 rfl (.inr rfl) hn.rd) ?_
  rintro e w8 ⟨x,L8,rfl,k8,r8,l8,f8,s8,x8⟩
  have hc:=hc.callR hn (.head _) k8
  have hn:=hn.call k8 r8
  have e1:w8.cell? ⟨w7.heap.size,1,none⟩=some (.string ⟨#[]⟩):=(hc.cell 1).trans rfl
  have q1:=hc.free 1
  go_wp2_with fail
  have hc:=hc.set 1 (.string x) (by simp)
  have hn:=hn.set (o:=1) (.string x) (.head _)
  refine Calls.mono (asksQ hIt 108 x 0 tp hn.rd hn.tbw (by omega) x8 (by omega) hp0) ?_
  rintro e w9 ⟨rfl,k9,r9⟩
  have hc:=hc.callR hn (.head _) k9
  have hn:=hn.call k9 r9
  go_wp2_with fail
  go_ret
  rw [show brackS P M0=thn (exk 4 M5) fun t l2=>.ok (nd 4 { Pyl.none with name:=t.text,num:=t.pos } [],l2) by unfold brackS;rw [if_pos (acc_kind3 d5 hok (by decide))];simp [wordyS,d2,d3,d4,d5]]
  refine ⟨w7.heap.size,L8,_,rfl,hn.kept,hn.rd,by omega,acc_sx d5,Fn.thn f8 (fun t8 e8 h8=>?_) (Sx.refl _)⟩
  rw [hM1] at e8
  have ht8:=(exk_head e8).1
  subst ht8
  have hpp:=hpp.out
  subst hpp
  subst h8
  refine Fn.ok ⟨?_,ask_l ..⟩
  have hm:=hn.mine _ (.head _)
  exact Rn.mk (r:=.slice none 0 0) (r':=.slice none 0 0) (vs:=[]) ⟨hm.1,hm.2.2⟩ hm.2.1 hc (World.ownsRow_nil _ _ _ _) (fun b e=>by cases e) (fun j v hv=>by simp at hv) (World.ownsRow_nil _ _ _ _) (fun b e=>by cases e)
 | false =>
 refine Calls.mono (takesF hn.rd d5) ?_
 rintro e w6 ⟨rfl,k6,r6⟩
 have hn:=hn.call k6 r6
 go_wp2_with fail
 cases d6:acc sSqO M0 with
 | mk b6 M6 =>
 cases b6 with
 | true =>
  have z6:=acc_len d6
  refine Calls.mono (takesT hn.rd d6) ?_
  rintro e w7 ⟨rfl,k7,r7⟩
  have hn:=hn.call k7 r7
  go_wp2_with fail
  have hc:=Cl.start w7 [.string ⟨#[108,105,115,116]⟩,.string ⟨#[]⟩,.int .i64 0,.int .i64 0,.string ⟨#[]⟩,.slice none 0 0,.slice none 0 0,.slice none 0 0,.slice none 0 0] 51
  have hn:=hn.own (.cells #[.string ⟨#[108,105,115,116]⟩,.string ⟨#[]⟩,.int .i64 0,.int .i64 0,.string ⟨#[]⟩,.slice none 0 0,.slice none 0 0,.slice none 0 0,.slice none 0 0] 51)
  cases d7:acc sSqC M6 with
  | mk b7 M7 =>
  cases b7 with
  | true =>
   refine Calls.mono (seesT hn.rd d7) ?_
   rintro e w8 ⟨rfl,k8,r8⟩
   have hc:=hc.callR hn (.head _) k8
   have hn:=hn.call k8 r8
   go_wp2_with fail
   refine Calls.mono (needsQ hn.rd) ?_
   rintro e w9 ⟨rfl,L9,k9,r9,l9,f9,s9⟩
   have hc:=hc.callR hn (.head _) k9
   have hn:=hn.call k9 r9
   go_wp2_with fail
   go_ret
   rw [show brackS P M0=thn (exq sSqC M6) fun _ l3=>.ok (nd 9 Pyl.none [],l3) by rw [brack_list hok d0 d6,d7];simp [exq,d7,thn]]
   refine ⟨w7.heap.size,L9,_,rfl,hn.kept,hn.rd,by omega,acc_sx d6,Fn.thn f9 (fun _ _ _=>Fn.ok ⟨?_,(lost_nd0 rfl).symm⟩) (Sx.refl _)⟩
   have hm:=hn.mine _ (.head _)
   exact Rn.mk (r:=.slice none 0 0) (r':=.slice none 0 0) (vs:=[]) ⟨hm.1,hm.2.2⟩ hm.2.1 hc (World.ownsRow_nil _ _ _ _) (fun b e=>by cases e) (fun j v hv=>by simp at hv) (World.ownsRow_nil _ _ _ _) (fun b e=>by cases e)
  | false =>
   refine Calls.mono (seesF hn.rd d7) ?_
   rintro e w8 ⟨rfl,k8,r8⟩
   have hc:=hc.callR hn (.head _) k8
   have hn:=hn.call k8 r8
   go_wp2_with fail
   refine Calls.mono (hP.filter hn.rd hn.tbw (by omega) (by omega)) ?_
   rintro e w9 ⟨b9,L9,lost9,rfl,k9,r9,l9,s9,f9⟩
   have hc:=hc.callR hn (.head _) k9
   have hn:=hn.item (v:=.pointer (some ⟨b9,0,none⟩)) k9 r9 f9.rn
   have f9:=f9.lo
   have hS:w9.cell? ⟨w7.heap.size,7,none⟩=some (.slice none 0 0):=(hc.cell 7).trans rfl
   have q9:=hc.free
   have y9:=(hn.mine _ (.head _)).2.1
   go_wp2_with (refine wpList_append_lies _ (by rfl) _ _ _ (by rfl) 0 25 j0 _ 1 8 Tryz.underlying49 hj0 hy0 hy1 hy2 rfl (by omega) (.slice none 0 0) 0 [] (by rfl) (World.ownsRow_nil _ _ _ _) ⟨w9.heap.size,0,none⟩ 1 1 [.pointer (some ⟨b9,0,none⟩)] (by rfl) (by rfl) (World.news_of_block (cs:=#[.pointer (some ⟨b9,0,none⟩)]) (t:=25) (fr:=(0,0)) (heap_new w9 _)) (by simp [Value.oneCell']) (by omega) (by unfold maxLen;omega) (by omega) (by simp) (w9.heap.size+1) (by simp) ?_;intro g5 cap5 w5 ow5 hgr5 hat5 hlt5;have hc:=(hc.below (below_alloc _ _) y9).grown hgr5 (by simp;omega) (by simp [Value.ownBlock]);have hn:=(hn.alloc _).grown hgr5 (by simp [Value.ownBlock]) (hat5.imp id (fun e=>by simpa using e)) hlt5;have hS5:w5.cell? ⟨w7.heap.size,7,none⟩=some (.slice none 0 0):=(hc.cell 7).trans rfl;have q5:=hc.free)
   have hg5:g5≠w7.heap.size:=by
    rcases hat5 with e | e
    ·cases e
    ·first | omega | (simp at e;omega)
   have hc:=hc.set 7 (.slice (some ⟨g5,0,none⟩) (0+1) cap5) (by simp)
   have hn:=hn.set (o:=7) (.slice (some ⟨g5,0,none⟩) (0+1) cap5) (.tail _ (.head _))
   have ho:=ownsB_set (N:=w7.heap.size) (o:=7) (u:=.slice (some ⟨g5,0,none⟩) (0+1) cap5) ow5 (fun b e=>by cases e;exact hg5)
   refine Calls.mono (needsQ hn.rd) ?_
   rintro e w10 ⟨rfl,LA,kA,rA,lA,fA,sA⟩
   have hc:=hc.callR hn (.tail _ (.head _)) kA
   have ho:=ownsR_call ho hn (fun b e=>by cases e;exact .head _) kA
   have hn:=hn.call kA rA
   go_wp2_with fail
   go_ret
   rw [show brackS P M0=thn (P 0 M6) fun f l2=>thn (exq sSqC l2) fun _ l3=>.ok (nd 9 Pyl.none [f],l3) by rw [brack_list hok d0 d6,d7]]
   refine ⟨w7.heap.size,LA,lost9,rfl,hn.kept,hn.rd,by omega,acc_sx d6,Fn.thn f9 (fun a4 e4 h4=>Fn.thn fA (fun _ _ _=>Fn.ok ⟨?_,?_⟩) (Sx.refl _)) sA⟩
   ·have hm:=hn.mine _ (.tail _ (.head _))
    refine Rn.mk (r:=.slice (some ⟨g5,0,none⟩) (0+1) cap5) (r':=.slice none 0 0) ⟨hm.1,hm.2.2⟩ hm.2.1 hc ho (fun b e=>by cases e;exact ⟨(hn.mine _ (.head _)).1,(hn.mine _ (.head _)).2.2⟩) (fun j v hv=>?_) (World.ownsRow_nil _ _ _ _) (fun b e=>by cases e)
    match j,hv with
    | 0,hv=>cases hv;exact hn.kid (.head _) e4
    | j+1,hv=>simp at hv
   ·rw [lost_nd1 rfl]
    exact h4
 | false =>
 refine Calls.mono (takesF hn.rd d6) ?_
 rintro e w7 ⟨rfl,k7,r7⟩
 have hn:=hn.call k7 r7
 go_wp2_with fail
 cases d7:acc sOpen M0 with
 | mk b7 M7 =>
 cases b7 with
 | true =>
  have z7:=acc_len d7
  refine Calls.mono (takesT hn.rd d7) ?_
  rintro e w8 ⟨rfl,k8,r8⟩
  have hn:=hn.call k8 r8
  go_wp2_with fail
  refine Calls.mono (hP.filter hn.rd hn.tbw (by omega) (by omega)) ?_
  rintro e w9 ⟨b9,L9,lost9,rfl,k9,r9,l9,s9,f9⟩
  have hn:=hn.item (v:=.pointer (some ⟨b9,0,none⟩)) k9 r9 f9.rn
  have f9:=f9.lo
  go_wp2_with fail
  refine Calls.mono (needsQ hn.rd) ?_
  rintro e w10 ⟨rfl,LA,kA,rA,lA,fA,sA⟩
  have hn:=hn.call kA rA
  go_wp2_with fail
  go_ret
  rw [show brackS P M0=thn (P 0 M7) fun f l2=>thn (exq sShut l2) fun _ l3=>.ok (f,l3) by
   unfold brackS
   rw [if_neg (acc_kind7 d7 hok (by decide))]
   simp only [signedS,d0,acc_other d7 (s2:=sDot) (by decide),d7]]
  exact ⟨b9,LA,lost9,rfl,hn.kept,hn.rd,by omega,acc_sx d7,Fn.thn f9 (fun a4 e4 h4=>Fn.thn fA (fun _ _ _=>Fn.ok ⟨hn.kid (.head _) e4,h4⟩) (Sx.refl _)) sA⟩
 | false =>
 refine Calls.mono (takesF hn.rd d7) ?_
 rintro e w8 ⟨rfl,k8,r8⟩
 have hn:=hn.call k8 r8
 go_wp2_with fail
 cases d8:acc sCuO M0 with
 | mk b8 M8 =>
 cases b8 with
 | true =>
  have z8:=acc_len d8
  refine Calls.mono (takesT hn.rd d8) ?_
  rintro e w9 ⟨rfl,k9,r9⟩
  have hn:=hn.call k9 r9
  go_wp2_with fail
  refine Calls.mono (hMe hn.rd hn.tbw (by omega) (by omega)) ?_
  rintro e w10 ⟨b10,L10,lost10,rfl,k10,r10,l10,s10,f10⟩
  have hn:=hn.item (v:=.pointer (some ⟨b10,0,none⟩)) k10 r10 f10.rn
  have f10:=f10.lo
  go_wp2_with fail
  go_ret
  rw [show brackS P M0=buildS P M8 by
   unfold brackS
   rw [if_neg (acc_kind7 d8 hok (by decide))]
   simp only [signedS,d0,acc_other d8 (s2:=sDot) (by decide),acc_other d8 (s2:=sOpen) (by decide),acc_other d8 (s2:=sSqO) (by decide),d8]]
  exact ⟨b10,L10,lost10,rfl,hn.kept,hn.rd,by omega,acc_sx d8,f10.mono fun t e4 h4=>⟨hn.kid (.head _) e4,h4⟩⟩
 | false =>
 refine Calls.mono (takesF hn.rd d8) ?_
 rintro e w9 ⟨rfl,k9,r9⟩
 have hn:=hn.call k9 r9
 go_wp2_with fail
 refine Calls.mono (wrongQ hn.rd) ?_
 rintro e w10 ⟨b10,rfl,k10,r10,h10⟩
 have hn:=hn.call k10 r10
 go_wp2_with fail
 go_ret
 rw [show brackS P M0 = .error M0 by
  unfold brackS
  split
  ·simp only [wordyS,d2,d3,d4,d5]
  ·simp only [signedS,d0,d1,d6,d7,d8]]
 exact ⟨b10,stuck M0,lost,rfl,hn.kept,hn.rd,Nat.le_of_eq (stuck_len _),fun e=>stuck_one e,Fn.bad rfl h10⟩
end
end Go.Proofs.Tryz
namespace Go.Proofs.Tryz
set_option maxHeartbeats 16000000
open Go.RowKit
set_option maxRecDepth 10000
section
variable {a w w' : World} {rb g : Nat} {X : List Nat} {L L' M : List Tok} {K K' : List Kn} {lost lost' : Int} {its : List (Out Tn × Value)} {s : ByteArray}
theorem NqR.perm {its':List (Out Tn×Value)} (h:NqR a w rb g X L K lost its) (hp:∀ q∈its',q∈its):NqR a w rb g X L K lost its' :=
 ⟨h.kept,h.rd,h.rbs,h.gbs,h.tb,h.mine,fun q hq=>h.its q (hp q hq)⟩
theorem NqR.bare {t:Tn}{l:List Tok}{v:Value} (h:NqR a w rb g X L K lost ((.ok (t,l),v) :: its)):NqR a w rb g X L K lost ((.ok (t,[]),v) :: its) :=
 ⟨h.kept,h.rd,h.rbs,h.gbs,h.tb,h.mine,fun q hq=>by
  rcases List.mem_cons.1 hq with rfl | hq
  ·exact fun t' l' e=>by cases e;exact h.its _ (.head _) t l rfl
  ·exact h.its q (.tail _ hq)⟩
theorem RdR.len (h:RdR w rb g L K lost) (hk:kindOf L≠1):L.length≤3000:=by
 obtain ⟨cap,F,I,bad,nv,h,h2,h3⟩:=h
 have:=h.len
 rcases h2 with ⟨_,e⟩ | ⟨_,e,h4⟩
 ·rw [← e,List.length_drop];omega
 ·exact absurd e hk
theorem RdR.lost3 (h:RdR w rb g L K lost):w.cell? ⟨rb,3,none⟩=some (.int .i64 lost)∧w.frozen? ⟨rb,3,none⟩=false:=by
 obtain ⟨cap,F,I,bad,nv,h,h2,h3⟩:=h
 exact ⟨h.c3,h.fz 3⟩
theorem RdR.set3 (h:RdR w rb g L K lost) (q:Int):RdR (w.setCell ⟨rb,3,none⟩ (.int .i64 q)) rb g L K q:=by
 obtain ⟨cap,F,I,bad,nv,h,h2,h3⟩:=h
 exact ⟨cap,F,I,bad,nv,h.set3 q,h2,h3⟩
def lostS (K:List Kn) (l:Int) (ts:List Tn):Int:=ts.foldl (fun l t=>lostF l (chk t K)) l
theorem lostS_add (K:List Kn) (l:Int) (ts:List Tn) (t:Tn):lostS K l (ts ++ [t])=lostF (lostS K l ts) (chk t K):=by
 unfold lostS
 rw [List.foldl_append]
 rfl
theorem lostS_from (K:List Kn):∀ (ts:List Tn) (l c:Int),lostF l (lostS K c ts)=lostS K (lostF l c) ts
 | [],_,_=>rfl
 | t :: ts,l,c=>by
  show lostF l (lostS K (lostF c (chk t K)) ts)=lostS K (lostF (lostF l c) (chk t K)) ts
  rw [lostS_from K ts,lostF_assoc]
theorem lostS_pos (K:List Kn):∀ (ts:List Tn) (c:Int),0≤c→lostS K c ts=c
 | [],_,_=>rfl
 | t :: ts,c,h=>by
  show lostS K (lostF c (chk t K)) ts=c
  have:lostF c (chk t K)=c:=by unfold lostF;rw [if_pos h]
  rw [this]
  exact lostS_pos K ts c h
theorem foldl_range {α:Type} (f:Int→α→Int) (d:α):∀ (ts:List α) (c:Int),(List.range ts.length).foldl (fun acc i=>f acc (ts.getD i d)) c=ts.foldl f c
 | [],_=>rfl
 | t :: ts,c=>by
  rw [List.length_cons,List.range_succ_eq_map,List.foldl_cons,List.foldl_map]
  show (List.range ts.length).foldl (fun acc i=>f acc ((t :: ts).getD (i+1) d)) (f c t)=_
  exact foldl_range f d ts (f c t)
theorem chk_call (y:Pyl) (ts:List Tn) (K:List Kn):chk (nd 11 y ts) K=lostS K (ownAt K 11 { y with cnt:=ts.length }) ts:=by
 rw [chk_nd]
 exact foldl_range (fun l t=>lostF l (chk t K)) Tn.no ts _
theorem ask_f (K:List Kn) (x:ByteArray) (p:Int) (hp:0≤p) (lost:Int) (ts:List Tn) (hx:∀ c∈x.data.toList,(isLetterB c || isDigitB c)=true) :
  (if (if askB K 102 x ts.length then lost else lostF lost p) < 0 then lostS K lost ts else (if askB K 102 x ts.length then lost else lostF lost p))=lostF lost (chk (nd 11 { Pyl.none with name:=x,num:=p } ts) K):=by
 have e:askB K 102 x ts.length=(hasK K (102,x,ts.length) || givenB x ts.length):=by unfold askB;rw [within_given x _ hx];simp
 rw [e,chk_call]
 have e2:ownAt K 11 { Pyl.none with name:=x,num:=p,cnt:=ts.length }=if hasK K (102,x,ts.length) || givenB x ts.length then -1 else p:=by
  unfold ownAt
  rw [if_neg (by decide),if_neg (by decide),if_pos rfl]
 show _=lostF lost (lostS K (ownAt K 11 { Pyl.none with name:=x,num:=p,cnt:=ts.length }) ts)
 rw [e2,lostS_from]
 by_cases hl:0≤lost
 ·have h1:∀ c,lostF lost c=lost:=fun c=>by unfold lostF;rw [if_pos hl]
  rw [h1,h1]
  simp only [ite_self]
  rw [if_neg (by omega),lostS_pos K ts lost hl]
 ·split
  ·rw [if_pos (by omega),lostF_no]
  ·have:lostF lost p=p:=by unfold lostF;rw [if_neg hl,if_pos hp]
   rw [this,if_neg (by omega),lostS_pos K ts p hp]
def CaRR (P:Ps) (K:List Kn) (lost lostM:Int) (L0 M:List Tok) (t:Tok) (n:Nat) (vs:List Value) (its:List (Out Tn×Value)):Prop :=
  (∃ ts m,ts.length=n∧M.length≤m∧callS P t L0=thn (argsS P m M) (fun az l3=>thn (exq sShut l3) fun _ l4=>.ok (nd 11 { Pyl.none with name:=t.text,num:=t.pos } (ts ++ az),l4))∧its=itsOf ts vs∧lostM=lostS K lost ts)∨
     (∃ r,callS P t L0 = .error r∧M=stuck r∧kindOf M=1)
def CaJ (P:Ps) (w:World) (rb g N T:Nat) (tk:List Value) (L0:List Tok) (K:List Kn) (lost:Int) (t:Tok) (k:Nat) (wr:World):Prop :=
 ∃ (X:List Nat) (M:List Tok) (lostM:Int) (rv:Value) (n:Nat) (vs:List Value) (its:List (Out Tn×Value)),N∈X∧T∈X∧Cl wr T tk∧Cl wr N [.string ⟨#[99,97,108,108]⟩,.string t.text,.int .i64 0,.int .i64 0,.string ⟨#[]⟩,.slice none 0 0,.slice none 0 0,rv,.slice none 0 0]∧(∀ g,rv.ownBlock=some g→g∈X∧g≠N∧g≠T)∧wr.ownsRow 0 25 1 rv n vs∧n+M.length≤L0.length∧M.length≤k∧NqR w wr rb g X M K lostM its∧CaRR P K lost lostM L0 M t n vs its
theorem CaRR.yes {P:Ps}{L0 M M1:List Tok}{t:Tok}{n:Nat}{vs:List Value}{lostM:Int} (h:CaRR P K lost lostM L0 M t n vs its) (e:acc s M=(true,M1)):∃ ts m,ts.length=n∧M1.length≤m∧callS P t L0=thn (argsS P (m+1) M) (fun az l3=>thn (exq sShut l3) fun _ l4=>.ok (nd 11 { Pyl.none with name:=t.text,num:=t.pos } (ts ++ az),l4))∧its=itsOf ts vs∧lostM=lostS K lost ts:=by
 rcases h with ⟨ts,m,h1,h2,h3⟩ | ⟨r,_,_,k⟩
 ·have:=acc_true e
  match m,h2,h3 with
  | 0,h2,_=>omega
  | m+1,h2,h3=>exact ⟨ts,m,h1,by omega,h3⟩
 ·rw [acc_one k] at e
  cases e
theorem car_next {P:Ps}{wr:World}{L0 M:List Tok}{t:Tok}{n:Nat}{vs:List Value}{v:Value}{x:Out Tn}{ts:List Tn}{lostM:Int}{q:List Tok→Nat} (h:callS P t L0=thn x fun a l2=>thn (argsS P (q l2) l2) fun az l3=>thn (exq sShut l3) fun _ l4=>.ok (nd 11 { Pyl.none with name:=t.text,num:=t.pos } (ts ++ a :: az),l4))
  (hq:M.length≤q M) (hx:Fn x M fun t=>lostM=lostF (lostS K lost ts) (chk t K)) (hn:NqR w wr rb g X M K lostM ((x,v) :: itsOf ts vs)) (hl:ts.length=vs.length) (hts:ts.length=n):∃ its,NqR w wr rb g X M K lostM its∧CaRR P K lost lostM L0 M t (n+1) (vs ++ [v]) its:=by
 match x,hx with
 | .ok (a,l),⟨e,hlo⟩ =>
  subst e
  refine ⟨itsOf (ts ++ [a]) (vs ++ [v]),?_,.inl ⟨ts ++ [a],q M,by simp [hts],hq,?_,rfl,by rw [lostS_add];exact hlo⟩⟩
  ·rw [its_add hl]
   refine hn.bare.perm fun q hq=>?_
   rcases List.mem_append.mp hq with h | h
   ·exact .tail _ h
   ·rw [List.mem_singleton.mp h]
    exact .head _
  ·rw [h]
   simp [thn]
 | .error r,⟨e,k⟩=>exact ⟨[],hn.perm (by simp),.inr ⟨r,h,e,k⟩⟩
theorem Rn.rows {y:Pyl}{kind N n:Nat}{ts:List Tn}{vs:List Value}{r:Value}{o:List Value} (hn:NqR a w rb g X L K lost its) (hi:∀ (j:Nat) (t:Tn) (v:Value),ts[j]? = some t→vs[j]? = some v→Rn (fun b=>a.heap.size≤b∧nbOf w rb≠some b) w t v) (hN:N∈X) (hc:Cl w N o) (ho:o=cellsN kind { y with cnt:=ts.length } ++ [r,.slice none 0 0]) (hg:∀ b,r.ownBlock=some b→b∈X) (ow:w.ownsRow 0 25 1 r n vs) (hts:ts.length=n) (hpar:parR kind { y with cnt:=ts.length }=[]) :
  Rn (fun b=>a.heap.size≤b∧nbOf w rb≠some b) w (nd kind y ts) (.pointer (some ⟨N,0,none⟩)):=by
 have hm:=hn.mine _ hN
 subst ho
 subst hts
 refine Rn.mk (r:=r) (r':=.slice none 0 0) (vs:=vs) ⟨hm.1,hm.2.2⟩ hm.2.1 hc ow (fun b e=>⟨(hn.mine b (hg b e)).1,(hn.mine b (hg b e)).2.2⟩) (fun j x hx=>?_) (by rw [hpar];exact World.ownsRow_nil _ _ _ _) (fun b e=>by cases e)
 have hl:vs.length=ts.length:=by rw [ow.1];omega
 have hj:j < ts.length:=by
  have:=(List.getElem?_eq_some_iff.mp hx).1
  omega
 have:ts.getD j Tn.no=ts[j]:=by simp [hj]
 rw [this]
 exact hi j _ x (List.getElem?_eq_getElem hj) hx
end
end Go.Proofs.Tryz
namespace Go.Proofs.Tryz
set_option maxHeartbeats 16000000
open Go.RowKit
set_option maxRecDepth 10000
section
variable {a w w' : World} {rb g : Nat} {X : List Nat} {L L' M : List Tok} {K K' : List Kn} {lost lost' : Int} {its : List (Out Tn × Value)} {s : ByteArray}
theorem owns_sl {w:World}{B e n s:Nat}{v:Value}{xs:List Value} (h:w.ownsRow B e s v n xs):∃ a c,v = .slice a n c:=by
 rcases h.2 with ⟨rfl,rfl⟩ | ⟨g,cap,cur,rfl,_⟩
 ·exact ⟨_,_,rfl⟩
 ·exact ⟨_,_,rfl⟩
theorem asks_f (hIt:ItoaAt) {w:World}{rb g:Nat}{L:List Tok}{K:List Kn}{lost:Int} (x:ByteArray) (n:Nat) (m:Int) (hm:m=n) (at_:Int) (h:RdR w rb g L K lost) (ht:TbR w rb) (hK:K.length≤100000) (hx:x.size≤2000) (hn:n≤3000) (ha:0≤at_) :
  Calls Tryz.prog 117 #[.pointer (some ⟨rb,0,none⟩),.int .u8 102,.string x,.int .i64 m,.int .i64 at_] w fun e w'=>∃ q,e = .returned (.tuple #[])∧KpR rb w w'∧RdR w' rb g L K q∧Aside (q=if askB K 102 x n then lost else lostF lost at_):=by
 subst hm
 refine (asksQ hIt 102 x n at_ h ht hK hx hn ha).mono ?_
 rintro e w' ⟨rfl,k,r⟩
 exact ⟨_,rfl,k,r,rfl⟩
theorem callR_ok (hIt:ItoaAt) {P:Ps}{B:Nat} (hP:SndR P B) {t:Tok}{tn:Int} (hkt:Okt t) (hk2:t.kind=2) (h:RdR w rb g L K lost) (ht:TbR w rb) (hK:K.length+L.length≤100000) (hB:8 * L.length≤B) :
  Calls Tryz.prog 118 #[.pointer (some ⟨rb,0,none⟩),.agg #[.int .u8 110,.string t.text,.int .i64 tn,.int .i64 t.pos]] w (GvR rb g w L K lost (callS P t L)):=by
 have hn:=NqR.start h ht
 have hlen:=h.len
 obtain ⟨j0,hj0,hy0,hy1,hy2⟩:=info_parts info_node
 clear h
 have hx2:=hkt.size
 have hp0:=hkt.pos
 have hxl:=hkt.name hk2
 clear hkt hk2
 have hxl:Aside (∀ c∈t.text.data.toList,(isLetterB c || isDigitB c)=true):=hxl
 obtain ⟨h3,f3⟩:=hn.rd.lost3
 have hrb:=hn.rd.rbs
 go_enter Tryz.func118,Tryz.ntmps118
 go_wp2_with fail
 have ht0:=Cl.start w [.int .u8 110,.string t.text,.int .i64 tn,.int .i64 t.pos] 43
 have hn:=hn.own (.cells #[.int .u8 110,.string t.text,.int .i64 tn,.int .i64 t.pos] 43)
 have hc:=Cl.start (w.alloc (.cells #[.int .u8 110,.string t.text,.int .i64 tn,.int .i64 t.pos] 43)) [.string ⟨#[99,97,108,108]⟩,.string t.text,.int .i64 0,.int .i64 0,.string ⟨#[]⟩,.slice none 0 0,.slice none 0 0,.slice none 0 0,.slice none 0 0] 51
 have ht0:=ht0.below (below_alloc _ (.cells #[.string ⟨#[99,97,108,108]⟩,.string t.text,.int .i64 0,.int .i64 0,.string ⟨#[]⟩,.slice none 0 0,.slice none 0 0,.slice none 0 0,.slice none 0 0] 51)) (by simp)
 have hn:=hn.own (.cells #[.string ⟨#[99,97,108,108]⟩,.string t.text,.int .i64 0,.int .i64 0,.string ⟨#[]⟩,.slice none 0 0,.slice none 0 0,.slice none 0 0,.slice none 0 0] 51)
 simp only [World.size_alloc] at hc hn
 cases d0:acc sOpen L with
 | mk b0 M0 =>
 cases b0 with
 | false =>
  refine Calls.mono (takesF hn.rd d0) ?_
  rintro e w2 ⟨rfl,k2,r2⟩
  have hc:=hc.callR hn (.head _) k2
  have ht0:=ht0.callR hn (.tail _ (.head _)) k2
  have hn:=hn.call k2 r2
  have ho:w2.ownsRow 0 25 1 (.slice none 0 0) 0 []:=World.ownsRow_nil _ _ _ _
  obtain ⟨c3,q3⟩:=hn.rd.lost3
  have hrb2:=hn.rd.rbs
  go_wp2_with fail
  obtain ⟨W,hW⟩:∃ W,W=w2.setCell ⟨rb,3,none⟩ (.int .i64 lost):=⟨_,rfl⟩
  rw [← hW]
  have k3:KpR rb w2 W:=by rw [hW];exact KpR.set (by decide)
  have r3:RdR W rb g L K lost:=by rw [hW];exact hn.rd.set3 lost
  have hc:=hc.callR hn (.head _) k3
  have ht0:=ht0.callR hn (.tail _ (.head _)) k3
  have ho:=ownsR_call ho hn (by simp [Value.ownBlock]) k3
  have hn:=hn.call k3 r3
  clear hW c3 q3
  have t1:W.cell? ⟨w.heap.size,1,none⟩=some (.string t.text):=(ht0.cell 1).trans rfl
  have t3:W.cell? ⟨w.heap.size,3,none⟩=some (.int .i64 t.pos):=(ht0.cell 3).trans rfl
  have n7:W.cell? ⟨w.heap.size+1,7,none⟩=some (.slice none 0 0):=(hc.cell 7).trans rfl
  have ho:Aside (W.ownsRow 0 25 1 (.slice none 0 0) 0 []):=ho
  go_region_law (go_simp;go_at_call 117;have hc:=hc.below (Below.refl _ _).drew (hn.mine _ (.head _)).2.1;have ho:=ownsB_below ho.out (Below.refl _ _).drew;have hn:=hn.below (Below.refl _ _).drew;refine (asks_f hIt t.text 0 _ (by omega) t.pos hn.rd hn.tbw (by omega) hx2 (by omega) hp0).mono ?_;rintro e w5 ⟨q5,rfl,k5,r5,hq5⟩;have hc:=hc.callR hn (.head _) k5;have ho:=ownsR_call ho hn (by simp [Value.ownBlock]) k5;have hn:=hn.call k5 r5)
  all_goals
   obtain ⟨c5,f5⟩:=hn.rd.lost3
   have hrb5:=hn.rd.rbs
   have ho:Aside (w5.ownsRow 0 25 1 (.slice none 0 0) 0 []):=ho
   by_cases hl0:q5 < 0
   ·go_wp2_with fail
    go_ret
    have k6:KpR rb w5 (w5.setCell ⟨rb,3,none⟩ (.int .i64 lost)):=KpR.set (by decide)
    have r6:=hn.rd.set3 lost
    have hc:=hc.callR hn (.head _) k6
    have ho:=ownsR_call ho.out hn (by simp [Value.ownBlock]) k6
    have hn:=hn.call k6 r6
    have hlo:∀ (ts:List Tn),ts.length=0→lostS K lost ts=lost→lost=lostF lost (chk (nd 11 { Pyl.none with name:=t.text,num:=t.pos } ts) K):=fun ts h1 h2=>by
     have:=ask_f K t.text t.pos hp0 lost ts hxl.out
     rw [h1,← hq5.out,if_pos hl0,h2] at this
     exact this
    rw [show callS P t L = .ok (nd 11 { Pyl.none with name:=t.text,num:=t.pos } [],L) by simp [callS,d0]]
    exact ⟨w.heap.size+1,L,_,rfl,hn.kept,hn.rd,Nat.le_refl _,Sx.refl _,Fn.ok ⟨Rn.rows (ts:=[]) (vs:=[]) (n:=0) hn (fun j t v h=>by simp at h) (.head _) hc rfl (by simp [Value.ownBlock]) ho rfl rfl,hlo [] rfl rfl⟩⟩
   ·go_wp2_with fail
    go_ret
    have ho:=ho.out
    have hlo:∀ (ts:List Tn),ts.length=0→lostS K lost ts=lost→q5=lostF lost (chk (nd 11 { Pyl.none with name:=t.text,num:=t.pos } ts) K):=fun ts h1 h2=>by
     have:=ask_f K t.text t.pos hp0 lost ts hxl.out
     rw [h1,← hq5.out,if_neg (by omega)] at this
     exact this
    rw [show callS P t L = .ok (nd 11 { Pyl.none with name:=t.text,num:=t.pos } [],L) by simp [callS,d0]]
    exact ⟨w.heap.size+1,L,_,rfl,hn.kept,hn.rd,Nat.le_refl _,Sx.refl _,Fn.ok ⟨Rn.rows (ts:=[]) (vs:=[]) (n:=0) hn (fun j t v h=>by simp at h) (.head _) hc rfl (by simp [Value.ownBlock]) ho rfl rfl,hlo [] rfl rfl⟩⟩
 | true =>
  have z0:=acc_len d0
  have hl3:=hlen (fun e=>by rw [acc_one e] at d0;cases d0)
  refine Calls.mono (takesT hn.rd d0) ?_
  rintro e w2 ⟨rfl,k2,r2⟩
  have hc:=hc.callR hn (.head _) k2
  have ht0:=ht0.callR hn (.tail _ (.head _)) k2
  have hn:=hn.call k2 r2
  go_wp2_with fail
  refine Calls.mono (hP.filter hn.rd hn.tbw (by omega) (by omega)) ?_
  rintro e w3 ⟨b3,L3,lost3,rfl,k3,r3,l3,s3,f3'⟩
  have hc:=hc.callR hn (.head _) k3
  have ht0:=ht0.callR hn (.tail _ (.head _)) k3
  have hn:=hn.item (v:=.pointer (some ⟨b3,0,none⟩)) k3 r3 f3'.rn
  have f3':=f3'.lo
  have hS:w3.cell? ⟨w.heap.size+1,7,none⟩=some (.slice none 0 0):=(hc.cell 7).trans rfl
  have q3:=hc.free
  have y3:=(hn.mine _ (.head _)).2.1
  have y4:=(hn.mine _ (.tail _ (.head _))).2.1
  go_wp2_with (refine wpList_append_lies _ (by rfl) _ _ _ (by rfl) 0 25 j0 _ 1 8 Tryz.underlying49 hj0 hy0 hy1 hy2 rfl (by omega) (.slice none 0 0) 0 [] (by rfl) (World.ownsRow_nil _ _ _ _) ⟨w3.heap.size,0,none⟩ 1 1 [.pointer (some ⟨b3,0,none⟩)] (by rfl) (by rfl) (World.news_of_block (cs:=#[.pointer (some ⟨b3,0,none⟩)]) (t:=25) (fr:=(0,0)) (heap_new w3 _)) (by simp [Value.oneCell']) (by omega) (by unfold maxLen;omega) (by omega) (by simp) (w3.heap.size+1) (by simp) ?_;intro g5 cap5 w5 ow5 hgr5 hat5 hlt5;have hc:=(hc.below (below_alloc _ _) y3).grown hgr5 (by simp;omega) (by simp [Value.ownBlock]);have ht0:=(ht0.below (below_alloc _ _) y4).grown hgr5 (by simp;omega) (by simp [Value.ownBlock]);have hn:=(hn.alloc _).grown hgr5 (by simp [Value.ownBlock]) (hat5.imp id (fun e=>by simpa using e)) hlt5;have hS5:w5.cell? ⟨w.heap.size+1,7,none⟩=some (.slice none 0 0):=(hc.cell 7).trans rfl;have q5:=hc.free)
  have hg5:g5≠w.heap.size+1∧g5≠w.heap.size:=by
   rcases hat5 with e | e
   ·cases e
   ·first | omega | (simp at e;omega)
  have hc:=hc.set 7 (.slice (some ⟨g5,0,none⟩) (0+1) cap5) (by simp)
  have ht0:=ht0.same (w':=w5.setCell ⟨w.heap.size+1,7,none⟩ (.slice (some ⟨g5,0,none⟩) (0+1) cap5)) (Below.heap_setCell _ _ _ _ (by simp))
  have hn:=hn.set (o:=7) (.slice (some ⟨g5,0,none⟩) (0+1) cap5) (.tail _ (.head _))
  have ho:=ownsB_set (N:=w.heap.size+1) (o:=7) (u:=.slice (some ⟨g5,0,none⟩) (0+1) cap5) ow5 (fun b e=>by cases e;exact hg5.1)
  go_loopg [7] L.length (fun k v wr=>CaJ P w rb g (w.heap.size+1) w.heap.size [.int .u8 110,.string t.text,.int .i64 tn,.int .i64 t.pos] L K lost t k wr)
  case atStart =>
   obtain ⟨its,hn,hR⟩:=car_next (P:=P) (L0:=L) (t:=t) (ts:=[]) (vs:=[]) (n:=0) (x:=P 0 M0) (q:=List.length) (by simp [callS,d0]) (Nat.le_refl _) f3' hn rfl rfl
   exact ⟨_,L3,_,_,1,_,its,.tail _ (.head _),.tail _ (.tail _ (.head _)),ht0,hc,fun b e=>by cases e;exact ⟨.head _,hg5.1,hg5.2⟩,ho,by omega,by omega,hn,hR⟩
  case round =>
   clear hn hc ht0 ho f3'
   obtain ⟨X,M,lostM,rv,n,vs,its,hNX,hTX,ht0,hc,hg,ho,hnm,hMk,hn,hR⟩:=hrel
   have ho:Aside (wr.ownsRow 0 25 1 rv n vs):=ho
   have hne:=hn.rd.wf.ne
   cases d1:acc sSemi M with
   | mk b1 M1 =>
   cases b1 with
   | false =>
    obtain ⟨ra,rc,hrv⟩:=owns_sl ho.out
    subst hrv
    go_wp2_with fail
    refine Calls.mono (takesF hn.rd d1) ?_
    rintro e w6 ⟨rfl,k6,r6⟩
    have hc:=hc.callR hn hNX k6
    have ht0:=ht0.callR hn hTX k6
    have ho:Aside (w6.ownsRow 0 25 1 (.slice ra n rc) n vs):=ownsR_call ho.out hn (fun b e=>(hg b e).1) k6
    have hn:=hn.call k6 r6
    go_wp2_with fail
    refine Calls.mono (needsQ hn.rd) ?_
    rintro e w7 ⟨rfl,L7,k7,r7,l7,f7,s7⟩
    have hc:=hc.callR hn hNX k7
    have ht0:=ht0.callR hn hTX k7
    have ho:=ownsR_call ho.out hn (fun b e=>(hg b e).1) k7
    have hn:=hn.call k7 r7
    obtain ⟨c3,q3⟩:=hn.rd.lost3
    have hrb2:=hn.rd.rbs
    go_wp2_with fail
    obtain ⟨W,hW⟩:∃ W,W=w7.setCell ⟨rb,3,none⟩ (.int .i64 lost):=⟨_,rfl⟩
    rw [← hW]
    have k3:KpR rb w7 W:=by rw [hW];exact KpR.set (by decide)
    have r3:RdR W rb g L7 K lost:=by rw [hW];exact hn.rd.set3 lost
    have hc:=hc.callR hn hNX k3
    have ht0:=ht0.callR hn hTX k3
    have ho:=ownsR_call ho hn (fun b e=>(hg b e).1) k3
    have hn:=hn.call k3 r3
    clear hW c3 q3
    have t1:W.cell? ⟨w.heap.size,1,none⟩=some (.string t.text):=(ht0.cell 1).trans rfl
    have t3:W.cell? ⟨w.heap.size,3,none⟩=some (.int .i64 t.pos):=(ht0.cell 3).trans rfl
    have n7:W.cell? ⟨w.heap.size+1,7,none⟩=some (.slice ra n rc):=(hc.cell 7).trans rfl
    have ho:Aside (W.ownsRow 0 25 1 (.slice ra n rc) n vs):=ho
    go_region_law (go_simp;go_at_call 117;have hc:=hc.below (Below.refl _ _).drew (hn.mine _ hNX).2.1;have ho:=ownsB_below ho.out (Below.refl _ _).drew;have hn:=hn.below (Below.refl _ _).drew;refine (asks_f hIt t.text n _ (by omega) t.pos hn.rd hn.tbw (by omega) hx2 (by omega) hp0).mono ?_;rintro e w5 ⟨q5,rfl,k5,r5,hq5⟩;have hc:=hc.callR hn hNX k5;have ho:=ownsR_call ho hn (fun b e=>(hg b e).1) k5;have hn:=hn.call k5 r5)
    all_goals
     obtain ⟨c5,f5⟩:=hn.rd.lost3
     have hrb5:=hn.rd.rbs
     have ho:Aside (w5.ownsRow 0 25 1 (.slice ra n rc) n vs):=ho
     by_cases hl0:q5 < 0
     ·go_wp2_with fail
      go_ret
      have k6:KpR rb w5 (w5.setCell ⟨rb,3,none⟩ (.int .i64 lostM)):=KpR.set (by decide)
      have r6:=hn.rd.set3 lostM
      have hc:=hc.callR hn hNX k6
      have ho:=ownsR_call ho.out hn (fun b e=>(hg b e).1) k6
      have hn:=hn.call k6 r6
      have hlo:∀ (ts:List Tn),ts.length=n→lostS K lost ts=lostM→lostM=lostF lost (chk (nd 11 { Pyl.none with name:=t.text,num:=t.pos } ts) K):=fun ts h1 h2=>by
       have:=ask_f K t.text t.pos hp0 lost ts hxl.out
       rw [h1,← hq5.out,if_pos hl0,h2] at this
       exact this
      refine ⟨w.heap.size+1,L7,_,rfl,hn.kept,hn.rd,by omega,acc_sx d0,?_⟩
      rcases hR with ⟨ts,m,hts,hm,hE,hi,hls⟩ | ⟨r,hE,e,k⟩
      ·have hz:M.length≠0:=fun e=>hne (List.eq_nil_of_length_eq_zero e)
       match m,hm,hE with
       | 0,hm,_=>omega
       | m+1,_,hE =>
        rw [hE,show argsS P (m+1) M = .ok ([],M) by simp [argsS,d1]]
        show Fn (thn (exq sShut M) fun _ l4=>Except.ok (nd 11 _ (ts ++ []),l4)) L7 _
        refine Fn.thn f7 (fun _ _ _=>Fn.ok ?_) (Sx.refl _)
        rw [List.append_nil]
        subst hi
        exact ⟨Rn.rows (ts:=ts) (vs:=vs) (n:=n) hn (fun j t v h1 h2=>hn.kid (its_mem h1 h2) rfl) hNX hc rfl (fun b e=>(hg b e).1) ho hts rfl,hlo ts hts hls.symm⟩
      ·rw [hE]
       have:=s7 k
       subst this
       exact Fn.bad e k
     ·go_wp2_with fail
      go_ret
      have ho:=ho.out
      have hlo:∀ (ts:List Tn),ts.length=n→lostS K lost ts=lostM→q5=lostF lost (chk (nd 11 { Pyl.none with name:=t.text,num:=t.pos } ts) K):=fun ts h1 h2=>by
       have:=ask_f K t.text t.pos hp0 lost ts hxl.out
       rw [h1,← hq5.out,if_neg (by omega)] at this
       exact this
      refine ⟨w.heap.size+1,L7,_,rfl,hn.kept,hn.rd,by omega,acc_sx d0,?_⟩
      rcases hR with ⟨ts,m,hts,hm,hE,hi,hls⟩ | ⟨r,hE,e,k⟩
      ·have hz:M.length≠0:=fun e=>hne (List.eq_nil_of_length_eq_zero e)
       match m,hm,hE with
       | 0,hm,_=>omega
       | m+1,_,hE =>
        rw [hE,show argsS P (m+1) M = .ok ([],M) by simp [argsS,d1]]
        show Fn (thn (exq sShut M) fun _ l4=>Except.ok (nd 11 _ (ts ++ []),l4)) L7 _
        refine Fn.thn f7 (fun _ _ _=>Fn.ok ?_) (Sx.refl _)
        rw [List.append_nil]
        subst hi
        exact ⟨Rn.rows (ts:=ts) (vs:=vs) (n:=n) hn (fun j t v h1 h2=>hn.kid (its_mem h1 h2) rfl) hNX hc rfl (fun b e=>(hg b e).1) ho hts rfl,hlo ts hts hls.symm⟩
      ·rw [hE]
       have:=s7 k
       subst this
       exact Fn.bad e k
   | true =>
    have z1:=acc_len d1
    obtain ⟨ts,m,hts,hm,hE,hi,hls⟩:=hR.yes d1
    match gk,hMk with
    | 0,hMk=>omega
    | k+1,hMk =>
    go_wp2_with fail
    refine Calls.mono (takesT hn.rd d1) ?_
    rintro e w6 ⟨rfl,k6,r6⟩
    have hc:=hc.callR hn hNX k6
    have ht0:=ht0.callR hn hTX k6
    have ho:Aside (w6.ownsRow 0 25 1 rv n vs):=ownsR_call ho.out hn (fun b e=>(hg b e).1) k6
    have hn:=hn.call k6 r6
    go_wp2_with fail
    refine Calls.mono (hP.filter hn.rd hn.tbw (by omega) (by omega)) ?_
    rintro e w7 ⟨b7,L7,lost7,rfl,k7,r7,l7,s7,f7⟩
    have hc:=hc.callR hn hNX k7
    have ht0:=ht0.callR hn hTX k7
    have ho:Aside (w7.ownsRow 0 25 1 rv n vs):=ownsR_call ho.out hn (fun b e=>(hg b e).1) k7
    have hn:=hn.item (v:=.pointer (some ⟨b7,0,none⟩)) k7 r7 f7.rn
    have f7:=f7.lo
    have hS:w7.cell? ⟨w.heap.size+1,7,none⟩=some rv:=(hc.cell 7).trans rfl
    have q7:=hc.free
    have y3:=(hn.mine _ hNX).2.1
    have y4:=(hn.mine _ hTX).2.1
    go_wp2_with (refine wpList_append_lies _ (by rfl) _ _ _ (by rfl) 0 25 j0 _ 1 8 Tryz.underlying49 hj0 hy0 hy1 hy2 rfl (by omega) rv n vs (by rfl) (ownsB_below ho.out (below_alloc _ _)) ⟨w7.heap.size,0,none⟩ 1 1 [.pointer (some ⟨b7,0,none⟩)] (by rfl) (by rfl) (World.news_of_block (cs:=#[.pointer (some ⟨b7,0,none⟩)]) (t:=25) (fr:=(0,0)) (heap_new w7 _)) (by simp [Value.oneCell']) (by omega) (by unfold maxLen;omega) (by omega) (by simp) (w7.heap.size+1) (by simp) ?_;intro g8 cap8 w8 ow8 hgr8 hat8 hlt8;have hc:=(hc.below (below_alloc _ _) y3).grown hgr8 (by simp;omega) (fun e=>(hg _ e).2.1 rfl);have ht0:=(ht0.below (below_alloc _ _) y4).grown hgr8 (by simp;omega) (fun e=>(hg _ e).2.2 rfl);have hn:=(hn.alloc _).grown hgr8 (fun i e=>(hg i e).1) (hat8.imp id (fun e=>by simpa using e)) hlt8;have hS8:w8.cell? ⟨w.heap.size+1,7,none⟩=some rv:=(hc.cell 7).trans rfl;have q8:=hc.free)
    have hg8:g8≠w.heap.size+1∧g8≠w.heap.size:=by
     rcases hat8 with e | e
     ·exact (hg _ e).2
     ·first | omega | (simp at e;omega)
    have hc:=hc.set 7 (.slice (some ⟨g8,0,none⟩) (n+1) cap8) (by simp)
    have ht0:=ht0.same (w':=w8.setCell ⟨w.heap.size+1,7,none⟩ (.slice (some ⟨g8,0,none⟩) (n+1) cap8)) (Below.heap_setCell _ _ _ _ (by simp))
    have hn:=hn.set (o:=7) (.slice (some ⟨g8,0,none⟩) (n+1) cap8) (.tail _ hNX)
    have ho:=ownsB_set (N:=w.heap.size+1) (o:=7) (u:=.slice (some ⟨g8,0,none⟩) (n+1) cap8) ow8 (fun b e=>by cases e;exact hg8.1)
    go_roundg k
    case measure=>omega
    case rel =>
     subst hi
     have hvs:vs.length=n:=by have:=ow8.1;simp at this;omega
     obtain ⟨its2,hn2,hR2⟩:=car_next (P:=P) (L0:=L) (t:=t) (ts:=ts) (vs:=vs) (n:=n) (x:=P 0 M1) (q:=fun _=>m) (K:=K) (lost:=lost) (by
      rw [hE]
      simp only [argsS,d1,thn_thn]
      rfl) (by omega) (by rw [← hls];exact f7) hn (by omega) hts
     exact ⟨_,L7,_,_,n+1,_,its2,.tail _ hNX,.tail _ hTX,ht0,hc,fun b e=>by cases e;exact ⟨.head _,hg8.1,hg8.2⟩,ho,by omega,by omega,hn2,hR2⟩
end
end Go.Proofs.Tryz
