import Derived.Test.YtfocepfmpnpaiaaGreatDoorYsc
import Derived.Test.YtfocepfmpnpaiaaGreatDoorYl7
set_option linter.all false
namespace Go.Proofs.Tryz
set_option maxHeartbeats 16000000
open Go.RowKit
set_option maxRecDepth 10000
theorem readP_climb (n:Nat):readP (n+1)=stepS climbS (readP n):=by
 rw [read_same (n+1),read_same n]
 rfl
theorem readR_snd (hIt:ItoaAt):∀ n,SndR (readP n) n
 | 0=>⟨fun _ _ _ h=>absurd h (by omega),fun _ _ _ _ _ _ _ _ h=>absurd h (by omega),fun _ _ _ h=>absurd h (by omega),fun _ _ _ h=>absurd h (by omega),fun _ _ _ h=>absurd h (by omega),fun _ _ _=>rfl,readP_less 0⟩
 | n+1=>by
  have hP:=readR_snd hIt n
  refine ⟨?_,?_,?_,?_,?_,read_stk (n+1),readP_less (n+1)⟩
  ·intro w rb g L K lost h ht hK hb
   rw [readP_climb]
   exact filterR_ok hP h ht hK (by omega)
  ·intro w rb g L K lost r q hq h1 h9 h ht hK hb
   have e:readP (n+1) (10+r) L=climbs (readP n) (loops (readP n) L.length) (10 - r) L:=by
    rw [readP_climb]
    obtain ⟨c,rfl⟩:∃ c,r=c+1:=⟨r - 1,by omega⟩
    rw [show 10+(c+1)=c+6+5 by omega]
    show (if 11≤c+6+5∧c+6+5≤19 then climbS (readP n) (((c+6+5:Nat):Int) - 10) L else .error L)=_
    rw [if_pos (by omega)]
    unfold climbS
    congr 1
    omega
   rw [e]
   exact climb_any hP L.length (10 - r) (by omega) q (by omega) h ht hK (Nat.le_refl _) (by omega)
  ·intro w rb g L K lost h ht hK hb
   rw [readP_climb]
   exact minusR_ok hP h ht hK (by omega)
  ·intro w rb g L K lost h ht hK hb
   rw [readP_climb]
   exact postfixR_ok hP h ht hK (by omega)
  ·intro w rb g L K lost h ht hK hb
   rw [readP_climb]
   exact primaryR_ok hIt hP (members_ok hP) h ht hK (by omega)
theorem filterR_reads (hIt:ItoaAt) {w:World}{rb g:Nat}{L:List Tok}{K:List Kn}{lost:Int} (h:RdR w rb g L K lost) (ht:TbR w rb) (hK:K.length+L.length≤100000) :
  Calls Tryz.prog 10 #[.pointer (some ⟨rb,0,none⟩)] w (GvR rb g w L K lost (readP (8 * L.length+5) 0 L)) :=
 (readR_snd hIt (8 * L.length+5)).filter h ht hK (Nat.le_refl _)
end Go.Proofs.Tryz
namespace Go.Proofs.Tryz
set_option maxHeartbeats 16000000
open Go.RowKit
set_option maxRecDepth 10000
def endR (x:Out Tn):Except (Int×Int) Tn:=match x with
 | .error r=>.error (2,headPos r)
 | .ok (t,l)=>if kindOf l=0 then (if 0≤chk t [] then .error (3,chk t []) else .ok t) else .error (2,headPos l)
def ReadF (x:Out Tn) (w:World) (e:Ending) (w':World):Prop:=Below w.heap.size w w'∧match endR x with
 | .error (c,p)=>e = .returned (.tuple #[.pointer none,.int .i64 c,.int .i64 p])
 | .ok t=>∃ b,e = .returned (.tuple #[.pointer (some ⟨b,0,none⟩),.int .i64 0,.int .i64 0])∧Rn (fun b=>w.heap.size≤b) w' t (.pointer (some ⟨b,0,none⟩))
theorem headPos_stuck (r:List Tok):headPos (stuck r)=headPos r:=by cases r <;> rfl
section
variable {w w' : World} {rb g : Nat} {L : List Tok} {K : List Kn} {lost : Int}
theorem RdR.bpos {c:Int} (h:RdR w rb g L K lost) (hc:w.cell? ⟨rb,2,none⟩=some (.int .i64 c)) (h0:0≤c):headPos L=c∧kindOf L=1:=by
 obtain ⟨cap,F,I,bad,nv,h,h2,h3⟩:=h
 rw [h.c2] at hc
 cases hc
 rcases h2 with ⟨e,_⟩ | ⟨_,e1,e2⟩
 ·omega
 ·exact ⟨e2,e1⟩
end
def RefRead (s:ByteArray):Out Tn:=readP (8 * (lexT RSt s (s.size+1) 0).length+5) 0 (lexT RSt s (s.size+1) 0)
theorem readFilter_long (s:ByteArray) (w:World) (hs:2000 < s.size):Calls Tryz.prog 5 #[.string s] w fun e w'=>e = .returned (.tuple #[.pointer none,.int .i64 2,.int .i64 0])∧w'=w:=by
 have h1:(2000:Int) < (s.size:Int):=by omega
 go_enter Tryz.func5,Tryz.ntmps5
 go_wp2_with fail
 exact bodyPost_ret (v:=.tuple #[.pointer none,.int .i64 2,.int .i64 0]) (by simp [results,Tryz.results5,go_sem]) rfl ⟨rfl,rfl⟩
theorem readFilter_any (hIt:ItoaAt) (s:ByteArray) (w:World) (hs:s.size≤2000) (ht:Lib.TabBelow Tryz.prog w.heap.size w "internal/strconv.uint64pow10" .u64 Lib.pow10Tab) :
  Calls Tryz.prog 5 #[.string s] w (ReadF (RefRead s) w):=by
 obtain ⟨T,hT⟩:∃ T,lexT RSt s (s.size+1) 0=T:=⟨_,rfl⟩
 have hgd:=lexT_good hs (s.size+1) 0
 unfold RefRead
 rw [hT] at hgd ⊢
 have hTK:=tokensR_any ref_RSt fits_RSt s (s.size+1) T w hs (by omega) (by omega) hT
 have hs1:¬ (2000:Int) < (s.size:Int):=by omega
 go_enter Tryz.func5,Tryz.ntmps5
 go_wp2_with fail
 refine Calls.mono hTK ?_
 rintro e w1 ⟨g,cap,rfl,hg,hg2,hTR,hc1,hc2,hB1⟩
 go_wp2_with fail
 have hcl:=Cl.start w1 [.slice (some ⟨g,0,none⟩) T.length cap,.int .i64 0,.int .i64 (-1),.int .i64 (-1),.slice none 0 0] 40
 have hBA:=below_alloc w1 (.cells #[.slice (some ⟨g,0,none⟩) T.length cap,.int .i64 0,.int .i64 (-1),.int .i64 (-1),.slice none 0 0] 40)
 obtain ⟨W,hW⟩:∃ W,w1.alloc (.cells #[.slice (some ⟨g,0,none⟩) T.length cap,.int .i64 0,.int .i64 (-1),.int .i64 (-1),.slice none 0 0] 40)=W:=⟨_,rfl⟩
 have hWs:W.heap.size=w1.heap.size+1:=by rw [← hW];simp
 have hcl:Cl W w1.heap.size [.slice (some ⟨g,0,none⟩) T.length cap,.int .i64 0,.int .i64 (-1),.int .i64 (-1),.slice none 0 0]:=by rw [← hW];exact hcl
 rw [hW] at hBA ⊢
 clear hW
 have hne:T≠[]:=hgd.1.ne
 have hrd:RdR W w1.heap.size g T [] (-1):=by
  refine ⟨cap,T,0,-1,.slice none 0 0,⟨(hcl.cell 0).trans rfl,(hcl.cell 1).trans rfl,(hcl.cell 2).trans rfl,(hcl.cell 3).trans rfl,(hcl.cell 4).trans rfl,fun o=>hcl.free o,?_,World.ownsRow_nil _ _ _ _,by omega,by simp [Value.ownBlock],by simp [Value.ownBlock],by omega,hc1,hc2,?_,by have:=hgd.2.2;omega,fun t h=>(hgd.2.1 t h).ok⟩,.inl ⟨rfl,rfl⟩,hgd.1⟩
  ·exact hTR.same (hBA.block g hg2)
  ·exact List.length_pos_iff.2 hne
 have htb:TbR W w1.heap.size:=by
  refine ⟨fun w' h'=>ht w' (hB1.trans ((hBA.mono hB1.size).trans (h'.mono hB1.size))),fun k e=>?_⟩
  unfold nbOf at e
  rw [(hcl.cell 4).trans rfl] at e
  cases e
 have hnb0:nbOf W w1.heap.size=none:=by
  unfold nbOf
  rw [(hcl.cell 4).trans rfl]
  rfl
 clear hcl hTR
 refine Calls.mono (filterR_reads hIt hrd htb (by have:=hgd.2.2;simp;omega)) ?_
 rintro e w3 ⟨b3,L3,lost3,rfl,k3,r3,l3,s3,f3⟩
 have hBW:∀ {w4:World},KpR w1.heap.size W w4→Below w.heap.size w w4:=fun {w4} k=>hB1.trans ((hBA.mono hB1.size).trans ⟨k.os,k.tape,k.output,k.size,fun i hi=>k.block i (by have:=hB1.size;omega) (by have:=hB1.size;omega) (by rw [hnb0];simp)⟩)
 obtain ⟨t,b,c2,hkt,hH,hcase⟩:=r3.hand
 have hrb:=r3.rbs
 have hends:∀ {c:Int},headPos L3=c→kindOf L3≠0→endR (readP (8 * T.length+5) 0 T) = .error (2,c):=fun {c} h1 h2=>by
  unfold endR
  match hx:readP (8 * T.length+5) 0 T,f3 with
  | .ok (t,l),f3 =>
   obtain ⟨rfl,_⟩:=f3
   show (if kindOf L3=0 then _ else _)=_
   rw [if_neg h2,h1]
  | .error r,f3 =>
   show Except.error (2,headPos r)=_
   rw [← headPos_stuck r,← f3.1,h1]
 have f3:Aside (Fn (readP (8 * T.length+5) 0 T) L3 fun t=>Rn (fun b=>W.heap.size≤b∧nbOf w3 w1.heap.size≠some b) w3 t (.pointer (some ⟨b3,0,none⟩))∧lost3=lostF (-1) (chk t [])):=f3
 have hends:Aside (∀ {c:Int},headPos L3=c→kindOf L3≠0→endR (readP (8 * T.length+5) 0 T) = .error (2,c)):=hends
 rcases hcase with ⟨hb,⟨l,hL⟩,_⟩ | ⟨hb,hk1⟩
 case inr =>
  obtain ⟨hp,_⟩:=r3.bpos c2 (by omega)
  have hp:Aside (headPos L3=b):=hp
  go_wp2_with fail
  go_region
  all_goals
   go_wp2_with fail
   refine bodyPost_ret (v:=.tuple #[.pointer none,.int .i64 2,.int .i64 b]) (by simp [results,Tryz.results5,go_sem]) rfl ⟨?_,?_⟩
   ·first | exact (hBW k3).drew | exact hBW k3
   ·rw [hends.out hp.out (by rw [hk1];decide)]
 have hkL:kindOf L3=t.kind:=by rw [hL];rfl
 have hpL:headPos L3=t.pos:=by rw [hL];rfl
 by_cases h0:t.kind=0
 ·have hkL:Hid (kindOf L3=t.kind):=hkL
  have hpL:Hid (headPos L3=t.pos):=hpL
  have hL:Hid (L3=t :: l):=hL
  go_wp2_with fail
  refine Calls.mono hH ?_
  rintro e w4 ⟨tk,tx,tn,tp,rfl,hRT,hB4⟩
  have htk:tk=101:=by rw [hRT.kind,h0];rfl
  subst htk
  have hF0:=fieldR0 101 tn tp tx
  clear hRT
  have c2':=(hB4.cell (p:=⟨w1.heap.size,2,none⟩) hrb).trans c2
  have c3':=(hB4.cell (p:=⟨w1.heap.size,3,none⟩) hrb).trans r3.lost3.1
  clear c2
  have hk0:kindOf L3=0:=hkL.out.trans h0
  have k4:=k3.trans (KpR.of_below hB4 hrb)
  have hgood:Aside (∃ tr,readP (8 * T.length+5) 0 T = .ok (tr,L3)∧Rn (fun b=>W.heap.size≤b∧nbOf w3 w1.heap.size≠some b) w3 tr (.pointer (some ⟨b3,0,none⟩))∧lost3=lostF (-1) (chk tr [])):=by
   have f:=f3.out
   match hx:readP (8 * T.length+5) 0 T,f with
   | .ok (t,l),f=>obtain ⟨rfl,f⟩:=f;exact ⟨t,rfl,f⟩
   | .error r,f=>have:=f.2;rw [hk0] at this;cases this
  by_cases hl:0≤lost3
  ·have hl2:¬ lost3 < 0:=by omega
   go_wp2_with fail
   go_region
   all_goals
    go_wp2_with fail
    refine bodyPost_ret (v:=.tuple #[.pointer none,.int .i64 3,.int .i64 lost3]) (by simp [results,Tryz.results5,go_sem]) rfl ⟨?_,?_⟩
    ·first | exact (hBW k4).drew | exact hBW k4
    ·obtain ⟨tr,hx,_,hlo⟩:=hgood.out
     rw [hx]
     have:endR (.ok (tr,L3)) = .error (3,lost3):=by
      show (if kindOf L3=0 then (if 0≤chk tr [] then Except.error (3,chk tr []) else .ok tr) else _)=_
      unfold lostF at hlo
      rw [if_neg (by decide)] at hlo
      by_cases h:0≤chk tr []
      ·rw [if_pos h] at hlo
       rw [if_pos hk0,if_pos h,hlo]
      ·rw [if_neg h] at hlo
       omega
     rw [this]
  ·go_wp2_with fail
   refine bodyPost_ret (v:=.tuple #[.pointer (some ⟨b3,0,none⟩),.int .i64 0,.int .i64 0]) (by simp [results,Tryz.results5,go_sem]) rfl ⟨hBW k4,?_⟩
   obtain ⟨tr,hx,hRn,hlo⟩:=hgood.out
   rw [hx]
   have:endR (.ok (tr,L3)) = .ok tr:=by
    show (if kindOf L3=0 then (if 0≤chk tr [] then Except.error (3,chk tr []) else .ok tr) else _)=_
    unfold lostF at hlo
    rw [if_neg (by decide)] at hlo
    by_cases h:0≤chk tr []
    ·rw [if_pos h] at hlo
     omega
    ·rw [if_pos hk0,if_neg h]
   rw [this]
   exact ⟨b3,rfl,hRn.keep (fun b h _=>by have:=hB1.size;have:=h.1;omega) hB4.size (fun b _ h=>hB4.block b h)⟩
 ·have hkL:Hid (kindOf L3=t.kind):=hkL
  have hpL:Hid (headPos L3=t.pos):=hpL
  have hL:Hid (L3=t :: l):=hL
  go_wp2_with fail
  refine Calls.mono hH ?_
  rintro e w4 ⟨tk,tx,tn,tp,rfl,hRT,hB4⟩
  have htk:(tk != 101)=true:=by
   rw [hRT.kind]
   simpa using fun e=>h0 ((kb_sign hkt.k0 hkt.k7).2.2.2.2.2.2.1.1 e)
  have htk2:(tk == 101)=false:=by simpa using htk
  have hF0:=fieldR0 tk tn tp tx
  clear hRT
  have r4:=r3.below hB4
  have k4:=k3.trans (KpR.of_below hB4 hrb)
  have c2':=(hB4.cell (p:=⟨w1.heap.size,2,none⟩) hrb).trans c2
  clear c2
  go_wp2_with fail
  refine Calls.mono (wrongB r4) ?_
  rintro e w5 ⟨b5,c,rfl,k5,r5,hk5,c5,hc0⟩
  have hp:=(r5.bpos c5 hc0).1
  rw [headPos_stuck] at hp
  have hp:Aside (headPos L3=c):=hp
  have hc1:¬ c < 0:=by omega
  go_wp2_with fail
  go_region
  all_goals
   go_wp2_with fail
   refine bodyPost_ret (v:=.tuple #[.pointer none,.int .i64 2,.int .i64 c]) (by simp [results,Tryz.results5,go_sem]) rfl ⟨?_,?_⟩
   ·first | exact (hBW (k4.trans k5)).drew | exact hBW (k4.trans k5)
   ·rw [hends.out hp.out (by rw [hkL.out];exact h0)]
end Go.Proofs.Tryz
namespace Go.Proofs.Tryz
set_option maxHeartbeats 16000000
open Go.RowKit
set_option maxRecDepth 10000
def ReadG (x:Out Tn) (w:World) (e:Ending) (w':World):Prop:=Below w.heap.size w w'∧match endR x with
 | .error (c,p)=>e = .returned (.tuple #[.nilIface,.int .i64 c,.int .i64 p])
 | .ok t=>∃ v,e = .returned (.tuple #[v,.int .i64 0,.int .i64 0])∧Rf (fun b=>w.heap.size≤b) w' t v
theorem KeptB.below {r g:Nat}{a w w':World}{o:Obj} (h:KeptB r g (w.alloc o) w') (hr:a.heap.size≤r) (hg:a.heap.size≤g) (hw:a.heap.size≤w.heap.size):Below a.heap.size w w' :=
 ⟨h.os,h.tape,h.output,by have:=h.size;simp at this;omega,fun k hk=>(h.block k (by simp;omega) (by omega) (by omega)).trans ((below_alloc w o).block k (by omega))⟩
theorem read_long (s:ByteArray) (w:World) (hs:2000 < s.size):Calls Tryz.prog 7 #[.string s] w fun e w'=>e = .returned (.tuple #[.nilIface,.int .i64 2,.int .i64 0])∧w'=w:=by
 have h1:(2000:Int) < (s.size:Int):=by omega
 go_enter Tryz.func7,Tryz.ntmps7
 go_wp2_with fail
 exact bodyPost_ret (v:=.tuple #[.nilIface,.int .i64 2,.int .i64 0]) (by simp [results,Tryz.results7,go_sem]) rfl ⟨rfl,rfl⟩
theorem read_any (hI:ParsesInt) (hRS:ReadsStr RSt) (s:ByteArray) (w:World) (hs:s.size≤2000) (hS:SignsIn w) :
  Calls Tryz.prog 7 #[.string s] w (ReadG (RefRead s) w):=by
 obtain ⟨L,hL⟩:∃ L,lexT RSt s (s.size+1) 0=L:=⟨_,rfl⟩
 have hgd:=lexT_good hs (s.size+1) 0
 unfold RefRead
 rw [hL] at hgd ⊢
 have hTK:=readTokens_any hRS fits_RSt s (s.size+1) L w hs (by omega) (by omega) hS hL
 have hs1:¬ (2000:Int) < (s.size:Int):=by omega
 have hlen:L.length≤3000:=by have:=hgd.2.2;omega
 have hAG:Aside (AG L):=⟨hgd.2.1,hlen⟩
 go_enter Tryz.func7,Tryz.ntmps7
 go_wp2_with fail
 refine Calls.mono hTK ?_
 rintro e w1 ⟨g,cap,rfl,hg1,hg2,htk,hc1,hc2,k1,hfr⟩
 go_wp2_with fail
 have hk1:=k1.size
 have hrd:RdP (w1.alloc (.cells #[.slice (some ⟨g,0,none⟩) L.length cap] 58)) w1.heap.size g L :=
  ⟨⟨0,cap,box_cell _ _ _ _,hc1,hc2,by simp,by omega,by simp;omega,Toks.same ((below_alloc w1 _).block g hg2) htk⟩,fun o=>(World.frozen?_of_block (w:=w1) ((below_alloc w1 _).block g hg2)).trans (hfr o),hgd.1⟩
 refine Calls.mono (filter_reads hI hrd (by omega)) ?_
 rintro e w2 ⟨v,L',rfl,hv1,kk,r2,l2,s2,f2⟩
 have hB2:Below w.heap.size w w2:=k1.trans (KeptB.below kk hk1 hg1 hk1)
 have hne:=r2.wf.ne
 obtain ⟨tk,L2,rfl⟩:∃ tk L2,L'=tk :: L2:=by
  cases L' with
  | nil=>exact absurd rfl hne
  | cons t l=>exact ⟨t,l,rfl⟩
 have hs2:=kk.size
 obtain ⟨o,c,⟨d1,d2,d3,d4,d5,d6,⟨d7,d8,d9,_⟩⟩⟩:=r2.rd
 simp only [List.length_cons] at d1 d2
 have f2:Aside (Fn (readP (8 * L.length+5) 0 L) (tk :: L2) fun t=>Rf ((w1.alloc (.cells #[.slice (some ⟨g,0,none⟩) L.length cap] 58)).heap.size≤·) w2 t v):=f2
 have hpos:(0:Int) < ((L2.length:Nat):Int)+1:=by omega
 by_cases hk:tk.kind=0
 ·have hx:∃ t,readP (8 * L.length+5) 0 L = .ok (t,tk :: L2)∧Rf ((w1.alloc (.cells #[.slice (some ⟨g,0,none⟩) L.length cap] 58)).heap.size≤·) w2 t v:=by
   have f:=f2.out
   match hx:readP (8 * L.length+5) 0 L,f with
   | .ok (t,l),f=>obtain ⟨rfl,f⟩:=f;exact ⟨t,rfl,f⟩
   | .error r,f=>have h1:tk.kind=1:=f.2;omega
  obtain ⟨t,hx,hR⟩:=hx
  have hgt:=(read_good _ _ _ _ _ hAG.out hx).2
  obtain ⟨b,rfl,hb1,hb2⟩:=hR.shape
  have hR:Aside (Rf (fun b=>w.heap.size≤b) w2 t (.iface (typF (kindT t)) (.pointer (some ⟨b,0,none⟩)))):=hR.keep (fun b hb _=>by have hb:_≤b:=hb;simp at hb;omega) (Nat.le_refl _) (fun _ _ _=>rfl)
  obtain ⟨T,hT⟩:∃ T,typF (kindT t)=T:=⟨_,rfl⟩
  rw [hT] at hR ⊢
  have hgt:Aside (Gdt t):=hgt
  have hx:Hid _:=hx
  clear hT f2 hv1
  rw [hk] at d7
  go_wp2_with fail
  have hR3:Rf (fun b=>w.heap.size≤b) (w2.alloc (.cells #[.int .u8 0,.string tk.text,.int .i64 tk.pos] 62)) t (.iface T (.pointer (some ⟨b,0,none⟩))):=hR.out.keep (fun _ h _=>h) (by simp) (fun b _ hb=>(below_alloc w2 _).block b hb)
  refine Calls.mono (firstUnknown_any hgt.out hR3) ?_
  rintro e w3 ⟨k3,q,f,rfl,f1,f2⟩
  have hB3:Below w.heap.size w w3:=(hB2.alloc hB2.size _).trans (k3.mono (by have:=hB2.size;simp;omega))
  have hR3:Aside (Rf (fun b=>w.heap.size≤b) w3 t (.iface T (.pointer (some ⟨b,0,none⟩)))):=hR3.keep (fun _ h _=>h) k3.size (fun b _ hb=>k3.block b hb)
  have f1:Aside (f=true→chk t []=q∧0≤q):=f1
  have f2:Aside (f=false→chk t [] = -1):=f2
  cases f with
  | true =>
   go_wp2_with fail
   refine bodyPost_ret (v:=.tuple #[.nilIface,.int .i64 3,.int .i64 q]) (by simp [results,Tryz.results7,go_sem]) rfl ⟨hB3,?_⟩
   have:endR (readP (8 * L.length+5) 0 L) = .error (3,q):=by
    rw [hx.out]
    show (if tk.kind=0 then (if 0≤chk t [] then Except.error (3,chk t []) else .ok t) else _)=_
    obtain ⟨e1,e2⟩:=f1.out trivial
    rw [if_pos hk,e1,if_pos e2]
   rw [this]
  | false =>
   go_wp2_with fail
   refine bodyPost_ret (v:=.tuple #[.iface T (.pointer (some ⟨b,0,none⟩)),.int .i64 0,.int .i64 0]) (by simp [results,Tryz.results7,go_sem]) rfl ⟨hB3,?_⟩
   have:endR (readP (8 * L.length+5) 0 L) = .ok t:=by
    rw [hx.out]
    show (if tk.kind=0 then (if 0≤chk t [] then Except.error (3,chk t []) else .ok t) else _)=_
    rw [if_pos hk,f2.out trivial,if_neg (by decide)]
   rw [this]
   exact ⟨_,rfl,hR3.out⟩
 ·have hkne:(tk.kind == 0)=false:=by simpa using hk
  have hkne2:(tk.kind != 0)=true:=by simpa using hk
  have hE:Aside (endR (readP (8 * L.length+5) 0 L) = .error (2,tk.pos)):=by
   have f:=f2.out
   show endR _=_
   match hx:readP (8 * L.length+5) 0 L,f with
   | .ok (t,l),f =>
    obtain ⟨rfl,f⟩:=f
    show (if tk.kind=0 then _ else _)=_
    rw [if_neg hk]
    rfl
   | .error r,f =>
    have h1:=f.1
    show Except.error (2,headPos r)=_
    rw [← headPos_stuck r,← h1]
    rfl
  clear f2
  go_wp2_with fail
  go_quiet (fail)
  go_wp2_with fail
  refine bodyPost_ret (v:=.tuple #[.nilIface,.int .i64 2,.int .i64 tk.pos]) (by simp [results,Tryz.results7,go_sem]) rfl ⟨?_,?_⟩
  ·exact (hB2.alloc hB2.size _).trans ((below_drewN4 _ _).mono (by have:=hB2.size;simp;omega))
  ·rw [hE.out]
end Go.Proofs.Tryz
namespace Go.Proofs.Tryz
set_option maxHeartbeats 16000000
open Go.RowKit
set_option maxRecDepth 10000
theorem wL_le:∀ {l:List Tok},(∀ t∈l,Tgd t)→wL l≤12040 * l.length
 | [],_=>by simp [wL]
 | t :: l,h=>by
  have h1:=wL_le (l:=l) (fun t ht=>h t (.tail _ ht))
  have h2:=(h t (.head _)).ok.size
  rw [wL_cons,List.length_cons]
  omega
theorem read_tree {s:ByteArray} (hs:s.size≤2000) {t:Tn} (h:endR (RefRead s) = .ok t):Gdt t∧lenL (toksT t)≤1000000000:=by
 have hgd:=lexT_good hs (s.size+1) 0
 have hAG:AG (lexT RSt s (s.size+1) 0):=⟨hgd.2.1,by have:=hgd.2.2;omega⟩
 unfold endR RefRead at h
 match hx:readP (8 * (lexT RSt s (s.size+1) 0).length+5) 0 (lexT RSt s (s.size+1) 0) with
 | .error r=>rw [hx] at h;cases h
 | .ok (t',l) =>
  rw [hx] at h
  obtain ⟨h1,h2⟩:=read_good _ _ _ _ _ hAG hx
  simp only at h
  split at h
  ·split at h
   ·cases h
   ·cases h
    have h3:=h1.le
    have h4:=wL_le hgd.2.1
    have h5:=hAG.2
    exact ⟨h2,by omega⟩
  ·cases h
def PrP (x:Except (Int×Int) Tn) (w:World) (e:Ending) (w':World):Prop:=Below w.heap.size w w'∧match x with
 | .error (c,p)=>e = .returned (.tuple #[.string ⟨#[]⟩,.int .i64 c,.int .i64 p])
 | .ok t=>e = .returned (.tuple #[.string ⟨(gl (toksT t)).toArray⟩,.int .i64 0,.int .i64 0])
def ansR (s:ByteArray):Except (Int×Int) Tn:=if 2000 < s.size then .error (2,0) else endR (RefRead s)
theorem err_pos {s:ByteArray}{c p:Int} (h:ansR s = .error (c,p)):c=2∨c=3:=by
 unfold ansR at h
 split at h
 ·cases h;exact .inl rfl
 ·unfold endR at h
  split at h
  ·cases h;exact .inl rfl
  ·split at h
   ·split at h
    ·cases h;exact .inr rfl
    ·cases h
   ·cases h;exact .inl rfl
theorem read_all (hI:ParsesInt) (hRS:ReadsStr RSt) (s:ByteArray) (w:World) (hS:SignsIn w):Calls Tryz.prog 7 #[.string s] w fun e w'=>Below w.heap.size w w'∧match ansR s with
 | .error (c,p)=>e = .returned (.tuple #[.nilIface,.int .i64 c,.int .i64 p])
 | .ok t=>∃ T b,e = .returned (.tuple #[.iface T (.pointer (some ⟨b,0,none⟩)),.int .i64 0,.int .i64 0])∧Rf (fun b=>w.heap.size≤b) w' t (.iface T (.pointer (some ⟨b,0,none⟩)))∧Gdt t∧lenL (toksT t)≤1000000000:=by
 unfold ansR
 by_cases h:2000 < s.size
 ·rw [if_pos h]
  refine (read_long s w h).mono ?_
  rintro e w' ⟨rfl,rfl⟩
  exact ⟨Below.refl _ _,rfl⟩
 ·rw [if_neg h]
  refine (read_any hI hRS s w (by omega) hS).mono ?_
  rintro e w' ⟨k,hx⟩
  refine ⟨k,?_⟩
  match hh:endR (RefRead s),hx with
  | .error (c,p),hx=>exact hx
  | .ok t,⟨v,e,hr⟩ =>
   obtain ⟨b,e2,_,_⟩:=hr.shape
   subst e2
   exact ⟨_,b,e,hr,read_tree (by omega) hh⟩
theorem readR_all (hIt:ItoaAt) (s:ByteArray) (w:World) (ht:TabW w):Calls Tryz.prog 5 #[.string s] w fun e w'=>Below w.heap.size w w'∧match ansR s with
 | .error (c,p)=>e = .returned (.tuple #[.pointer none,.int .i64 c,.int .i64 p])
 | .ok t=>∃ b,e = .returned (.tuple #[.pointer (some ⟨b,0,none⟩),.int .i64 0,.int .i64 0])∧Rn (fun b=>w.heap.size≤b) w' t (.pointer (some ⟨b,0,none⟩)):=by
 unfold ansR
 by_cases h:2000 < s.size
 ·rw [if_pos h]
  refine (readFilter_long s w h).mono ?_
  rintro e w' ⟨rfl,rfl⟩
  exact ⟨Below.refl _ _,rfl⟩
 ·rw [if_neg h]
  refine (readFilter_any hIt s w (by omega) ht).mono ?_
  rintro e w' ⟨k,hx⟩
  refine ⟨k,?_⟩
  match hh:endR (RefRead s),hx with
  | .error (c,p),hx=>exact hx
  | .ok t,hx=>exact hx
theorem pretty_any (hI:ParsesInt) (hRS:ReadsStr RSt) (hA:AppendsIntY) (s:ByteArray) (w:World) (hS:SignsIn w) (ht:TabW w):Calls Tryz.prog 4 #[.string s] w (PrP (ansR s) w):=by
 have hR:=read_all hI hRS s w hS
 have hep:=fun c p=>err_pos (s:=s) (c:=c) (p:=p)
 match hx:ansR s with
 | .error (c,p) =>
  rw [hx] at hR hep
  have hc:=hep c p rfl
  clear hep hx
  have hc1:(c == 0)=false:=by rcases hc with rfl | rfl <;> rfl
  have hc2:(c != 0)=true:=by rcases hc with rfl | rfl <;> rfl
  have hR:Aside (Calls Tryz.prog 7 #[.string s] w fun e w'=>Below w.heap.size w w'∧e = .returned (.tuple #[.nilIface,.int .i64 c,.int .i64 p])):=hR
  clear hc
  go_enter Tryz.func4,Tryz.ntmps4
  go_wp2_with fail
  refine Calls.mono hR.out ?_
  rintro e w1 ⟨k1,rfl⟩
  go_wp2_with fail
  refine bodyPost_ret (v:=.tuple #[.string ⟨#[]⟩,.int .i64 c,.int .i64 p]) (by simp [results,Tryz.results4,go_sem]) rfl ⟨k1,rfl⟩
 | .ok t =>
  rw [hx] at hR
  clear hep hx
  have hR:Aside (Calls Tryz.prog 7 #[.string s] w fun e w'=>Below w.heap.size w w'∧∃ T b,e = .returned (.tuple #[.iface T (.pointer (some ⟨b,0,none⟩)),.int .i64 0,.int .i64 0])∧Rf (fun b=>w.heap.size≤b) w' t (.iface T (.pointer (some ⟨b,0,none⟩)))∧Gdt t∧lenL (toksT t)≤1000000000):=hR
  go_enter Tryz.func4,Tryz.ntmps4
  go_wp2_with fail
  refine Calls.mono hR.out ?_
  rintro e w1 ⟨k1,T,b,rfl,hr,hg,hl⟩
  have hpl:=plain_w hA hg hr hl (gl_ne (toks_good t hg).2 (toks_good t hg).1) (tab_up ht k1)
  have hpl:Aside (Calls Tryz.prog 8 #[.iface T (.pointer (some ⟨b,0,none⟩))] w1 fun e w'=>e = .returned (.string ⟨(gl (toksT t)).toArray⟩)∧Below w1.heap.size w1 w'):=hpl
  clear hr hg hl
  go_wp2_with fail
  refine Calls.mono hpl.out ?_
  rintro e w2 ⟨rfl,k2⟩
  have k3:=k1.trans (k2.mono k1.size)
  go_wp2_with fail
  refine bodyPost_ret (v:=.tuple #[.string ⟨(gl (toksT t)).toArray⟩,.int .i64 0,.int .i64 0]) (by simp [results,Tryz.results4,go_sem]) rfl ⟨k3,rfl⟩
theorem Pretties_ok (hI:ParsesInt) (hRS:ReadsStr RSt) (hA:AppendsIntY) (hIt:ItoaAt) (s:ByteArray) (w:World) (hS:SignsIn w) (ht:TabW w):Calls Tryz.prog 3 #[.string s] w fun e w'=>e = .returned (.bool true)∧Below w.heap.size w w':=by
 have hP:=pretty_any hI hRS hA s w hS ht
 have hR:∀ w1,Below w.heap.size w w1→Calls Tryz.prog 5 #[.string s] w1 fun e w'=>Below w1.heap.size w1 w'∧match ansR s with
  | .error (c,p)=>e = .returned (.tuple #[.pointer none,.int .i64 c,.int .i64 p])
  | .ok t=>∃ b,e = .returned (.tuple #[.pointer (some ⟨b,0,none⟩),.int .i64 0,.int .i64 0])∧Rn (fun b=>w1.heap.size≤b) w' t (.pointer (some ⟨b,0,none⟩)):=fun w1 k=>readR_all hIt s w1 (tab_up ht k)
 have hep:=fun c p=>err_pos (s:=s) (c:=c) (p:=p)
 have hgt:∀ t,ansR s = .ok t→Gdt t∧lenL (toksT t)≤1000000000:=fun t e=>by
  unfold ansR at e
  split at e
  ·cases e
  ·exact read_tree (by omega) e
 match hx:ansR s with
 | .error (c,p) =>
  rw [hx] at hP hR hep
  have hc:=hep c p rfl
  clear hep hx hgt
  have hc1:(c == 0)=false:=by rcases hc with rfl | rfl <;> rfl
  have hc2:(c != 0)=true:=by rcases hc with rfl | rfl <;> rfl
  have hR:Aside (∀ w1,Below w.heap.size w w1→Calls Tryz.prog 5 #[.string s] w1 fun e w'=>Below w1.heap.size w1 w'∧e = .returned (.tuple #[.pointer none,.int .i64 c,.int .i64 p])):=hR
  have hP:Aside (Calls Tryz.prog 4 #[.string s] w fun e w'=>Below w.heap.size w w'∧e = .returned (.tuple #[.string ⟨#[]⟩,.int .i64 c,.int .i64 p])):=hP
  clear hc
  go_enter Tryz.func3,Tryz.ntmps3
  go_wp2_with fail
  refine Calls.mono hP.out ?_
  rintro e w1 ⟨k1,rfl⟩
  go_wp2_with fail
  refine Calls.mono (hR.out w1 k1) ?_
  rintro e w2 ⟨k2,rfl⟩
  have k3:=k1.trans (k2.mono k1.size)
  go_wp2_with fail
  go_ret
  exact ⟨rfl,k3⟩
 | .ok t =>
  rw [hx] at hP hR
  obtain ⟨hg,hl⟩:=hgt t hx
  clear hep hx hgt
  have hR:Aside (∀ w1,Below w.heap.size w w1→Calls Tryz.prog 5 #[.string s] w1 fun e w'=>Below w1.heap.size w1 w'∧∃ b,e = .returned (.tuple #[.pointer (some ⟨b,0,none⟩),.int .i64 0,.int .i64 0])∧Rn (fun b=>w1.heap.size≤b) w' t (.pointer (some ⟨b,0,none⟩))):=hR
  obtain ⟨X,hX⟩:∃ X,gl (toksT t)=X:=⟨_,rfl⟩
  have hP:Aside (Calls Tryz.prog 4 #[.string s] w fun e w'=>Below w.heap.size w w'∧e = .returned (.tuple #[.string ⟨X.toArray⟩,.int .i64 0,.int .i64 0])):=by rw [← hX];exact hP
  have hF:Aside (∀ (a:World) (v:Value) (p:Nat→Prop),Rn p a t v→TabW a→Calls Tryz.prog 6 #[v] a fun e w'=>e = .returned (.string ⟨X.toArray⟩)∧Below a.heap.size a w'):=fun a v p hr h=>by rw [← hX];exact ref_w hIt t hg p a a v hr h (Below.refl _ _) hl
  have hT:Aside (∀ w1,Below w.heap.size w w1→TabW w1):=fun w1 k=>tab_up ht k
  clear hX hg hl
  go_enter Tryz.func3,Tryz.ntmps3
  go_wp2_with fail
  refine Calls.mono hP.out ?_
  rintro e w1 ⟨k1,rfl⟩
  go_wp2_with fail
  refine Calls.mono (hR.out w1 k1) ?_
  rintro e w2 ⟨k2,b,rfl,hr⟩
  have k3:=k1.trans (k2.mono k1.size)
  go_wp2_with fail
  refine Calls.mono (hF.out w2 _ _ hr (hT.out w2 k3)) ?_
  rintro e w3 ⟨rfl,k4⟩
  have k5:=k3.trans (k4.mono k3.size)
  clear hr
  go_wp2_with fail
  go_ret
  exact ⟨by simp,k5⟩
end Go.Proofs.Tryz
