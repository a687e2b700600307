import Derived.Test.YtbhajhlhgbnhbaaGreatDoorFs7
set_option linter.all false
namespace Go.Proofs.Tryz
set_option maxHeartbeats 16000000
open Go.RowKit
set_option maxRecDepth 10000
theorem sym_all (hC:ComparesStr):∀ K,SymOk K
 | 0=>fun w g C cap N a m b X A B Y hK _ _ _ _ _ _ hA _ _ _=>by
  have:=List.length_pos_iff.2 hA
  omega
 | K+1=>fun w g C cap N a m b X A B Y hK hM hN hl ha hm hb hA hB sA sB=>by
  have lA:=List.length_pos_iff.2 hA
  have lB:=List.length_pos_iff.2 hB
  by_cases h1:A.length=1
  ·obtain ⟨x,rfl⟩:=List.length_eq_one_iff.1 h1
   have:=sym_left hC (cap:=cap) (a:=a) (m:=m) (b:=b) hM (by omega) ha (by simpa using hm) hb sB
   rw [hN] at this
   exact this
  ·by_cases h2:B.length=1
   ·obtain ⟨y,rfl⟩:=List.length_eq_one_iff.1 h2
    have:=sym_right hC (cap:=cap) (a:=a) (m:=m) (b:=b) hM (by omega) ha hm (by simpa using hb) h1 sA
    rw [hN] at this
    exact this
   ·exact sym_gen hC (sym_all hC K) hK hM hN hl ha hm hb (by omega) (by omega) sA sB
theorem ins_ok (hC:ComparesStr) {w:World}{g C cap N a b:Nat}{X A Y:List El} (h:Mem w g C (X ++ (A ++ Y))) (hN:(X ++ (A ++ Y)).length=N) (hl:N≤10000000) (ha:X.length=a) (hb:a+A.length=b) :
  Calls Tryz.prog 276 #[.slice (some ⟨g,0,none⟩) N cap,.int .i64 a,.int .i64 b,cmpF] w fun e w'=>e = .returned (.tuple #[])∧(∃ R,StS elKey A R∧Mem w' g C (X ++ (R ++ Y)))∧Fr (· = g) w w':=by
 have hN':a+(A.length+Y.length)=N:=by rw [← hN];simp only [List.length_append,ha]
 have HM:Aside _:=h
 have HX:Hid _:=ha
 clear h hN ha
 unfold cmpF
 cases A with
 | nil =>
  simp only [List.length_nil] at hb hN'
  have hlt:¬ (a:Int)+1 < (b:Int):=by omega
  go_enter Tryz.func276,Tryz.ntmps276
  go_wp2_with fail
  refine wp_loop_rounds 1 ?_
  rw [rounds_succ]
  go_wp2_with fail
  go_end0
  exact ⟨rfl,⟨[],StS.of_srt (by simp [Srt]),HM.out⟩,Fr.refl _ _⟩
 | cons x0 A0 =>
  simp only [List.length_cons] at hb hN'
  go_enter Tryz.func276,Tryz.ntmps276
  go_wp2_with fail
  go_loopg [8] (b - a) (fun k v wr=>∃ (i:Nat) (S T D:List El),v = .int .i64 i∧Hid (i=a+S.length)∧a < i∧i≤b∧T.length+i=b∧T.length≤k∧Hid (D ++ T=x0 :: A0)∧Aside (StS elKey D S)∧Aside (Mem wr g C (X ++ (S ++ (T ++ Y))))∧Fr (· = g) w wr)
  case atStart=>exact ⟨a+1,[x0],A0,[x0],by go_num,rfl,by omega,by omega,by omega,by omega,rfl,StS.of_srt (by simp [Srt]),HM,Fr.refl _ _⟩
  case round =>
   clear HM
   obtain ⟨i,S,T,D,rfl,hi,hai,hib,hT,hk,hD,hS,hM,hfr⟩:=hrel
   cases T with
   | nil =>
    have hlt:¬ (i:Int) < (b:Int):=by simp at hT;omega
    go_wp2_with fail
    go_end0
    have e1:D=x0 :: A0:=by simpa using hD.out
    subst e1
    exact ⟨rfl,⟨S,hS.out,hM.out⟩,hfr⟩
   | cons x T =>
    obtain ⟨kx,⟨Tx,ux⟩,tx⟩:=x
    simp only [List.length_cons] at hT hk
    have hlt:(i:Int) < (b:Int):=by omega
    go_wp2_with fail
    go_loopg [9] (i - a) (fun k v wr=>∃ (j:Nat) (P Q:List El),v = .int .i64 j∧Hid (j=a+P.length)∧a≤j∧j≤i∧j - a≤k∧Hid (P ++ Q=S)∧Hid (∀ y∈Q,klt kx.data.toList (elKey y))∧Aside (Mem wr g C (X ++ (P ++ ((kx,(Tx,ux),tx) :: (Q ++ (T ++ Y))))))∧Fr (· = g) w wr)
    case atStart=>exact ⟨i,S,[],rfl,hi,by omega,by omega,by omega,show _=_ by simp,show ∀ y∈_,_ by simp,hM,hfr⟩
    case round =>
     clear hM hfr
     obtain ⟨j,P,Q,rfl,hj,haj,hji,hk2,hPQ,hQ,hM,hfr⟩:=hrel
     have mixed:Tryz.prog.follows Departure.mixedOrders=true:=by kernel_rfl
     rcases List.eq_nil_or_concat P with e | ⟨P',z,e⟩
     ·subst e
      have hja:¬ (a:Int) < (j:Int):=by have:=hj.out;simp at this;omega
      have hja3:¬ a < j:=by omega
      have hja2:decide (a < j)=false:=decide_eq_false (by omega)
      go_wp2_with fail
      go_quiet (fail)
      go_wp2_with fail
      go_roundg T.length
      case measure=>omega
      case rel =>
       have e1:Q=S:=by simpa using hPQ.out
       subst e1
       refine ⟨i+1,(kx,(Tx,ux),tx) :: Q,T,D ++ [(kx,(Tx,ux),tx)],by go_num,?_,by omega,by omega,by omega,by omega,?_,?_,?_,hfr.drewN _⟩
       ·show _=_
        have:=hi.out;simp;omega
       ·show _=_
        rw [← hD.out];simp
       ·exact sts_ins (S1:=[]) (S2:=Q) hS.out hQ.out (.inl rfl)
       ·exact hM
     ·subst e
      obtain ⟨kz,⟨Tz,uz⟩,tz⟩:=z
      simp only [List.concat_eq_append,List.length_append,List.length_singleton] at hj hPQ hM
      have hja:(a:Int) < (j:Int):=by have:=hj.out;omega
      have hja2:decide ((j:Int) > (a:Int))=true:=decide_eq_true (by omega)
      obtain ⟨d,hd⟩:∃ d,j - 1=d:=⟨_,rfl⟩
      have ed:(j:Int) - 1=(d:Int):=by omega
      have hxp:(X ++ P').length=d:=by have:=hj.out;have:=HX.out;simp;omega
      have hM':=hM.out
      simp only [List.append_assoc,List.singleton_append] at hM'
      rw [← List.append_assoc] at hM'
      have hz:((X ++ P') ++ ((kz,(Tz,uz),tz) :: ((kx,(Tx,ux),tx) :: (Q ++ (T ++ Y)))))[d]? = some (kz,(Tz,uz),tz):=by rw [← hxp];simp
      have hx:((X ++ P') ++ ((kz,(Tz,uz),tz) :: ((kx,(Tx,ux),tx) :: (Q ++ (T ++ Y)))))[j]? = some (kx,(Tx,ux),tx):=by rw [show j=d+1 by omega,← hxp,List.getElem?_append_right (by omega)];simp
      obtain ⟨z0,z1⟩:=hM'.at hz
      obtain ⟨x0',x1⟩:=hM'.at hx
      simp only [iv] at x0' x1 z0 z1
      have hjN:(j:Int) < (N:Int):=by omega
      have hdN:(d:Int) < (N:Int):=by omega
      have hj0:(0:Int)≤(j:Int):=by omega
      have hd0:(0:Int)≤(d:Int):=by omega
      have wd:IntKind.i64.wrap (d:Int)=(d:Int):=by rw [IntKind.wrap_i64];omega
      have hvl:=hM'.lt
      have HD:Hid (j=d+1):=show _=_ by omega
      clear hd
      have hcm:=memCmp_ok hC kx kz Tx Tz ux uz
      obtain ⟨cc,hcc⟩:∃ cc,Lib.compareBytes kx.data.toList kz.data.toList=cc:=⟨_,rfl⟩
      simp only [hcc] at hcm
      have HCC:Hid _:=hcc
      clear hcc
      have hM1:∀ n w1,Below (wr.drewN n).heap.size (wr.drewN n) w1→Mem w1 g C ((X ++ P') ++ ((kz,(Tz,uz),tz) :: ((kx,(Tx,ux),tx) :: (Q ++ (T ++ Y))))):=fun n w1 k1=>hM'.same ((k1.block g (by simpa using hvl)).trans rfl)
      have fr1:∀ n w1,Below (wr.drewN n).heap.size (wr.drewN n) w1→Fr (· = g) w w1:=fun n w1 k1=>(hfr.drewN n).trans (Fr.of_below (D:=(· = g)) k1) (fun _ _ e=>e)
      by_cases hc:cc < 0
      ·have hc':decide (cc < 0)=true:=by simpa using hc
       go_wp2_with fail
       go_region_held3 (fun w'=>w'.cell? ⟨g,d * 2,none⟩=some (.string kz)∧w'.cell? ⟨g,d * 2+1,none⟩=some (.iface Tz uz)∧w'.cell? ⟨g,j * 2,none⟩=some (.string kx)∧w'.cell? ⟨g,j * 2+1,none⟩=some (.iface Tx ux)) (first | exact e4 | go_keep)
        (first | (go_at_call 187;refine (hcm _).mono ?_;rintro e w1 ⟨rfl,k1⟩;have e4:w1.cell? ⟨g,d * 2,none⟩=some (.string kz)∧w1.cell? ⟨g,d * 2+1,none⟩=some (.iface Tz uz)∧w1.cell? ⟨g,j * 2,none⟩=some (.string kx)∧w1.cell? ⟨g,j * 2+1,none⟩=some (.iface Tx ux):=⟨(k1.cell (p:=⟨g,d * 2,none⟩) (by simpa using hvl)).trans (by simpa using z0),(k1.cell (p:=⟨g,d * 2+1,none⟩) (by simpa using hvl)).trans (by simpa using z1),(k1.cell (p:=⟨g,j * 2,none⟩) (by simpa using hvl)).trans (by simpa using x0'),(k1.cell (p:=⟨g,j * 2+1,none⟩) (by simpa using hvl)).trans (by simpa using x1)⟩))
       have hM2:=hM1 _ _ k1
       have fr2:=fr1 _ _ k1
       obtain ⟨a0,a1,a2,a3⟩:=e4
       have fz:=hM2.free
       clear hM1 fr1 x0' x1 z0 z1
       go_wp2_with fail
       go_big_region_o
       go_wp2_with fail
       go_roundg (d - a)
       case measure=>have:=HD.out;omega
       case rel =>
        have h2:=hM2.swap hx hz
        rw [HD.out,← hxp,swp_adj',hxp,← HD.out] at h2
        refine ⟨d,P',(kz,(Tz,uz),tz) :: Q,rfl,?_,by have:=HD.out;omega,by have:=HD.out;omega,by omega,?_,?_,?_,?_⟩
        ·show _=_
         have:=hj.out;have:=HD.out;omega
        ·show _=_
         rw [← hPQ.out];simp
        ·show ∀ y∈_,_
         intro y hy
         rcases List.mem_cons.1 hy with rfl | hy
         ·show klt _ _
          rw [klt,elKey,HCC.out];exact hc
         ·exact hQ.out y hy
        ·show Mem _ _ _ _
         rw [List.append_assoc] at h2
         exact h2
        ·exact fr_swap fr2
      ·have hc':decide (cc < 0)=false:=by simpa using hc
       go_wp2_with fail
       go_region_held3 (fun w'=>w'.cell? ⟨g,d * 2,none⟩=some (.string kz)∧w'.cell? ⟨g,d * 2+1,none⟩=some (.iface Tz uz)∧w'.cell? ⟨g,j * 2,none⟩=some (.string kx)∧w'.cell? ⟨g,j * 2+1,none⟩=some (.iface Tx ux)) (first | exact e4 | go_keep)
        (first | (go_at_call 187;refine (hcm _).mono ?_;rintro e w1 ⟨rfl,k1⟩;have e4:w1.cell? ⟨g,d * 2,none⟩=some (.string kz)∧w1.cell? ⟨g,d * 2+1,none⟩=some (.iface Tz uz)∧w1.cell? ⟨g,j * 2,none⟩=some (.string kx)∧w1.cell? ⟨g,j * 2+1,none⟩=some (.iface Tx ux):=⟨(k1.cell (p:=⟨g,d * 2,none⟩) (by simpa using hvl)).trans (by simpa using z0),(k1.cell (p:=⟨g,d * 2+1,none⟩) (by simpa using hvl)).trans (by simpa using z1),(k1.cell (p:=⟨g,j * 2,none⟩) (by simpa using hvl)).trans (by simpa using x0'),(k1.cell (p:=⟨g,j * 2+1,none⟩) (by simpa using hvl)).trans (by simpa using x1)⟩))
       have hM2:=hM1 _ _ k1
       have fr2:=fr1 _ _ k1
       clear hM1 fr1 x0' x1 z0 z1
       go_wp2_with fail
       go_roundg T.length
       case measure=>omega
       case rel =>
        refine ⟨i+1,(P' ++ [(kz,(Tz,uz),tz)]) ++ (kx,(Tx,ux),tx) :: Q,T,D ++ [(kx,(Tx,ux),tx)],by go_num,?_,by omega,by omega,by omega,by omega,?_,?_,?_,fr2⟩
        ·show _=_
         have h1:=hi.out
         have h2:=hPQ.out
         have h3:(P' ++ [(kz,(Tz,uz),tz)] ++ Q).length=S.length:=by rw [h2]
         simp at h3 ⊢
         omega
        ·show _=_
         rw [← hD.out];simp
        ·refine sts_ins (S1:=P' ++ [(kz,(Tz,uz),tz)]) (S2:=Q) (by rw [hPQ.out];exact hS.out) hQ.out (.inr ?_)
         have:kat elKey (P' ++ [(kz,(Tz,uz),tz)]) ((P' ++ [(kz,(Tz,uz),tz)]).length - 1)=kz.data.toList:=kat_some (x:=(kz,(Tz,uz),tz)) (by simp)
         rw [this,kle,elKey,HCC.out]
         omega
        ·show Mem _ _ _ _
         simpa using hM2
theorem split4 (R:List El) (a s:Nat):R=R.take a ++ (seg R a s ++ (seg R (a+s) s ++ R.drop (a+(s+s)))):=by
 conv=>lhs;rw [split3 R a (s+s),seg_add]
 rw [List.append_assoc]
theorem stable_ok (hC:ComparesStr) {w:World}{g C cap N:Nat}{L:List El} (h:Mem w g C L) (hN:L.length=N) (hl:N≤10000000) :
  Calls Tryz.prog 237 #[.slice (some ⟨g,0,none⟩) N cap,.int .i64 N,cmpF] w fun e w'=>e = .returned (.tuple #[])∧(∃ R,StS elKey L R∧Mem w' g C R)∧Fr (· = g) w w':=by
 have HM:Aside _:=h
 have HN:Hid _:=hN
 have HS:Aside _:=sym_all hC
 have HC:Aside _:=hC
 clear h hN hC
 unfold cmpF
 have hins:Aside (∀ (w1:World) (R:List El) (a b:Nat),R.length=N→a≤b→b≤N→b≤a+20→(b=a+20∨b=N)→Mem w1 g C R→Calls Tryz.prog 276 #[.slice (some ⟨g,0,none⟩) N cap,.int .i64 a,.int .i64 b,.func (.func 187) #[] #[]] w1 fun e w'=>e = .returned (.tuple #[])∧(∃ D,StS elKey (seg R a 20) D∧Mem w' g C (R.take a ++ (D ++ R.drop (a+20))))∧Fr (· = g) w1 w'):=by
  show ∀ (w1:World) (R:List El) (a b:Nat),_
  intro w1 R a b hR hab hbN hb20 hbc hM
  have e:=split3 R a 20
  refine ins_ok HC.out (X:=R.take a) (A:=seg R a 20) (Y:=R.drop (a+20)) (by rw [← e];exact hM) (by rw [← e];exact hR) hl (by simp;omega) ?_
  rw [seg_len]
  omega
 have hsym:Aside (∀ (w1:World) (R:List El) (a m b s:Nat),R.length=N→a+s=m→m < b→b≤N→0 < s→b≤a+(s+s)→(b=a+(s+s)∨b=N)→Srt elKey (seg R a s)→Srt elKey (seg R (a+s) s)→Mem w1 g C R→Calls Tryz.prog 277 #[.slice (some ⟨g,0,none⟩) N cap,.int .i64 a,.int .i64 m,.int .i64 b,.func (.func 187) #[] #[]] w1 fun e w'=>e = .returned (.tuple #[])∧(∃ D,StS elKey (seg R a s ++ seg R (a+s) s) D∧Mem w' g C (R.take a ++ (D ++ R.drop (a+(s+s)))))∧Fr (· = g) w1 w'):=by
  show ∀ (w1:World) (R:List El) (a m b s:Nat),_
  intro w1 R a m b s hR hm hmb hbN hs hb2 hbc sA sB hM
  have e:=split4 R a s
  have l1:(seg R a s).length=s:=by rw [seg_len];omega
  have l2:(seg R (a+s) s).length=b - m:=by rw [seg_len];omega
  exact HS.out _ w1 g C cap N a m b (R.take a) (seg R a s) (seg R (a+s) s) (R.drop (a+(s+s))) (Nat.le_refl _) (by rw [← e];exact hM) (by rw [← e];exact hR) hl (by simp;omega) (by omega) (by omega) (fun q=>by rw [q] at l1;simp at l1;omega) (fun q=>by rw [q] at l2;simp at l2;omega) sA sB
 clear HS HC
 go_enter Tryz.func237,Tryz.ntmps237
 go_wp2_with fail
 go_loopg [7,8] N (fun k v7 v8 wr=>∃ (a b:Nat) (R:List El),v7 = .int .i64 a∧v8 = .int .i64 b∧a+20=b∧a≤N∧N - a≤k∧Hid (∃ q,a=q * 20)∧Hid (R.length=N)∧Aside (Ini elKey L R a 20)∧Aside (Mem wr g C R)∧Fr (· = g) w wr)
 case atStart=>exact ⟨0,20,L,rfl,rfl,rfl,by omega,by omega,⟨0,rfl⟩,HN,⟨rfl,fun k hk=>by omega,rfl⟩,HM,Fr.refl _ _⟩
 case round =>
  clear HM
  obtain ⟨a,b,R,rfl,rfl,hab,haN,hk,ha,hR,hI,hM,hfr⟩:=hrel
  by_cases hbN:b≤N
  ·have hbN':(b:Int)≤(N:Int):=by omega
   go_wp2_with fail
   refine Calls.mono (hins.out wr R a b hR.out (by omega) (by omega) (by omega) (.inl hab.symm) hM.out) ?_
   rintro e w1 ⟨rfl,⟨D,sD,hMD⟩,fr1⟩
   go_wp2_with fail
   go_roundg (N - b)
   case measure=>omega
   case rel =>
    obtain ⟨q,hq⟩:=ha.out
    have hI2:=hI.out.step ⟨q,hq⟩ (by omega) (by rw [HN.out];omega) sD
    rw [hab] at hI2 hMD
    exact ⟨b,b+20,_,rfl,by go_num,rfl,hbN,by omega,⟨q+1,by omega⟩,hI2.len.trans HN.out,hI2,hMD,hfr.trans fr1 (fun _ _ e=>e)⟩
  ·have hbN':¬ (b:Int)≤(N:Int):=by omega
   go_wp2_with fail
   refine Calls.mono (hins.out wr R a N hR.out (by omega) (by omega) (by omega) (.inr rfl) hM.out) ?_
   rintro e w1 ⟨rfl,⟨D,sD,hMD⟩,fr1⟩
   have hB:∀ t,Blk elKey L (R.take a ++ (D ++ R.drop (a+20))) 0 20 t:=fun t=>by
    obtain ⟨q,hq⟩:=ha.out
    have hI2:=hI.out.step ⟨q,hq⟩ (by omega) (by rw [HN.out];omega) sD
    exact hI2.blk ⟨q+1,by omega⟩ (by rw [HN.out];omega)
   have HB:Aside _:=hB
   have hfr1:Fr (· = g) w w1:=hfr.trans fr1 (fun _ _ e=>e)
   clear hB hI hM ha hR sD hfr fr1
   go_wp2_with fail
   go_loopg [6] N (fun k v6 wr=>∃ (s:Nat) (R:List El),v6 = .int .i64 s∧20≤s∧s≤20000000∧N - s≤k∧Aside (∀ t,Blk elKey L R 0 s t)∧Aside (Mem wr g C R)∧Fr (· = g) w wr)
   case atStart=>exact ⟨20,_,rfl,by omega,by omega,by omega,HB,hMD,hfr1⟩
   case round =>
    clear HB hfr1 hMD hbN hbN' hab haN hk
    obtain ⟨s,R,rfl,hs20,hsm,hk,hB,hM,hfr⟩:=hrel
    by_cases hsN:s < N
    ·have hsN':(s:Int) < (N:Int):=by omega
     obtain ⟨s2,hs2⟩:∃ s2,s+s=s2:=⟨_,rfl⟩
     have es2:2 * (s:Int)=(s2:Int):=by omega
     have es3:(s:Int) * 2=(s2:Int):=by omega
     have hs2r:40≤s2∧s2 < N+N∧s < s2:=by omega
     have HS2:Hid _:=hs2
     clear hs2
     go_wp2_with fail
     go_loopg [7,8] N (fun k v7 v8 wr=>∃ (a b:Nat) (R:List El),v7 = .int .i64 a∧v8 = .int .i64 b∧a+s2=b∧a≤N∧N - a≤k∧Hid (∃ q,a=q * (s+s))∧Aside (Blk elKey L R a s (s+s))∧Aside (Mem wr g C R)∧Fr (· = g) w wr)
     case atStart=>exact ⟨0,s2,R,rfl,rfl,by omega,by omega,by omega,⟨0,by omega⟩,hB.out (s+s),hM,hfr⟩
     case round =>
      clear hB hM hfr
      obtain ⟨a,b,R,rfl,rfl,hab,haN,hk2,ha,hB,hM,hfr⟩:=hrel
      have hRN:R.length=N:=hB.out.len.trans HN.out
      have HRN:Hid _:=hRN
      clear hRN
      have sA:=(hB.out.left a (Nat.le_refl _) ⟨0,by omega⟩).srt
      have sB:=(hB.out.left (a+s) (by omega) ⟨1,by omega⟩).srt
      have SA:Aside _:=sA
      have SB:Aside _:=sB
      clear sA sB
      obtain ⟨m,hm⟩:∃ m,a+s=m:=⟨_,rfl⟩
      have em:(a:Int)+(s:Int)=(m:Int):=by omega
      have HMM:Hid _:=hm
      by_cases hbN:b≤N
      ·have hbN':(b:Int)≤(N:Int):=by omega
       have hmr:m < b:=by have:=HS2.out;omega
       clear hm
       go_wp2_with fail
       refine Calls.mono (hsym.out _ R a m b s HRN.out HMM.out (by omega) (by omega) (by omega) (by have:=HS2.out;omega) (.inl (by have:=HS2.out;omega)) SA.out SB.out hM.out) ?_
       rintro e w1 ⟨rfl,⟨D,sD,hMD⟩,fr1⟩
       go_wp2_with fail
       go_roundg (N - b)
       case measure=>omega
       case rel =>
        obtain ⟨q,hq⟩:=ha.out
        have hB2:=hB.out.step ⟨q,hq⟩ (by omega) sD
        have hS2:=HS2.out
        rw [show a+(s+s)=b by omega] at hB2 hMD
        exact ⟨b,b+s2,_,rfl,by go_num,rfl,hbN,by omega,⟨q+1,by rw [Nat.add_mul];omega⟩,hB2,hMD,hfr.trans fr1 (fun _ _ e=>e)⟩
      ·have hbN':¬ (b:Int)≤(N:Int):=by omega
       by_cases hmN:m < N
       ·have hmN':(m:Int) < (N:Int):=by omega
        clear hm
        go_wp2_with fail
        refine Calls.mono (hsym.out _ R a m N s HRN.out HMM.out (by omega) (by omega) (by omega) (by have:=HS2.out;omega) (.inr rfl) SA.out SB.out hM.out) ?_
        rintro e w1 ⟨rfl,⟨D,sD,hMD⟩,fr1⟩
        go_wp2_with fail
        go_roundg (N - s2)
        case measure=>omega
        case rel =>
         obtain ⟨q,hq⟩:=ha.out
         have hB2:=hB.out.step ⟨q,hq⟩ (by omega) sD
         have hS2:=HS2.out
         have hB3:∀ t,Blk elKey L _ 0 (s+s) t:=fun t=>hB2.next ⟨q+1,by rw [Nat.add_mul];omega⟩ (by rw [HN.out];omega)
         rw [hS2] at hB3
         exact ⟨s2,_,rfl,by omega,by omega,by omega,hB3,hS2 ▸ hMD,hfr.trans fr1 (fun _ _ e=>e)⟩
       ·have hmN':¬ (m:Int) < (N:Int):=by omega
        clear hm
        go_wp2_with fail
        go_roundg (N - s2)
        case measure=>omega
        case rel =>
         obtain ⟨q,hq⟩:=ha.out
         have hB2:=hB.out.last ⟨q,hq⟩ (by omega) (by rw [HN.out];have:=HMM.out;omega)
         have hS2:=HS2.out
         have hB3:∀ t,Blk elKey L _ 0 (s+s) t:=fun t=>hB2.next ⟨q+1,by rw [Nat.add_mul];omega⟩ (by rw [HN.out];omega)
         rw [hS2] at hB3
         exact ⟨s2,R,rfl,by omega,by omega,by omega,hB3,hM,hfr⟩
    ·have hsN':¬ (s:Int) < (N:Int):=by omega
     go_wp2_with fail
     go_end0
     exact ⟨rfl,⟨R,(hB.out 0).whole (by rw [HN.out];omega),hM.out⟩,hfr⟩
theorem sortStable_ok (hC:ComparesStr) {w:World}{g C cap N:Nat}{L:List El} (h:Mem w g C L) (hN:L.length=N) (hl:N≤10000000) :
  Calls Tryz.prog 186 #[.slice (some ⟨g,0,none⟩) N cap,cmpF] w fun e w'=>e = .returned (.tuple #[])∧(∃ R,StS elKey L R∧Mem w' g C R)∧Fr (· = g) w w':=by
 have hs:=stable_ok hC (cap:=cap) h hN hl
 unfold cmpF at *
 go_enter Tryz.func186,Tryz.ntmps186
 have HS:Aside _:=hs
 clear hs
 go_wp2_with fail
 refine Calls.mono HS.out ?_
 rintro e w1 ⟨rfl,hR,fr1⟩
 go_wp2_with fail
 go_end0
 exact ⟨rfl,hR,fr1⟩
def ddp {α:Type} (key:α→Bys):List α→List α
 | []=>[]
 | [x]=>[x]
 | x :: y :: r=>if key y=key x then ddp key (y :: r) else x :: ddp key (y :: r)
theorem Mem.pre {w:World}{g C:Nat}{L L':List El} (h:Mem w g C (L ++ L')):Mem w g C L:=by
 obtain ⟨cs,h0,h1,h2,h3⟩:=h
 refine ⟨cs,h0,h1,by rw [List.length_append] at h2;omega,fun i x hi=>h3 i x ?_⟩
 rw [List.getElem?_append_left (List.getElem?_eq_some_iff.1 hi).1]
 exact hi
theorem ba_ext {a b:ByteArray} (h:a.data.toList=b.data.toList):a=b:=by
 cases a;cases b
 simp at h
 simp [h]
theorem ddp_ne {x y:El}{r:List El} (h:¬ y.1=x.1):ddp elKey (x :: y :: r)=x :: ddp elKey (y :: r):=by
 rw [ddp,if_neg (fun e:elKey y=elKey x=>h (ba_ext e))]
theorem ddp_eq {x y:El}{r:List El} (h:y.1=x.1):ddp elKey (x :: y :: r)=ddp elKey (y :: r):=by
 rw [ddp,if_pos (by rw [elKey,elKey,h])]
theorem ins_nil (w:World):Calls Tryz.prog 276 #[.slice none 0 0,.int .i64 0,.int .i64 0,cmpF] w fun e w'=>e = .returned (.tuple #[])∧w'=w:=by
 unfold cmpF
 go_enter Tryz.func276,Tryz.ntmps276
 go_wp2_with fail
 refine wp_loop_rounds 1 ?_
 rw [rounds_succ]
 go_wp2_with fail
 go_end0
 exact ⟨rfl,rfl⟩
theorem stable_nil (w:World):Calls Tryz.prog 237 #[.slice none 0 0,.int .i64 0,cmpF] w fun e w'=>e = .returned (.tuple #[])∧w'=w:=by
 have hi:=ins_nil w
 unfold cmpF at *
 have HI:Aside _:=hi
 clear hi
 go_enter Tryz.func237,Tryz.ntmps237
 go_wp2_with fail
 refine wp_loop_rounds 1 ?_
 rw [rounds_succ]
 go_wp2_with fail
 refine Calls.mono HI.out ?_
 rintro e w1 ⟨rfl,hw⟩
 subst w1
 go_wp2_with fail
 refine wp_loop_rounds 1 ?_
 rw [rounds_succ]
 go_wp2_with fail
 go_end0
 exact ⟨rfl,rfl⟩
theorem sortStable_nil (w:World):Calls Tryz.prog 186 #[.slice none 0 0,cmpF] w fun e w'=>e = .returned (.tuple #[])∧w'=w:=by
 have hi:=stable_nil w
 unfold cmpF at *
 have HI:Aside _:=hi
 clear hi
 go_enter Tryz.func186,Tryz.ntmps186
 go_wp2_with fail
 refine Calls.mono HI.out ?_
 rintro e w1 ⟨rfl,hw⟩
 subst w1
 go_wp2_with fail
 go_end0
 exact ⟨rfl,rfl⟩
theorem inOrder_nil (w:World):Calls Tryz.prog 131 #[.slice none 0 0] w fun e w'=>e = .returned (.slice none 0 0)∧w'=w:=by
 have hi:=sortStable_nil w
 unfold cmpF at *
 have HI:Aside _:=hi
 clear hi
 go_enter Tryz.func131,Tryz.ntmps131
 go_wp2_with fail
 refine Calls.mono HI.out ?_
 rintro e w1 ⟨rfl,hw⟩
 subst w1
 go_wp2_with fail
 refine wp_loop_rounds 1 ?_
 rw [rounds_succ]
 go_wp2_with fail
 exact bodyPost_ret (v:=.slice none 0 0) (by simp [results,Tryz.results131,go_sem]) rfl ⟨rfl,rfl⟩
theorem inOrder_ok (hC:ComparesStr) {w:World}{g C cap N:Nat}{L:List El} (h:Mem w g C L) (hN:L.length=N) (hl:N≤10000000) (hcap:N≤cap) (hcm:cap≤9223372036854775807) :
  Calls Tryz.prog 131 #[.slice (some ⟨g,0,none⟩) N cap] w fun e w'=>e = .returned (.slice (some ⟨g,0,none⟩) (ddp elKey (sortB elKey L)).length cap)∧Mem w' g C (ddp elKey (sortB elKey L))∧Fr (· = g) w w':=by
 have hs:=sortStable_ok hC (cap:=cap) h hN hl
 unfold cmpF at hs
 obtain ⟨F,hF⟩:∃ F,ddp elKey (sortB elKey L)=F:=⟨_,rfl⟩
 rw [hF]
 go_enter Tryz.func131,Tryz.ntmps131
 have HS:Aside _:=hs
 clear hs
 go_wp2_with fail
 refine Calls.mono HS.out ?_
 rintro e w1 ⟨rfl,⟨R,sR,hM1⟩,fr1⟩
 have hR:=sortB_of_sts sR
 go_wp2_with fail
 have hRN:R.length=N:=sR.len.trans hN
 rw [← hR] at hF
 have HF:Hid _:=hF
 have HRN:Hid _:=hRN
 have HM1:Aside _:=hM1
 clear hF hR hRN hM1 sR HS h hN
 have hcm':(cap:Int)≤9223372036854775807:=by omega
 go_loopg [3,12] N (fun k v3 v12 wr=>∃ (i:Nat) (K M:List El),v12 = .int .i64 i∧v3 = .slice (some ⟨g,0,none⟩) K.length cap∧K.length≤i∧i≤N∧N - i≤k∧Aside (Mem wr g C M)∧Hid (M.length=N)∧Hid (M.take K.length=K)∧Hid (M.drop i=R.drop i)∧Hid (K ++ ddp elKey (R.drop i)=F)∧Fr (· = g) w wr)
 case atStart=>exact ⟨0,[],R,rfl,rfl,by simp,by omega,by omega,HM1,HRN,rfl,rfl,HF,fr1⟩
 case round =>
  clear HM1 fr1
  obtain ⟨i,K,M,rfl,rfl,hKi,hiN,hk,hM,hMN,hMK,hMR,hKF,hfr⟩:=hrel
  by_cases hlt:i < N
  ·have hlt':(i:Int) < (N:Int):=by omega
   have hi0:(0:Int)≤(i:Int):=by omega
   have hMi:∀ q,i≤q→M[q]? = R[q]?:=fun q hq=>by
    have:(M.drop i)[q - i]? = (R.drop i)[q - i]?:=by rw [hMR.out]
    rwa [List.getElem?_drop,List.getElem?_drop,Nat.add_sub_cancel' hq] at this
   obtain ⟨⟨kx,⟨Tx,ux⟩,tx⟩,hx⟩:∃ x,M[i]? = some x:=⟨_,List.getElem?_eq_getElem (by rw [hMN.out];omega)⟩
   obtain ⟨x0,x1⟩:=hM.out.at hx
   simp only [iv] at x0 x1
   have hvl:=hM.out.lt
   have hdr:R.drop i=(kx,(Tx,ux),tx) :: R.drop (i+1):=by
    rw [hMi i (Nat.le_refl _)] at hx
    obtain ⟨hl',he⟩:=List.getElem?_eq_some_iff.1 hx
    rw [List.drop_eq_getElem_cons hl',he]
   by_cases hlt2:i+1 < N
   ·have hlt2':(i:Int)+1 < (N:Int):=by omega
    have hi1:(0:Int)≤(i:Int)+1:=by omega
    obtain ⟨⟨ky,⟨Ty,uy⟩,ty⟩,hy⟩:∃ y,M[i+1]? = some y:=⟨_,List.getElem?_eq_getElem (by rw [hMN.out];omega)⟩
    obtain ⟨y0,y1⟩:=hM.out.at hy
    simp only [iv] at y0 y1
    have hdr2:R.drop (i+1)=(ky,(Ty,uy),ty) :: R.drop (i+2):=by
     rw [hMi (i+1) (by omega)] at hy
     obtain ⟨hl',he⟩:=List.getElem?_eq_some_iff.1 hy
     rw [List.drop_eq_getElem_cons hl',he]
    have HMI:Aside _:=hMi
    have HDR:Hid _:=hdr
    have HDR2:Hid _:=hdr2
    clear hMi hdr hdr2
    have et:((i:Int)+1).toNat=i+1:=by omega
    by_cases hkk:ky=kx
    ·subst hkk
     go_wp2_with fail
     go_quiet (fail)
     go_wp2_with fail
     go_roundg (N - (i+1))
     case measure=>omega
     case rel =>
      refine ⟨i+1,K,M,by go_num,rfl,by omega,by omega,by omega,hM.out.same ((below_alloc wr _).block g hvl),hMN,hMK,?_,?_,(hfr.alloc _).drewN _⟩
      ·show _=_
       have:=congrArg (List.drop 1) hMR.out
       rwa [List.drop_drop,List.drop_drop] at this
      ·show _=_
       rw [← hKF.out,HDR.out,HDR2.out,ddp_eq (x:=(ky,(Tx,ux),tx)) (y:=(ky,(Ty,uy),ty)) rfl]
    ·have hbe:(ky.toList == kx.toList)=false:=by
      rw [ByteArray.toList_eq,ByteArray.toList_eq]
      simpa using fun e=>hkk (ba_ext e)
     obtain ⟨⟨kz,⟨Tz,uz⟩,tz⟩,hz⟩:∃ z,M[K.length]? = some z:=⟨_,List.getElem?_eq_getElem (by rw [hMN.out];omega)⟩
     obtain ⟨z0,z1⟩:=hM.out.at hz
     simp only [iv] at z0 z1
     have fz:=hM.out.free
     have hroom:K.length+1≤cap:=by omega
     go_wp2_with fail
     go_quiet (fail)
     go_wp2_with fail
     go_roundg (N - (i+1))
     case measure=>omega
     case rel =>
      have hMb:Mem ((wr.alloc (.cells #[.string kx,.iface Tx ux] 107)).drewN nq) g C M:=hM.out.same ((below_alloc wr _).block g hvl)
      have hMc:=hMb.set (kx,(Tx,ux),tx) (i:=K.length) (by rw [hMN.out];omega)
      refine ⟨i+1,K ++ [(kx,(Tx,ux),tx)],M.set K.length (kx,(Tx,ux),tx),by go_num,by simp,by simp;omega,by omega,by omega,hMc.same (Below.heap_alloc _ _ _ (by simp;omega)),?_,?_,?_,?_,((((hfr.alloc _).drewN _).setCell _ (.inl rfl)).setCell _ (.inl rfl)).alloc _⟩
      ·show _=_
       rw [List.length_set];exact hMN.out
      ·show _=_
       have hlk:K.length < M.length:=by rw [hMN.out];omega
       rw [List.length_append,List.length_singleton,List.take_succ,List.take_set_of_le (Nat.le_refl _),hMK.out,List.getElem?_set_self hlk]
       rfl
      ·show _=_
       rw [List.drop_set_of_lt (by omega)]
       have:=congrArg (List.drop 1) hMR.out
       rwa [List.drop_drop,List.drop_drop] at this
      ·show _=_
       rw [← hKF.out,HDR.out,HDR2.out,ddp_ne (x:=(kx,(Tx,ux),tx)) (y:=(ky,(Ty,uy),ty)) hkk];simp
   ·have hlt2':¬ (i:Int)+1 < (N:Int):=by omega
    have hdr2:R.drop (i+1)=[]:=by
     have:=HRN.out
     simp;omega
    have HDR:Hid _:=hdr
    have HDR2:Hid _:=hdr2
    clear hMi hdr hdr2
    have hd2:decide ((i:Int)+1 < (N:Int))=false:=decide_eq_false hlt2'
    obtain ⟨⟨kz,⟨Tz,uz⟩,tz⟩,hz⟩:∃ z,M[K.length]? = some z:=⟨_,List.getElem?_eq_getElem (by rw [hMN.out];omega)⟩
    obtain ⟨z0,z1⟩:=hM.out.at hz
    simp only [iv] at z0 z1
    have fz:=hM.out.free
    have hroom:K.length+1≤cap:=by omega
    go_wp2_with fail
    go_quiet (fail)
    go_wp2_with fail
    go_roundg (N - (i+1))
    case measure=>omega
    case rel =>
     have hMb:Mem ((wr.alloc (.cells #[.string kx,.iface Tx ux] 107)).drewN nq) g C M:=hM.out.same ((below_alloc wr _).block g hvl)
     have hMc:=hMb.set (kx,(Tx,ux),tx) (i:=K.length) (by rw [hMN.out];omega)
     refine ⟨i+1,K ++ [(kx,(Tx,ux),tx)],M.set K.length (kx,(Tx,ux),tx),by go_num,by simp,by simp;omega,by omega,by omega,hMc.same (Below.heap_alloc _ _ _ (by simp;omega)),?_,?_,?_,?_,((((hfr.alloc _).drewN _).setCell _ (.inl rfl)).setCell _ (.inl rfl)).alloc _⟩
     ·show _=_
      rw [List.length_set];exact hMN.out
     ·show _=_
      have hlk:K.length < M.length:=by rw [hMN.out];omega
      rw [List.length_append,List.length_singleton,List.take_succ,List.take_set_of_le (Nat.le_refl _),hMK.out,List.getElem?_set_self hlk]
      rfl
     ·show _=_
      rw [List.drop_set_of_lt (by omega)]
      have:=congrArg (List.drop 1) hMR.out
      rwa [List.drop_drop,List.drop_drop] at this
     ·show _=_
      rw [← hKF.out,HDR.out,HDR2.out];simp [ddp]
  ·have hlt':¬ (i:Int) < (N:Int):=by omega
   go_wp2_with fail
   obtain rfl:i=N:=by omega
   have e1:K=F:=by
    rw [← hKF.out,List.drop_eq_nil_of_le (by rw [HRN.out];omega)]
    simp [ddp]
   subst e1
   refine bodyPost_ret (v:=.slice (some ⟨g,0,none⟩) K.length cap) (by simp [results,Tryz.results131,go_sem]) rfl ⟨rfl,?_,hfr⟩
   have h2:M=K ++ M.drop K.length:=by
    conv=>lhs;rw [← List.take_append_drop K.length M,hMK.out]
   have h3:=hM.out
   rw [h2] at h3
   exact h3.pre
def hexC (n:Nat):UInt8:=if n < 10 then UInt8.ofNat (48+n) else UInt8.ofNat (87+n)
def escB (c:UInt8):Bys :=
 if c=34∨c=92 then [92,c] else if c=8 then [92,98] else if c=9 then [92,116] else if c=10 then [92,110]
 else if c=12 then [92,102] else if c=13 then [92,114] else if c < 32 then [92,117,48,48,hexC (c.toNat / 16),hexC (c.toNat % 16)] else [c]
def quoteL (bs:Bys):Bys:=34 :: (bs.flatMap escB ++ [34])
def joinT:List Bys→Bys
 | []=>[]
 | [t]=>t
 | t :: u :: r=>t ++ 44 :: joinT (u :: r)
def arrT (ts:List Bys):Bys:=91 :: (joinT ts ++ [93])
def memT (m:Bys×Bys):Bys:=quoteL m.1 ++ 58 :: m.2
def objT (ms:List (Bys×Bys)):Bys:=123 :: (joinT (ms.map memT) ++ [125])
def boolT (b:Bool):Bys:=if b then [116,114,117,101] else [102,97,108,115,101]
def TailOk:Bys→Int→Int→Prop
 | [],_,_=>True
 | x :: r,lo,hi=>lo≤(x.toNat:Int)∧(x.toNat:Int)≤hi∧TailOk r 128 191
def Chunk (c:Bys):Prop:=∃ b tl,c=b :: tl∧(followV b.toNat).2.2=tl.length∧TailOk tl (followV b.toNat).1 (followV b.toNat).2.1
def UStr (t:Bys):Prop:=∃ cs:List Bys,t=cs.flatten∧∀ c∈cs,Chunk c
def leafV (v:IV) (c:Bys):Prop :=
 (v=(95,.agg #[])∧c=[110,117,108,108])∨(∃ b,v=(96,.bool b)∧c=boolT b)∨
 (∃ n,-9223372036854775808≤n∧n≤9223372036854775807∧v=(98,.int .i64 n)∧c=Lib.itoa n)∨
 (∃ t:ByteArray,(t.size≤50000000∧UStr t.data.toList)∧v=(100,.string t)∧c=quoteL t.data.toList)
def itC (x:IV×Bys):Value:=iv x.1
def elC (x:El):List Value:=[.string x.1,iv x.2.1]
def RiseE (ms:List El):Prop:=ms.Pairwise (fun x y=>klt (elKey x) (elKey y))
def RepV (w:World) (P:Nat→Prop):Nat→IV→Bys→Prop
 | 0,v,c=>leafV v c
 | d+1,v,c=>leafV v c∨
   (∃ (r:Value) (its:List (IV×Bys)),v=(86,r)∧w.ownsRow 0 32 1 r its.length (its.map itC)∧(∀ g,r.ownBlock=some g→P g)∧(∀ x∈its,RepV w P d x.1 x.2)∧c=arrT (its.map (·.2)))∨
   (∃ (r:Value) (ms:List El),v=(102,r)∧w.ownsRow 0 107 2 r ms.length (ms.flatMap elC)∧(∀ g,r.ownBlock=some g→P g)∧(∀ x∈ms,RepV w P d x.2.1 x.2.2)∧c=objT (ms.map fun x=>(elKey x,x.2.2))∧RiseE ms)
theorem RepV.mono {w w':World}{P P':Nat→Prop} (h:∀ g,P g→P' g∧w'.heap[g]? = w.heap[g]?):∀ {d:Nat}{v:IV}{c:Bys},RepV w P d v c→RepV w' P' d v c
 | 0,_,_,hr=>hr
 | d+1,v,c,hr=>by
  rcases hr with hr | ⟨r,its,e,ow,hp,hi,hc⟩ | ⟨r,ms,e,ow,hp,hi,hc,hs⟩
  ·exact .inl hr
  ·exact .inr (.inl ⟨r,its,e,owns_same ow (fun k hk=>(h k (hp k hk)).2),fun g hg=>(h g (hp g hg)).1,fun x hx=>RepV.mono h (hi x hx),hc⟩)
  ·exact .inr (.inr ⟨r,ms,e,owns_same ow (fun k hk=>(h k (hp k hk)).2),fun g hg=>(h g (hp g hg)).1,fun x hx=>RepV.mono h (hi x hx),hc,hs⟩)
theorem RepV.up {w:World}{P:Nat→Prop}:∀ {d:Nat}{v:IV}{c:Bys},RepV w P d v c→RepV w P (d+1) v c
 | 0,_,_,hr=>.inl hr
 | d+1,v,c,hr=>by
  rcases hr with hr | ⟨r,its,e,ow,hp,hi,hc⟩ | ⟨r,ms,e,ow,hp,hi,hc,hs⟩
  ·exact .inl hr
  ·exact .inr (.inl ⟨r,its,e,ow,hp,fun x hx=>RepV.up (hi x hx),hc⟩)
  ·exact .inr (.inr ⟨r,ms,e,ow,hp,fun x hx=>RepV.up (hi x hx),hc,hs⟩)
theorem RepV.upTo {w:World}{P:Nat→Prop}{d:Nat}{v:IV}{c:Bys} (h:RepV w P d v c):∀ k,RepV w P (d+k) v c
 | 0=>h
 | k+1=>(RepV.upTo h k).up
def Vl (w:World) (P:Nat→Prop) (v:IV) (c:Bys):Prop:=∃ d,RepV w P d v c
theorem Vl.mono {w w':World}{P P':Nat→Prop}{v:IV}{c:Bys} (hr:Vl w P v c) (h:∀ g,P g→P' g∧w'.heap[g]? = w.heap[g]?):Vl w' P' v c:=by
 obtain ⟨d,hd⟩:=hr
 exact ⟨d,hd.mono h⟩
theorem Vl.leaf {w:World}{P:Nat→Prop}{v:IV}{c:Bys} (h:leafV v c):Vl w P v c:=⟨0,h⟩
theorem all_deep {α:Type}{w:World}{P:Nat→Prop} (f:α→IV) (g:α→Bys):∀ (l:List α),(∀ x∈l,Vl w P (f x) (g x))→∃ d,∀ x∈l,RepV w P d (f x) (g x)
 | [],_=>⟨0,by simp⟩
 | x :: l,h=>by
  obtain ⟨d,hd⟩:=all_deep f g l (fun y hy=>h y (by simp [hy]))
  obtain ⟨k,hk⟩:=h x (by simp)
  refine ⟨d+k,fun y hy=>?_⟩
  rcases List.mem_cons.1 hy with rfl | hy
  ·rw [Nat.add_comm];exact hk.upTo d
  ·exact (hd y hy).upTo k
theorem owns_zero {w:World}{N e s n:Nat}{v:Value}{xs:List Value} (h:w.ownsRow N e s v n xs):w.ownsRow 0 e s v n xs:=by
 obtain ⟨hl,h | ⟨g',c',cur,rfl,a,b,c⟩⟩:=h
 ·exact ⟨hl,.inl h⟩
 ·exact ⟨hl,.inr ⟨g',c',cur,rfl,Nat.zero_le _,b,c⟩⟩
theorem Vl.arr {w:World}{P:Nat→Prop}{N:Nat}{r:Value}{its:List (IV×Bys)} (ow:w.ownsRow N 32 1 r its.length (its.map itC)) (hp:∀ g,r.ownBlock=some g→P g) (hi:∀ x∈its,Vl w P x.1 x.2):Vl w P (86,r) (arrT (its.map (·.2))):=by
 obtain ⟨d,hd⟩:=all_deep (·.1) (·.2) its hi
 exact ⟨d+1,.inr (.inl ⟨r,its,rfl,owns_zero ow,hp,hd,rfl⟩)⟩
theorem Vl.obj {w:World}{P:Nat→Prop}{N:Nat}{r:Value}{ms:List El} (ow:w.ownsRow N 107 2 r ms.length (ms.flatMap elC)) (hp:∀ g,r.ownBlock=some g→P g) (hi:∀ x∈ms,Vl w P x.2.1 x.2.2) (hs:RiseE ms):Vl w P (102,r) (objT (ms.map fun x=>(elKey x,x.2.2))):=by
 obtain ⟨d,hd⟩:=all_deep (fun x:El=>x.2.1) (fun x=>x.2.2) ms hi
 exact ⟨d+1,.inr (.inr ⟨r,ms,rfl,owns_zero ow,hp,hd,rfl,hs⟩)⟩
structure Hd where
 obj:Bool
 row:Value
 key:ByteArray
 its:List (IV×Bys)
 ms:List El
def Hd.cells (h:Hd):List Value:=[.int .u8 (if h.obj then 125 else 93),if h.obj then .slice none 0 0 else h.row,if h.obj then h.row else .slice none 0 0,.string h.key]
def HOk (w:World) (vb:Nat) (P:Nat→Prop) (h:Hd):Prop :=
 if h.obj then w.ownsRow (vb+1) 107 2 h.row h.ms.length (h.ms.flatMap elC)∧∀ x∈h.ms,Vl w P x.2.1 x.2.2
 else w.ownsRow (vb+1) 32 1 h.row h.its.length (h.its.map itC)∧∀ x∈h.its,Vl w P x.1 x.2
theorem HOk.mono {w w':World}{vb:Nat}{P P':Nat→Prop}{h:Hd} (ok:HOk w vb P h) (hr:∀ g,h.row.ownBlock=some g→w'.heap[g]? = w.heap[g]?) (hp:∀ g,P g→P' g∧w'.heap[g]? = w.heap[g]?):HOk w' vb P' h:=by
 unfold HOk at *
 split
 ·rename_i ho
  rw [if_pos ho] at ok
  exact ⟨owns_same ok.1 hr,fun x hx=>(ok.2 x hx).mono hp⟩
 ·rename_i ho
  rw [if_neg ho] at ok
  exact ⟨owns_same ok.1 hr,fun x hx=>(ok.2 x hx).mono hp⟩
theorem HOk.range {w:World}{vb:Nat}{P:Nat→Prop}{h:Hd} (ok:HOk w vb P h):∀ g,h.row.ownBlock=some g→vb < g∧g < w.heap.size:=by
 unfold HOk at ok
 intro g hg
 split at ok
 ·exact ok.1.lt g hg
 ·exact ok.1.lt g hg
def Mut (hs:List Hd) (ov:Value) (b:Nat):Prop:=ov.ownBlock=some b∨∃ h∈hs,h.row.ownBlock=some b
def Done (w:World) (vb:Nat) (ov:Value) (hs:List Hd) (b:Nat):Prop:=vb < b∧b < w.heap.size∧¬ Mut hs ov b
def Apart (h k:Hd):Prop:=∀ b,h.row.ownBlock=some b→k.row.ownBlock≠some b
structure Stk (w:World) (vb:Nat) (ov:Value) (hs:List Hd):Prop where
 own:w.ownsRow (vb+1) 89 4 ov hs.length (hs.flatMap Hd.cells)
 ok:∀ h∈hs,HOk w vb (Done w vb ov hs) h
 apart:hs.Pairwise Apart
theorem Stk.frame {w w':World}{vb:Nat}{ov:Value}{hs:List Hd} (h:Stk w vb ov hs) (hb:∀ b,vb < b→b < w.heap.size→w'.heap[b]? = w.heap[b]?) (hz:w.heap.size≤w'.heap.size):Stk w' vb ov hs:=by
 refine ⟨owns_same h.own (fun k hk=>hb k (h.own.lt k hk).1 (h.own.lt k hk).2),fun x hx=>(h.ok x hx).mono (fun g hg=>hb g ((h.ok x hx).range g hg).1 ((h.ok x hx).range g hg).2) (fun g hg=>⟨⟨hg.1,Nat.lt_of_lt_of_le hg.2.1 hz,hg.2.2⟩,hb g hg.1 hg.2.1⟩),h.apart⟩
theorem Vl.frame {w w':World}{vb:Nat}{ov:Value}{hs:List Hd}{v:IV}{c:Bys} (h:Vl w (Done w vb ov hs) v c) (hb:∀ b,vb < b→b < w.heap.size→w'.heap[b]? = w.heap[b]?) (hz:w.heap.size≤w'.heap.size):Vl w' (Done w' vb ov hs) v c :=
 h.mono (fun g hg=>⟨⟨hg.1,Nat.lt_of_lt_of_le hg.2.1 hz,hg.2.2⟩,hb g hg.1 hg.2.1⟩)
theorem Fr.vb {w w':World}{vb:Nat} (h:Fr (· = vb) w w'):∀ b,vb < b→b < w.heap.size→w'.heap[b]? = w.heap[b]?:=fun b h1 h2=>h.block b h2 (by omega)
theorem cells_len (hs:List Hd):(hs.flatMap Hd.cells).length=hs.length * 4:=by
 induction hs with
 | nil=>rfl
 | cons h t ih=>rw [List.flatMap_cons,List.length_append,ih];simp [Hd.cells];omega
theorem els_len (ms:List El):(ms.flatMap elC).length=ms.length * 2:=by
 induction ms with
 | nil=>rfl
 | cons h t ih=>rw [List.flatMap_cons,List.length_append,ih];simp [elC];omega
theorem stk_nil (w:World) (vb:Nat):Stk w vb (.slice none 0 0) []:=⟨World.ownsRow_nil _ _ _ _,by simp,by simp⟩
def InT (s:ByteArray) (x:Int):Prop:=∃ p:Nat,x=p∧p≤s.size
theorem half_place {s:ByteArray}{start:Nat}{first:Int}:∀ (k i:Nat) (sec:Int),i+k=6→start+6+i≤s.size→InT s (halfL s start first k i sec).2.1
 | 0,i,sec,hik,hle=>⟨start+12,by simp only [halfL];omega,by omega⟩
 | k+1,i,sec,hik,hle=>by
  rw [halfL]
  split
  ·exact ⟨start+6+i,by simp only;omega,by omega⟩
  ·split
   ·split
    ·exact half_place k (i+1) sec (by omega) (by omega)
    ·exact ⟨start,rfl,by omega⟩
   ·split
    ·split
     ·exact half_place k (i+1) sec (by omega) (by omega)
     ·exact ⟨start,rfl,by omega⟩
    ·split
     ·split
      ·exact half_place k (i+1) _ (by omega) (by omega)
      ·exact ⟨start,rfl,by omega⟩
     ·exact ⟨start,rfl,by omega⟩
theorem uni_place {s:ByteArray}{start:Nat}:∀ (k i:Nat) (ch:Int),i+k=4→start+2+i≤s.size→InT s (uniL s start k i ch).2.1
 | 0,i,ch,hik,hle=>by
  rw [uniL]
  split
  ·exact ⟨start+6,by simp only;omega,by omega⟩
  ·split
   ·exact ⟨start+6,by simp only;omega,by omega⟩
   ·exact half_place 6 0 0 rfl (by omega)
 | k+1,i,ch,hik,hle=>by
  rw [uniL]
  split
  ·exact ⟨start+2+i,by simp only;omega,by omega⟩
  ·split
   ·exact ⟨start+2+i,by simp only;omega,by omega⟩
   ·split
    ·split
     ·exact ⟨start,rfl,by omega⟩
     ·exact uni_place k (i+1) _ (by omega) (by omega)
    ·exact uni_place k (i+1) _ (by omega) (by omega)
theorem esc_place {s:ByteArray}{a:Nat} (h:a < s.size):InT s (escV s a).2.1:=by
 unfold escV
 split
 ·exact ⟨s.size,rfl,Nat.le_refl _⟩
 ·unfold escC
  repeat' split
  all_goals first
   | exact uni_place 4 0 0 rfl (by omega)
   | exact ⟨a+2,by simp only;omega,by omega⟩
   | exact ⟨a+1,by simp only;omega,by omega⟩
theorem tail_place {s:ByteArray}:∀ (k a:Nat) (lo hi:Int),a≤s.size→a≤(tailL s k a lo hi).1∧(tailL s k a lo hi).1≤s.size
 | 0,a,_,_,h=>⟨Nat.le_refl _,h⟩
 | k+1,a,lo,hi,h=>by
  rw [tailL]
  split
  ·exact ⟨Nat.le_refl _,h⟩
  ·split
   ·exact ⟨Nat.le_refl _,h⟩
   ·split
    ·exact ⟨Nat.le_refl _,h⟩
    ·have:=tail_place (s:=s) k (a+1) 128 191 (by omega)
     omega
theorem str_place {s:ByteArray}:∀ (k a:Nat) (cs:List UInt8),a≤s.size→InT s (strL s k a cs).2.1
 | 0,a,cs,h=>⟨a,rfl,h⟩
 | k+1,a,cs,h=>by
  rw [strL]
  split
  ·exact ⟨a,rfl,h⟩
  ·split
   ·exact ⟨a+1,by simp only;omega,by omega⟩
   ·split
    ·exact ⟨a,rfl,h⟩
    ·split
     ·obtain ⟨p,hp,hp2⟩:=esc_place (s:=s) (a:=a) (by omega)
      split
      ·rw [hp,Int.toNat_natCast]
       exact str_place k p _ hp2
      ·exact ⟨p,hp,hp2⟩
     ·split
      ·exact ⟨a,rfl,h⟩
      ·have ht:=tail_place (s:=s) (followV (byteAt s a)).2.2.toNat (a+1) (followV (byteAt s a)).1 (followV (byteAt s a)).2.1 (by omega)
       split
       ·exact str_place k _ _ ht.2
       ·exact ⟨_,rfl,ht.2⟩
theorem enc_len (r:Int):(Lib.encodeRune r).length≤4:=by have:=(Lib.runeCells_le r).2;rw [Lib.runeCells_length] at this;exact this
theorem str_len {s:ByteArray}:∀ (k a:Nat) (cs:List UInt8),a≤s.size→(strL s k a cs).1.length≤cs.length+4 * k
 | 0,a,cs,h=>by simp [strL]
 | k+1,a,cs,h=>by
  rw [strL]
  split
  ·simp
  ·split
   ·simp only;omega
   ·split
    ·simp
    ·split
     ·obtain ⟨p,hp,hp2⟩:=esc_place (s:=s) (a:=a) (by omega)
      split
      ·rw [hp,Int.toNat_natCast]
       have:=str_len k p (cs ++ Lib.encodeRune (escV s a).1) hp2
       have h4:=enc_len (escV s a).1
       rw [List.length_append] at this
       omega
      ·simp
     ·split
      ·simp
      ·have ht:=tail_place (s:=s) (followV (byteAt s a)).2.2.toNat (a+1) (followV (byteAt s a)).1 (followV (byteAt s a)).2.1 (by omega)
       have hl:(tailL s (followV (byteAt s a)).2.2.toNat (a+1) (followV (byteAt s a)).1 (followV (byteAt s a)).2.1).1 - a≤4:=by
        have:=tail_le (s:=s) (followV (byteAt s a)).2.2.toNat (a+1) (followV (byteAt s a)).1 (followV (byteAt s a)).2.1
        rcases follow_range (byteAt s a) with e | ⟨m,hm,e⟩
        ·rw [e] at this ⊢;simp at this ⊢;omega
        ·rw [e] at this ⊢;simp at this ⊢;omega
       split
       ·have:=str_len k _ (cs ++ ((s.data.toList.drop a).take ((tailL s (followV (byteAt s a)).2.2.toNat (a+1) (followV (byteAt s a)).1 (followV (byteAt s a)).2.1).1 - a))) ht.2
        rw [List.length_append,List.length_take] at this
        omega
       ·simp
where
 tail_le {s:ByteArray}:∀ (k a:Nat) (lo hi:Int),(tailL s k a lo hi).1≤a+k
  | 0,a,_,_=>Nat.le_refl _
  | k+1,a,lo,hi=>by
   rw [tailL]
   split
   ·omega
   ·split
    ·omega
    ·split
     ·omega
     ·have:=tail_le (s:=s) k (a+1) 128 191
      omega
def strAt (s:ByteArray) (a:Nat):List UInt8×Nat×Bool:=((strL s (s.size+1) (a+1) []).1,(strL s (s.size+1) (a+1) []).2.1.toNat,(strL s (s.size+1) (a+1) []).2.2)
theorem strAt_le {s:ByteArray}{a:Nat} (h:a < s.size):(strAt s a).2.1≤s.size:=by
 obtain ⟨p,hp,hp2⟩:=str_place (s:=s) (s.size+1) (a+1) [] (by omega)
 unfold strAt
 simp only [hp,Int.toNat_natCast]
 exact hp2
theorem readString_ok (hA:AppendsRune) {w:World}{vb a:Nat}{s:ByteArray}{ov:Value} (h:VBlk w vb s a ov) (ha:a < s.size) (hm:s.size≤10000000) :
  Calls Tryz.prog 69 #[.pointer (some ⟨vb,0,none⟩)] w fun e w'=>(∃ t:ByteArray,e = .returned (.tuple #[.string t,.bool (strAt s a).2.2])∧t.data.toList=(strAt s a).1)∧VBlk w' vb s (strAt s a).2.1 ov∧Fr (· = vb) w w':=by
 obtain ⟨c0,c1,c2,f0,f1,f2,hl⟩:=three_facts' h
 have hs:=string_ok hA s a ha hm
 obtain ⟨p,hp,hp2⟩:=str_place (s:=s) (s.size+1) (a+1) [] (by omega)
 unfold strAt
 simp only [hp,Int.toNat_natCast] at hs ⊢
 obtain ⟨B,hB⟩:∃ B,(strL s (s.size+1) (a+1) []).2.2=B:=⟨_,rfl⟩
 obtain ⟨T,hT⟩:∃ T,(strL s (s.size+1) (a+1) []).1=T:=⟨_,rfl⟩
 simp only [hB,hT] at hs ⊢
 have HS:Aside _:=hs
 clear hs hB hT hp
 go_enter Tryz.func69,Tryz.ntmps69
 go_wp2_with fail
 go_region_held3 (fun w'=>w'.cell? ⟨vb,0,none⟩=some (.string s)∧w'.cell? ⟨vb,1,none⟩=some (.int .i64 a)∧w'.frozen? ⟨vb,1,none⟩=false) (first | exact e4 | go_keep)
  (first | (go_at_call 81;refine Calls.mono (HS.out _) ?_;rintro e w1 ⟨k1,t,rfl,ht⟩;have e4:w1.cell? ⟨vb,0,none⟩=some (.string s)∧w1.cell? ⟨vb,1,none⟩=some (.int .i64 a)∧w1.frozen? ⟨vb,1,none⟩=false:=⟨(k1.cell (p:=⟨vb,0,none⟩) (by simpa using hl)).trans (by simpa using c0),(k1.cell (p:=⟨vb,1,none⟩) (by simpa using hl)).trans (by simpa using c1),(World.frozen?_of_block (k1.block vb (by simpa using hl))).trans (by simpa using f1)⟩))
 go_wp2_with fail
 go_ret2
 exact ⟨⟨t,rfl,ht⟩,(h.same (k1.block _ (by simpa using hl))).set,(((Fr.refl (· = vb) w).drewN _).trans (Fr.of_below (D:=(· = vb)) k1) (fun _ _ e=>e)).setCell _ (.inl rfl)⟩
end Go.Proofs.Tryz
