import Derived.Test.YtbhajhlhgbnhbaaGreatDoorFx9
set_option linter.all false
namespace Go.Proofs.Tryz
set_option maxHeartbeats 16000000
open Go.RowKit
set_option maxRecDepth 10000
theorem sym_right (hC:ComparesStr) {w:World}{g C cap a m b:Nat}{X A Y:List El}{y:El} (h:Mem w g C (X ++ (A ++ ([y] ++ Y)))) (hl:(X ++ (A ++ ([y] ++ Y))).length≤10000000) (ha:X.length=a) (hm:a+A.length=m) (hb:m+1=b) (hA1:A.length≠1) (hA:Srt elKey A) :
  Calls Tryz.prog 277 #[.slice (some ⟨g,0,none⟩) (X ++ (A ++ ([y] ++ Y))).length cap,.int .i64 a,.int .i64 m,.int .i64 b,cmpF] w fun e w'=>e = .returned (.tuple #[])∧(∃ R,StS elKey (A ++ [y]) R∧Mem w' g C (X ++ (R ++ Y)))∧Fr (· = g) w w':=by
 obtain ⟨L,hL⟩:∃ L,X ++ (A ++ ([y] ++ Y))=L:=⟨_,rfl⟩
 obtain ⟨N,hN⟩:∃ N,L.length=N:=⟨_,rfl⟩
 have hN':a+(A.length+(1+Y.length))=N:=by rw [← hN,← hL];simp only [List.length_append,ha,List.length_singleton]
 rw [hL] at h hl ⊢
 rw [hN] at hl ⊢
 have hxm:L[m]? = some y:=by
  rw [← hL,← hm,← ha,List.getElem?_append_right (by omega),List.getElem?_append_right (by omega),Nat.add_sub_cancel_left]
  simp
 have HL:Hid _:=hL
 have HN:Hid _:=hN
 have HM:Aside _:=h
 have HX:Hid _:=hxm
 obtain ⟨ky,⟨Ty,uy⟩,ty⟩:=y
 clear hL hN h hxm
 have em:((m:Int) - (a:Int) == 1)=false:=by simp;omega
 have eb:(b:Int) - (m:Int)=1:=by omega
 unfold cmpF
 go_enter Tryz.func277,Tryz.ntmps277
 go_wp2_with fail
 go_loopg [14,15] (m - a) (fun k v1 v2 wr=>∃ (i j:Nat),v1 = .int .i64 i∧v2 = .int .i64 j∧a≤i∧i≤j∧j≤m∧j - i≤k∧Aside (Mem wr g C L)∧Fr (· = g) w wr∧Hid (i=a∨kle (kat elKey L (i - 1)) ky.data.toList)∧Hid (j=m∨klt ky.data.toList (kat elKey L j)))
 case atStart=>exact ⟨a,m,rfl,rfl,by omega,by omega,by omega,by omega,HM,Fr.refl _ _,.inl rfl,.inl rfl⟩
 case round =>
  clear HM
  obtain ⟨i,j,rfl,rfl,hmi,hij,hjb,hk,hM,hfr,hi,hj⟩:=hrel
  by_cases hlt:i < j
  ·have hlt':(i:Int) < (j:Int):=by omega
   obtain ⟨q,hq⟩:∃ q,(i+j) / 2=q:=⟨_,rfl⟩
   obtain ⟨⟨kx,⟨Tx,ux⟩,tx⟩,hx⟩:∃ x,L[q]? = some x:=⟨_,List.getElem?_eq_getElem (by rw [HN.out];omega)⟩
   obtain ⟨y0,y1⟩:=hM.out.at HX.out
   obtain ⟨x0,x1⟩:=hM.out.at hx
   simp only [iv] at x0 x1 y0 y1
   have hql:(q:Int) < (N:Int):=by omega
   have hq0:(0:Int)≤(q:Int):=by omega
   have hml:(m:Int) < (N:Int):=by omega
   have hvl:=hM.out.lt
   have eq:((i:Int)+(j:Int)) / 2=(q:Int):=by omega
   have HQ:Hid _:=hq
   clear hq
   have hcm:=memCmp_ok hC ky kx Ty Tx uy ux
   obtain ⟨cc,hcc⟩:∃ cc,Lib.compareBytes ky.data.toList kx.data.toList=cc:=⟨_,rfl⟩
   simp only [hcc] at hcm
   have HCC:Hid _:=hcc
   clear hcc
   have hM1:∀ n w1,Below (wr.drewN n).heap.size (wr.drewN n) w1→Mem w1 g C L:=fun n w1 k1=>hM.out.same ((k1.block g (by simpa using hvl)).trans rfl)
   have fr1:∀ n w1,Below (wr.drewN n).heap.size (wr.drewN n) w1→Fr (· = g) w w1:=fun n w1 k1=>(hfr.drewN n).trans (Fr.of_below (D:=(· = g)) k1) (fun _ _ e=>e)
   have hkx:kat elKey L q=kx.data.toList:=kat_some hx
   by_cases hc:cc < 0
   ·have hc':decide (cc < 0)=true:=by simpa using hc
    go_wp2_with fail
    go_region_held3 (fun w'=>w'.cell? ⟨g,q * 2,none⟩=some (.string kx)∧w'.cell? ⟨g,q * 2+1,none⟩=some (.iface Tx ux)∧w'.cell? ⟨g,m * 2,none⟩=some (.string ky)∧w'.cell? ⟨g,m * 2+1,none⟩=some (.iface Ty uy)) (first | exact e4 | go_keep)
     (first | (go_at_call 187;refine (hcm _).mono ?_;rintro e w1 ⟨rfl,k1⟩;have e4:w1.cell? ⟨g,q * 2,none⟩=some (.string kx)∧w1.cell? ⟨g,q * 2+1,none⟩=some (.iface Tx ux)∧w1.cell? ⟨g,m * 2,none⟩=some (.string ky)∧w1.cell? ⟨g,m * 2+1,none⟩=some (.iface Ty uy):=⟨(k1.cell (p:=⟨g,q * 2,none⟩) (by simpa using hvl)).trans (by simpa using x0),(k1.cell (p:=⟨g,q * 2+1,none⟩) (by simpa using hvl)).trans (by simpa using x1),(k1.cell (p:=⟨g,m * 2,none⟩) (by simpa using hvl)).trans (by simpa using y0),(k1.cell (p:=⟨g,m * 2+1,none⟩) (by simpa using hvl)).trans (by simpa using y1)⟩))
    have hM2:=hM1 _ _ k1
    have fr2:=fr1 _ _ k1
    go_wp2_with fail
    go_roundg (q - i)
    case measure=>have:=HQ.out;omega
    case rel =>
     refine ⟨i,q,rfl,rfl,hmi,by have:=HQ.out;omega,by have:=HQ.out;omega,by omega,hM2,fr2,hi,.inr ?_⟩
     rw [hkx,klt,HCC.out]
     exact hc
   ·have hc':decide (cc < 0)=false:=by simpa using hc
    go_wp2_with fail
    go_region_held3 (fun w'=>w'.cell? ⟨g,q * 2,none⟩=some (.string kx)∧w'.cell? ⟨g,q * 2+1,none⟩=some (.iface Tx ux)∧w'.cell? ⟨g,m * 2,none⟩=some (.string ky)∧w'.cell? ⟨g,m * 2+1,none⟩=some (.iface Ty uy)) (first | exact e4 | go_keep)
     (first | (go_at_call 187;refine (hcm _).mono ?_;rintro e w1 ⟨rfl,k1⟩;have e4:w1.cell? ⟨g,q * 2,none⟩=some (.string kx)∧w1.cell? ⟨g,q * 2+1,none⟩=some (.iface Tx ux)∧w1.cell? ⟨g,m * 2,none⟩=some (.string ky)∧w1.cell? ⟨g,m * 2+1,none⟩=some (.iface Ty uy):=⟨(k1.cell (p:=⟨g,q * 2,none⟩) (by simpa using hvl)).trans (by simpa using x0),(k1.cell (p:=⟨g,q * 2+1,none⟩) (by simpa using hvl)).trans (by simpa using x1),(k1.cell (p:=⟨g,m * 2,none⟩) (by simpa using hvl)).trans (by simpa using y0),(k1.cell (p:=⟨g,m * 2+1,none⟩) (by simpa using hvl)).trans (by simpa using y1)⟩))
    have hM2:=hM1 _ _ k1
    have fr2:=fr1 _ _ k1
    go_wp2_with fail
    go_roundg (j - (q+1))
    case measure=>have:=HQ.out;omega
    case rel =>
     refine ⟨q+1,j,by go_num,rfl,by have:=HQ.out;omega,by have:=HQ.out;omega,hjb,by omega,hM2,fr2,.inr ?_,hj⟩
     rw [Nat.add_sub_cancel,hkx,kle,HCC.out]
     omega
  ·have hlt':¬ (i:Int) < (j:Int):=by omega
   obtain rfl:i=j:=by omega
   obtain ⟨v,hv⟩:∃ v,i - a=v:=⟨_,rfl⟩
   have hL:=HL.out
   have hkA:∀ q,a≤q→q < m→kat elKey L q=kat elKey A (q - a):=fun q h1 h2=>by
    rw [← hL,kat_mid (by omega) (by omega),ha]
   have hst:StS elKey (A ++ [(ky,(Ty,uy),ty)]) (A.take v ++ ((ky,(Ty,uy),ty) :: A.drop v)):=by
    refine sts_right hA (by omega) ?_ ?_
    ·rcases hi.out with e | e
     ·exact .inl (by omega)
     ·by_cases e0:i=a
      ·exact .inl (by omega)
      ·right
       rw [hkA _ (by omega) (by omega)] at e
       rw [show v - 1=i - 1 - a by omega]
       exact e
    ·rcases hj.out with e | e
     ·exact .inl (by omega)
     ·by_cases e0:i=m
      ·exact .inl (by omega)
      ·right
       rw [hkA _ (by omega) (by omega),hv] at e
       exact e
   obtain ⟨A1,hA1'⟩:∃ A1,A.take v=A1:=⟨_,rfl⟩
   obtain ⟨A2,hA2'⟩:∃ A2,A.drop v=A2:=⟨_,rfl⟩
   have hA12:A=A1 ++ A2:=by rw [← hA1',← hA2',List.take_append_drop]
   have hl1:A1.length=v:=by rw [← hA1'];simp;omega
   rw [hA1',hA2'] at hst
   have hl12:A.length=A1.length+A2.length:=by rw [hA12,List.length_append]
   have hM2:Mem wr g C (X ++ (A1 ++ (A2 ++ ((ky,(Ty,uy),ty) :: ([] ++ Y))))):=by
    have:=hM.out
    rw [← hL,hA12] at this
    simpa using this
   have HM2:Aside _:=hM2
   have HST:Hid _:=hst
   clear hM2 hst hA1' hA2' hA12 hkA hL hi hj hM HX HL hA
   go_wp2_with fail
   go_loopg [17] (m - i) (fun k v1 wr=>∃ (P Q:List El) (c:Nat),v1 = .int .i64 c∧Hid (c=i+P.length)∧P.length+Q.length=m - i∧P.length≤k∧Hid (P ++ Q=A2)∧Aside (Mem wr g C (X ++ (A1 ++ (P ++ ((ky,(Ty,uy),ty) :: (Q ++ Y))))))∧Fr (· = g) w wr)
   case atStart=>exact ⟨A2,[],m,rfl,show _=_ by omega,by simp;omega,by omega,show _=_ by simp,HM2,hfr⟩
   case round =>
    clear HM2
    obtain ⟨P,Q,c,rfl,hc,hpq,hk2,hPQ,hM,hfr⟩:=hrel
    rcases List.eq_nil_or_concat P with e | ⟨P',x,e⟩
    ·subst e
     have hcl:¬ (i:Int) < (c:Int):=by have:=hc.out;simp at this;omega
     go_wp2_with fail
     refine bodyPost_ret (v:=.tuple #[]) (by simp [results,Tryz.results277,go_sem]) rfl ⟨rfl,⟨_,HST.out,?_⟩,hfr⟩
     have e1:Q=A2:=by simpa using hPQ.out
     subst e1
     simpa using hM.out
    ·subst e
     obtain ⟨kx,⟨Tx,ux⟩,tx⟩:=x
     simp only [List.length_append,List.length_singleton,List.concat_eq_append] at hpq hk2 hc
     have hcl:(i:Int) < (c:Int):=by have:=hc.out;omega
     obtain ⟨d,hd⟩:∃ d,c - 1=d:=⟨_,rfl⟩
     have ed:(c:Int) - 1=(d:Int):=by omega
     have hxp:(X ++ (A1 ++ P')).length=d:=by have:=hc.out;simp;omega
     have hM':=hM.out
     simp only [List.concat_eq_append,List.append_assoc,List.singleton_append] at hM'
     rw [← List.append_assoc A1,← List.append_assoc X] at hM'
     have hx:((X ++ (A1 ++ P')) ++ ((kx,(Tx,ux),tx) :: ((ky,(Ty,uy),ty) :: (Q ++ Y))))[d]? = some (kx,(Tx,ux),tx):=by rw [← hxp];simp
     have hy:((X ++ (A1 ++ P')) ++ ((kx,(Tx,ux),tx) :: ((ky,(Ty,uy),ty) :: (Q ++ Y))))[c]? = some (ky,(Ty,uy),ty):=by rw [show c=d+1 by omega,← hxp,List.getElem?_append_right (by omega)];simp
     obtain ⟨x0,x1⟩:=hM'.at hx
     obtain ⟨y0,y1⟩:=hM'.at hy
     simp only [iv] at x0 x1 y0 y1
     have hcN:(c:Int) < (N:Int):=by have:=hc.out;omega
     have hdN:(d:Int) < (N:Int):=by omega
     have hc0:(0:Int)≤(c:Int):=by omega
     have hd0:(0:Int)≤(d:Int):=by omega
     have fz:=hM'.free
     have mixed:Tryz.prog.follows Departure.mixedOrders=true:=by kernel_rfl
     have HD:Hid (c=d+1):=show _=_ by omega
     clear hd
     go_wp2_with fail
     go_big_region_o
     go_wp2_with fail
     go_roundg P'.length
     case measure=>omega
     case rel =>
      have h2:=hM'.swap hy hx
      rw [HD.out,← hxp,swp_adj',hxp,← HD.out] at h2
      refine ⟨P',(kx,(Tx,ux),tx) :: Q,d,rfl,?_,by simp;omega,by omega,?_,?_,?_⟩
      ·show _=_
       have:=hc.out;have:=HD.out;omega
      ·show _=_
       rw [← hPQ.out];simp
      ·show Mem _ _ _ _
       simpa using h2
      ·exact fr_swap hfr
def SymOk (K:Nat):Prop:=∀ (w:World) (g C cap N a m b:Nat) (X A B Y:List El),A.length+B.length≤K→Mem w g C (X ++ (A ++ (B ++ Y)))→(X ++ (A ++ (B ++ Y))).length=N→N≤10000000→X.length=a→a+A.length=m→m+B.length=b→A≠[]→B≠[]→Srt elKey A→Srt elKey B→
 Calls Tryz.prog 277 #[.slice (some ⟨g,0,none⟩) N cap,.int .i64 a,.int .i64 m,.int .i64 b,cmpF] w fun e w'=>e = .returned (.tuple #[])∧(∃ R,StS elKey (A ++ B) R∧Mem w' g C (X ++ (R ++ Y)))∧Fr (· = g) w w'
structure Cut (L:List El) (a m b s e:Nat):Prop where
 lo:s=a∨e=b∨kle (kat elKey L (s - 1)) (kat elKey L e)
 hi:s=m∨e=m∨klt (kat elKey L (e - 1)) (kat elKey L s)
theorem cut_sts {X A B Y A1 A2 B1 B2 R1 R2 L:List El}{a m b s e:Nat} (hL:X ++ (A ++ (B ++ Y))=L) (ha:X.length=a) (hm:a+A.length=m) (hb:m+B.length=b) (hA:Srt elKey A) (hB:Srt elKey B) (hcut:Cut L a m b s e) (e1:A=A1 ++ A2) (e2:B=B1 ++ B2) (l1:A1.length+a=s) (l2:B1.length+m=e) (s1:StS elKey (A1 ++ B1) R1) (s2:StS elKey (A2 ++ B2) R2):StS elKey (A ++ B) (R1 ++ R2):=by
 have kA:∀ q,a≤q→q < m→kat elKey L q=kat elKey A (q - a):=fun q h1 h2=>by
  rw [← hL,kat_mid (by omega) (by omega),ha]
 have kB:∀ q,m≤q→q < b→kat elKey L q=kat elKey B (q - m):=fun q h1 h2=>by
  rw [← hL]
  have:=kat_mid (X:=X ++ A) (A:=B) (Y:=Y) (i:=q) (by simp;omega) (by simp;omega)
  rw [List.append_assoc] at this
  rw [this]
  congr 1
  simp;omega
 have hla:A.length=A1.length+A2.length:=by rw [e1,List.length_append]
 have hlb:B.length=B1.length+B2.length:=by rw [e2,List.length_append]
 have t1:A.take A1.length=A1:=by rw [e1];simp
 have t2:A.drop A1.length=A2:=by rw [e1];simp
 have t3:B.take B1.length=B1:=by rw [e2];simp
 have t4:B.drop B1.length=B2:=by rw [e2];simp
 refine StS.sym (u:=A1.length) (v:=B1.length) hA hB (by omega) (by omega) ?_ ?_ (by rw [t1,t3];exact s1) (by rw [t2,t4];exact s2)
 ·rcases hcut.lo with h | h | h
  ·exact .inl (by omega)
  ·exact .inr (.inl (by omega))
  ·by_cases h0:A1.length=0
   ·exact .inl h0
   ·by_cases h1:B1.length=B.length
    ·exact .inr (.inl h1)
    ·right;right
     rw [kA _ (by omega) (by omega),kB _ (by omega) (by omega)] at h
     rw [show A1.length - 1=s - 1 - a by omega,show B1.length=e - m by omega]
     exact h
 ·rcases hcut.hi with h | h | h
  ·exact .inl (by omega)
  ·exact .inr (.inl (by omega))
  ·by_cases h0:A1.length=A.length
   ·exact .inl h0
   ·by_cases h1:B1.length=0
    ·exact .inr (.inl h1)
    ·right;right
     rw [kB (e - 1) (by omega) (by omega),kA s (by omega) (by omega)] at h
     rw [show B1.length - 1=e - 1 - m by omega,show A1.length=s - a by omega]
     exact h
theorem srt_parts {A1 A2:List El} (h:Srt elKey (A1 ++ A2)):Srt elKey A1∧Srt elKey A2:=⟨(srt_app.1 h).1,(srt_app.1 h).2.1⟩
theorem sym_gen (hC:ComparesStr) {K:Nat} (IH:SymOk K) {w:World}{g C cap N a m b:Nat}{X A B Y:List El} (hK:A.length+B.length≤K+1) (h:Mem w g C (X ++ (A ++ (B ++ Y)))) (hN:(X ++ (A ++ (B ++ Y))).length=N) (hl:N≤10000000) (ha:X.length=a) (hm:a+A.length=m) (hb:m+B.length=b) (hA2:2≤A.length) (hB2:2≤B.length) (hA:Srt elKey A) (hB:Srt elKey B) :
  Calls Tryz.prog 277 #[.slice (some ⟨g,0,none⟩) N cap,.int .i64 a,.int .i64 m,.int .i64 b,cmpF] w fun e w'=>e = .returned (.tuple #[])∧(∃ R,StS elKey (A ++ B) R∧Mem w' g C (X ++ (R ++ Y)))∧Fr (· = g) w w':=by
 obtain ⟨L,hL⟩:∃ L,X ++ (A ++ (B ++ Y))=L:=⟨_,rfl⟩
 have hN':a+(A.length+(B.length+Y.length))=N:=by rw [← hN];simp only [List.length_append,ha]
 rw [hL] at h hN
 have HL:Hid _:=hL
 have HX:Hid _:=ha
 have HN:Hid _:=hN
 have HM:Aside _:=h
 have HA:Aside (Srt elKey A):=hA
 have HB:Aside (Srt elKey B):=hB
 have HI:Aside (SymOk K):=IH
 clear hL hN h hA hB IH
 have em:((m:Int) - (a:Int) == 1)=false:=by simp;omega
 have eb:((b:Int) - (m:Int) == 1)=false:=by simp;omega
 obtain ⟨mid,hmid⟩:∃ mid,(a+b) / 2=mid:=⟨_,rfl⟩
 have emid:((a:Int)+(b:Int)) / 2=(mid:Int):=by omega
 obtain ⟨n,hn⟩:∃ n,mid+m=n:=⟨_,rfl⟩
 have en:(mid:Int)+(m:Int)=(n:Int):=by omega
 obtain ⟨p,hp⟩:∃ p,n - 1=p:=⟨_,rfl⟩
 have ep:(n:Int) - 1=(p:Int):=by omega
 have hmid1:a < mid:=by omega
 have hmid2:mid < b:=by omega
 have hmid3:mid+mid≤a+b∧a+b≤mid+mid+1:=by omega
 have HMID:Hid _:=hmid
 have HNN:Hid _:=hn
 have HP:Hid _:=hp
 have hnle:mid≤n∧m≤n∧1≤n:=by omega
 clear hmid
 by_cases hmm:mid < m
 ·have hmm':(mid:Int) < (m:Int):=by omega
  obtain ⟨s0,hs0⟩:∃ s0,n - b=s0:=⟨_,rfl⟩
  obtain ⟨r0,hr0⟩:∃ r0,mid=r0:=⟨_,rfl⟩
  have es0:(n:Int) - (b:Int)=(s0:Int):=by omega
  have f1:a≤s0∧s0≤r0∧r0≤m∧r0≤mid∧n≤s0+b:=by omega
  have f3:s0=a∨n - s0=b:=by omega
  have f4:r0=m∨n - r0=m:=by omega
  have HNM:Hid (n=mid+m):=show _=_ by omega
  have F3:Hid _:=f3
  have F4:Hid _:=f4
  subst hr0
  clear f3 f4 hn hp hs0
  unfold cmpF at *
  go_enter Tryz.func277,Tryz.ntmps277
  go_wp2_with fail
  go_loopg [20,21,23] (b - a) (fun k v1 v2 v3 wr=>∃ (i j:Nat),v1 = .int .i64 i∧v2 = .int .i64 j∧s0≤i∧i≤j∧j≤mid∧j - i≤k∧Aside (Mem wr g C L)∧Fr (· = g) w wr∧Hid (i=s0∨kle (kat elKey L (i - 1)) (kat elKey L (n - i)))∧Hid (j=mid∨klt (kat elKey L (p - j)) (kat elKey L j)))
  case atStart=>exact ⟨s0,mid,rfl,rfl,by omega,by omega,by omega,by omega,HM,Fr.refl _ _,.inl rfl,.inl rfl⟩
  case round =>
   clear HM
   obtain ⟨i,j,rfl,rfl,hmi,hij,hjb,hk,hM,hfr,hi,hj⟩:=hrel
   by_cases hlt:i < j
   ·have hlt':(i:Int) < (j:Int):=by omega
    obtain ⟨q,hq⟩:∃ q,(i+j) / 2=q:=⟨_,rfl⟩
    have hqr:i≤q∧q < j:=by omega
    obtain ⟨d,hd⟩:∃ d,p - q=d:=⟨_,rfl⟩
    have hdp:d+q=p:=by have:=HP.out;have:=HNM.out;omega
    have hdb:m≤d∧d < b:=by have:=HP.out;have:=HNM.out;omega
    obtain ⟨⟨kx,⟨Tx,ux⟩,tx⟩,hx⟩:∃ x,L[q]? = some x:=⟨_,List.getElem?_eq_getElem (by rw [HN.out];omega)⟩
    obtain ⟨⟨ky,⟨Ty,uy⟩,ty⟩,hy⟩:∃ y,L[d]? = some y:=⟨_,List.getElem?_eq_getElem (by rw [HN.out];omega)⟩
    obtain ⟨x0,x1⟩:=hM.out.at hx
    obtain ⟨y0,y1⟩:=hM.out.at hy
    simp only [iv] at x0 x1 y0 y1
    have hql:(q:Int) < (N:Int):=by omega
    have hq0:(0:Int)≤(q:Int):=by omega
    have hdl:(d:Int) < (N:Int):=by omega
    have hd0:(0:Int)≤(d:Int):=by omega
    have hvl:=hM.out.lt
    have eq:((i:Int)+(j:Int)) / 2=(q:Int):=by omega
    have ed:(p:Int) - (q:Int)=(d:Int):=by omega
    have wd:IntKind.i64.wrap (d:Int)=(d:Int):=by rw [IntKind.wrap_i64];omega
    have HD:Hid _:=hdp
    clear hq hd hdp
    have hcm:=memCmp_ok hC ky kx Ty Tx uy ux
    obtain ⟨cc,hcc⟩:∃ cc,Lib.compareBytes ky.data.toList kx.data.toList=cc:=⟨_,rfl⟩
    simp only [hcc] at hcm
    have HCC:Hid _:=hcc
    clear hcc
    have hM1:∀ n w1,Below (wr.drewN n).heap.size (wr.drewN n) w1→Mem w1 g C L:=fun n w1 k1=>hM.out.same ((k1.block g (by simpa using hvl)).trans rfl)
    have fr1:∀ n w1,Below (wr.drewN n).heap.size (wr.drewN n) w1→Fr (· = g) w w1:=fun n w1 k1=>(hfr.drewN n).trans (Fr.of_below (D:=(· = g)) k1) (fun _ _ e=>e)
    have hkx:kat elKey L q=kx.data.toList:=kat_some hx
    have hky:kat elKey L d=ky.data.toList:=kat_some hy
    have hnq:n - (q+1)=d:=by have:=HD.out;have:=HP.out;omega
    have hpq:p - q=d:=by have:=HD.out;omega
    have HNQ:Hid _:=hnq
    have HPQ:Hid _:=hpq
    clear hnq hpq
    by_cases hc:cc < 0
    ·have hc':decide (cc < 0)=true:=by simpa using hc
     go_wp2_with fail
     go_region_held3 (fun w'=>w'.cell? ⟨g,q * 2,none⟩=some (.string kx)∧w'.cell? ⟨g,q * 2+1,none⟩=some (.iface Tx ux)∧w'.cell? ⟨g,d * 2,none⟩=some (.string ky)∧w'.cell? ⟨g,d * 2+1,none⟩=some (.iface Ty uy)) (first | exact e4 | go_keep)
      (first | (go_at_call 187;refine (hcm _).mono ?_;rintro e w1 ⟨rfl,k1⟩;have e4:w1.cell? ⟨g,q * 2,none⟩=some (.string kx)∧w1.cell? ⟨g,q * 2+1,none⟩=some (.iface Tx ux)∧w1.cell? ⟨g,d * 2,none⟩=some (.string ky)∧w1.cell? ⟨g,d * 2+1,none⟩=some (.iface Ty uy):=⟨(k1.cell (p:=⟨g,q * 2,none⟩) (by simpa using hvl)).trans (by simpa using x0),(k1.cell (p:=⟨g,q * 2+1,none⟩) (by simpa using hvl)).trans (by simpa using x1),(k1.cell (p:=⟨g,d * 2,none⟩) (by simpa using hvl)).trans (by simpa using y0),(k1.cell (p:=⟨g,d * 2+1,none⟩) (by simpa using hvl)).trans (by simpa using y1)⟩))
     have hM2:=hM1 _ _ k1
     have fr2:=fr1 _ _ k1
     go_wp2_with fail
     go_roundg (q - i)
     case measure=>omega
     case rel =>
      refine ⟨i,q,rfl,rfl,hmi,by omega,by omega,by omega,hM2,fr2,hi,.inr ?_⟩
      rw [HPQ.out,hkx,hky,klt,HCC.out]
      exact hc
    ·have hc':decide (cc < 0)=false:=by simpa using hc
     go_wp2_with fail
     go_region_held3 (fun w'=>w'.cell? ⟨g,q * 2,none⟩=some (.string kx)∧w'.cell? ⟨g,q * 2+1,none⟩=some (.iface Tx ux)∧w'.cell? ⟨g,d * 2,none⟩=some (.string ky)∧w'.cell? ⟨g,d * 2+1,none⟩=some (.iface Ty uy)) (first | exact e4 | go_keep)
      (first | (go_at_call 187;refine (hcm _).mono ?_;rintro e w1 ⟨rfl,k1⟩;have e4:w1.cell? ⟨g,q * 2,none⟩=some (.string kx)∧w1.cell? ⟨g,q * 2+1,none⟩=some (.iface Tx ux)∧w1.cell? ⟨g,d * 2,none⟩=some (.string ky)∧w1.cell? ⟨g,d * 2+1,none⟩=some (.iface Ty uy):=⟨(k1.cell (p:=⟨g,q * 2,none⟩) (by simpa using hvl)).trans (by simpa using x0),(k1.cell (p:=⟨g,q * 2+1,none⟩) (by simpa using hvl)).trans (by simpa using x1),(k1.cell (p:=⟨g,d * 2,none⟩) (by simpa using hvl)).trans (by simpa using y0),(k1.cell (p:=⟨g,d * 2+1,none⟩) (by simpa using hvl)).trans (by simpa using y1)⟩))
     have hM2:=hM1 _ _ k1
     have fr2:=fr1 _ _ k1
     go_wp2_with fail
     go_roundg (j - (q+1))
     case measure=>omega
     case rel =>
      refine ⟨q+1,j,by go_num,rfl,by omega,by omega,hjb,by omega,hM2,fr2,.inr ?_,hj⟩
      rw [Nat.add_sub_cancel,HNQ.out,hkx,hky,kle,HCC.out]
      omega
   ·have hlt':¬ (i:Int) < (j:Int):=by omega
    obtain rfl:i=j:=by omega
    obtain ⟨e,he⟩:∃ e,n - i=e:=⟨_,rfl⟩
    have ee:(n:Int) - (i:Int)=(e:Int):=by have:=HNM.out;omega
    have her:m≤e∧e≤b∧e+i=n:=by have:=HNM.out;omega
    have hcut:Cut L a m b i e:=by
     refine ⟨?_,?_⟩
     ·rcases hi.out with h | h
      ·rcases F3.out with h' | h'
       ·exact .inl (by omega)
       ·exact .inr (.inl (by omega))
      ·rw [he] at h
       exact .inr (.inr h)
     ·rcases hj.out with h | h
      ·rcases F4.out with h' | h'
       ·exact .inl (by omega)
       ·exact .inr (.inl (by omega))
      ·rw [show p - i=e - 1 by have:=HP.out;have:=HNM.out;omega] at h
       exact .inr (.inr h)
    obtain ⟨A1,A2,eA,lA1,lA2⟩:∃ A1 A2:List El,A=A1 ++ A2∧A1.length+a=i∧A2.length+i=m:=⟨A.take (i - a),A.drop (i - a),(List.take_append_drop _ _).symm,by simp;omega,by simp;omega⟩
    obtain ⟨B1,B2,eB,lB1,lB2⟩:∃ B1 B2:List El,B=B1 ++ B2∧B1.length+m=e∧B2.length+e=b:=⟨B.take (e - m),B.drop (e - m),(List.take_append_drop _ _).symm,by simp;omega,by simp;omega⟩
    have hsA:=srt_parts (eA ▸ HA.out)
    have hsB:=srt_parts (eB ▸ HB.out)
    have fin:∀ R1 R2,StS elKey (A1 ++ B1) R1→StS elKey (A2 ++ B2) R2→StS elKey (A ++ B) (R1 ++ R2):=fun R1 R2 s1 s2=>cut_sts HL.out ha hm hb HA.out HB.out hcut eA eB lA1 lB1 s1 s2
    have hM0:Mem wr g C (X ++ (A1 ++ (A2 ++ (B1 ++ (B2 ++ Y))))):=by
     have:=hM.out
     rw [← HL.out,eA,eB] at this
     simpa using this
    have hlen:a+(A1.length+(A2.length+(B1.length+(B2.length+Y.length))))=N:=by
     have:=hN'
     rw [eA,eB,List.length_append,List.length_append] at this
     omega
    have HM0:Aside _:=hM0
    have SA:Aside _:=hsA
    have SB:Aside _:=hsB
    have FIN:Aside _:=fin
    have HE:Hid _:=her
    have c3:(i:Int) < (mid:Int)↔(m:Int) < (e:Int):=by have:=HNM.out;omega
    have c4:(mid:Int) < (e:Int)↔(i:Int) < (m:Int):=by have:=HNM.out;omega
    have hAB1:A1.length+B1.length+a=mid∧A1.length+B1.length≤K∧A2.length+B2.length≤K∧A2.length+mid=e:=by
     have:A.length=A1.length+A2.length:=by rw [eA,List.length_append]
     have:B.length=B1.length+B2.length:=by rw [eB,List.length_append]
     have:=HNM.out
     omega
    have HAB:Hid _:=hAB1
    have HLA:Hid _:=lA1
    have HLA2:Hid _:=lA2
    have HLB:Hid _:=lB1
    have HLB2:Hid _:=lB2
    have HLEN:Hid _:=hlen
    have hs1:¬ ((i:Int)≤a∧(e:Int)≤m):=by have:=HNM.out;omega
    have hs2:¬ ((m:Int)≤i∧(b:Int)≤e):=by have:=HNM.out;omega
    clear hM0 hsA hsB fin her hM hi hj F3 F4 HL HN eA eB hcut HMID HNN HP he hAB1 lA1 lA2 lB1 lB2 hlen hK hN' hm ha hb hnle hmid3 f1 hmi hjb
    rcases (show ((a:Int) < i∧(m:Int) < e)∨((a:Int) < i∧¬ (m:Int) < e)∨(¬ (a:Int) < i∧(m:Int) < e) by omega) with ⟨k1,k2⟩ | ⟨k1,k2⟩ | ⟨k1,k2⟩
    ·have k3:(i:Int) < (mid:Int):=by exact c3.2 k2
     rcases (show ((i:Int) < m∧(e:Int) < b)∨((i:Int) < m∧¬ (e:Int) < b)∨(¬ (i:Int) < m∧(e:Int) < b) by omega) with ⟨k4,k5⟩ | ⟨k4,k5⟩ | ⟨k4,k5⟩
     ·have k6:(mid:Int) < (e:Int):=by exact c4.2 k4
      clear c3 c4 hs1 hs2
      obtain ⟨lA1,lA2,lB1,lB2,lAB,lN⟩:=(show _∧_∧_∧_∧_∧_ from ⟨HLA.out,HLA2.out,HLB.out,HLB2.out,HAB.out,HLEN.out⟩)
      have lX:X.length=a:=HX.out
      have nA1:A1≠[]:=fun q=>by rw [q] at lA1;simp at lA1;omega
      have nA2:A2≠[]:=fun q=>by rw [q] at lA2;simp at lA2;omega
      have nB1:B1≠[]:=fun q=>by rw [q] at lB1;simp at lB1;omega
      have nB2:B2≠[]:=fun q=>by rw [q] at lB2;simp at lB2;omega
      have hR:Aside _:=fun w1=>rotate_ok (w:=w1) (g:=g) (C:=C) (cap:=cap) (a:=i) (m:=m) (b:=e) (X:=X ++ A1) (A:=A2) (B:=B1) (Y:=B2 ++ Y) (.func (.func 187) #[] #[])
      have hR2:Aside (Calls Tryz.prog 302 #[.slice (some ⟨g,0,none⟩) N cap,.int .i64 i,.int .i64 m,.int .i64 e,.func (.func 187) #[] #[]] wr fun e w'=>e = .returned (.tuple #[])∧Mem w' g C (X ++ (A1 ++ (B1 ++ (A2 ++ (B2 ++ Y)))))∧Fr (· = g) wr w'):=by
       show Calls _ _ _ _ _
       have hlN:((X ++ A1) ++ (A2 ++ (B1 ++ (B2 ++ Y)))).length=N:=by simp only [List.length_append];omega
       have:=hR.out wr (by rw [List.append_assoc];exact HM0.out) (by rw [hlN];omega) (by simp only [List.length_append];omega) (by omega) (by omega) nA2 nB1
       rw [hlN] at this
       refine this.mono ?_
       rintro e w' ⟨q1,q2,q3⟩
       rw [List.append_assoc] at q2
       exact ⟨q1,q2,q3⟩
      have hS1:Aside (∀ w1,Mem w1 g C (X ++ (A1 ++ (B1 ++ (A2 ++ (B2 ++ Y)))))→Calls Tryz.prog 277 #[.slice (some ⟨g,0,none⟩) N cap,.int .i64 a,.int .i64 i,.int .i64 mid,.func (.func 187) #[] #[]] w1 fun e w'=>e = .returned (.tuple #[])∧(∃ R,StS elKey (A1 ++ B1) R∧Mem w' g C (X ++ (R ++ (A2 ++ (B2 ++ Y)))))∧Fr (· = g) w1 w'):=fun w1 hM1=>HI.out w1 g C cap N a i mid X A1 B1 (A2 ++ (B2 ++ Y)) (by omega) hM1 (by simp only [List.length_append];omega) hl lX (by omega) (by omega) nA1 nB1 SA.out.1 SB.out.1
      have hS2:Aside (∀ w1 R1,StS elKey (A1 ++ B1) R1→Mem w1 g C (X ++ (R1 ++ (A2 ++ (B2 ++ Y))))→Calls Tryz.prog 277 #[.slice (some ⟨g,0,none⟩) N cap,.int .i64 mid,.int .i64 e,.int .i64 b,.func (.func 187) #[] #[]] w1 fun e w'=>e = .returned (.tuple #[])∧(∃ R,StS elKey (A2 ++ B2) R∧Mem w' g C (X ++ ((R1 ++ R) ++ Y)))∧Fr (· = g) w1 w'):=fun w1 R1 s1 hM1=>by
       have lR:=s1.len
       simp only [List.length_append] at lR
       refine (HI.out w1 g C cap N mid e b (X ++ R1) A2 B2 Y (by omega) (by rw [List.append_assoc];exact hM1) (by simp only [List.length_append];omega) hl (by simp only [List.length_append];omega) (by omega) (by omega) nA2 nB2 SA.out.2 SB.out.2).mono ?_
       rintro e w' ⟨q1,⟨R,q2,q3⟩,q4⟩
       exact ⟨q1,⟨R,q2,by rw [List.append_assoc];rw [List.append_assoc] at q3;exact q3⟩,q4⟩
      go_wp2_with fail
      all_goals
       refine hR2.out.mono ?_
       rintro e w1 ⟨rfl,hMa,fra⟩
       go_wp2_with fail
      all_goals
       refine (hS1.out _ hMa).mono ?_
       rintro e w2 ⟨rfl,⟨R1,s1,hMb⟩,frb⟩
       go_wp2_with fail
      all_goals
       refine (hS2.out _ _ s1 hMb).mono ?_
       rintro e w3 ⟨rfl,⟨R2,s2,hMc⟩,frc⟩
       go_wp2_with fail
      all_goals
       go_end0
       exact ⟨rfl,⟨_,FIN.out _ _ s1 s2,hMc⟩,((hfr.trans fra (fun _ _ e=>e)).trans frb (fun _ _ e=>e)).trans frc (fun _ _ e=>e)⟩
     ·have k6:(mid:Int) < (e:Int):=by exact c4.2 k4
      clear c3 c4 hs1 hs2
      obtain ⟨lA1,lA2,lB1,lB2,lAB,lN⟩:=(show _∧_∧_∧_∧_∧_ from ⟨HLA.out,HLA2.out,HLB.out,HLB2.out,HAB.out,HLEN.out⟩)
      have lX:X.length=a:=HX.out
      have nA1:A1≠[]:=fun q=>by rw [q] at lA1;simp at lA1;omega
      have nA2:A2≠[]:=fun q=>by rw [q] at lA2;simp at lA2;omega
      have nB1:B1≠[]:=fun q=>by rw [q] at lB1;simp at lB1;omega
      have nB2:B2=[]:=List.eq_nil_of_length_eq_zero (by omega)
      have hR:Aside _:=fun w1=>rotate_ok (w:=w1) (g:=g) (C:=C) (cap:=cap) (a:=i) (m:=m) (b:=e) (X:=X ++ A1) (A:=A2) (B:=B1) (Y:=B2 ++ Y) (.func (.func 187) #[] #[])
      have hR2:Aside (Calls Tryz.prog 302 #[.slice (some ⟨g,0,none⟩) N cap,.int .i64 i,.int .i64 m,.int .i64 e,.func (.func 187) #[] #[]] wr fun e w'=>e = .returned (.tuple #[])∧Mem w' g C (X ++ (A1 ++ (B1 ++ (A2 ++ (B2 ++ Y)))))∧Fr (· = g) wr w'):=by
       show Calls _ _ _ _ _
       have hlN:((X ++ A1) ++ (A2 ++ (B1 ++ (B2 ++ Y)))).length=N:=by simp only [List.length_append];omega
       have:=hR.out wr (by rw [List.append_assoc];exact HM0.out) (by rw [hlN];omega) (by simp only [List.length_append];omega) (by omega) (by omega) nA2 nB1
       rw [hlN] at this
       refine this.mono ?_
       rintro e w' ⟨q1,q2,q3⟩
       rw [List.append_assoc] at q2
       exact ⟨q1,q2,q3⟩
      have hS1:Aside (∀ w1,Mem w1 g C (X ++ (A1 ++ (B1 ++ (A2 ++ (B2 ++ Y)))))→Calls Tryz.prog 277 #[.slice (some ⟨g,0,none⟩) N cap,.int .i64 a,.int .i64 i,.int .i64 mid,.func (.func 187) #[] #[]] w1 fun e w'=>e = .returned (.tuple #[])∧(∃ R,StS elKey (A1 ++ B1) R∧Mem w' g C (X ++ (R ++ (A2 ++ (B2 ++ Y)))))∧Fr (· = g) w1 w'):=fun w1 hM1=>HI.out w1 g C cap N a i mid X A1 B1 (A2 ++ (B2 ++ Y)) (by omega) hM1 (by simp only [List.length_append];omega) hl lX (by omega) (by omega) nA1 nB1 SA.out.1 SB.out.1
      go_wp2_with fail
      all_goals
       refine hR2.out.mono ?_
       rintro e w1 ⟨rfl,hMa,fra⟩
       go_wp2_with fail
      all_goals
       refine (hS1.out _ hMa).mono ?_
       rintro e w2 ⟨rfl,⟨R1,s1,hMb⟩,frb⟩
       go_wp2_with fail
      all_goals
       go_end0
       have s2:StS elKey (A2 ++ B2) (A2 ++ B2):=by
        refine StS.of_srt ?_
        rw [nB2]
        simpa using SA.out.2
       refine ⟨rfl,⟨_,FIN.out _ _ s1 s2,?_⟩,(hfr.trans fra (fun _ _ e=>e)).trans frb (fun _ _ e=>e)⟩
       have:=hMb
       rw [List.append_assoc,List.append_assoc]
       exact this
     ·have k6:¬ (mid:Int) < (e:Int):=by exact fun q=>k4 (c4.1 q)
      clear c3 c4 hs1 hs2
      obtain ⟨lA1,lA2,lB1,lB2,lAB,lN⟩:=(show _∧_∧_∧_∧_∧_ from ⟨HLA.out,HLA2.out,HLB.out,HLB2.out,HAB.out,HLEN.out⟩)
      have lX:X.length=a:=HX.out
      have nA1:A1≠[]:=fun q=>by rw [q] at lA1;simp at lA1;omega
      have nA2:A2=[]:=List.eq_nil_of_length_eq_zero (by omega)
      have nB1:B1≠[]:=fun q=>by rw [q] at lB1;simp at lB1;omega
      have nB2:B2≠[]:=fun q=>by rw [q] at lB2;simp at lB2;omega
      have hMa:Mem wr g C (X ++ (A1 ++ (B1 ++ (A2 ++ (B2 ++ Y))))):=by
       have:=HM0.out
       rw [nA2] at this ⊢
       exact this
      have fra:Fr (· = g) wr wr:=Fr.refl _ _
      have hS1:Aside (∀ w1,Mem w1 g C (X ++ (A1 ++ (B1 ++ (A2 ++ (B2 ++ Y)))))→Calls Tryz.prog 277 #[.slice (some ⟨g,0,none⟩) N cap,.int .i64 a,.int .i64 i,.int .i64 mid,.func (.func 187) #[] #[]] w1 fun e w'=>e = .returned (.tuple #[])∧(∃ R,StS elKey (A1 ++ B1) R∧Mem w' g C (X ++ (R ++ (A2 ++ (B2 ++ Y)))))∧Fr (· = g) w1 w'):=fun w1 hM1=>HI.out w1 g C cap N a i mid X A1 B1 (A2 ++ (B2 ++ Y)) (by omega) hM1 (by simp only [List.length_append];omega) hl lX (by omega) (by omega) nA1 nB1 SA.out.1 SB.out.1
      go_wp2_with fail
      all_goals
       refine (hS1.out _ hMa).mono ?_
       rintro e w2 ⟨rfl,⟨R1,s1,hMb⟩,frb⟩
       go_wp2_with fail
      all_goals
       go_end0
       have s2:StS elKey (A2 ++ B2) (A2 ++ B2):=by
        refine StS.of_srt ?_
        rw [nA2]
        exact SB.out.2
       refine ⟨rfl,⟨_,FIN.out _ _ s1 s2,?_⟩,(hfr.trans fra (fun _ _ e=>e)).trans frb (fun _ _ e=>e)⟩
       have:=hMb
       rw [List.append_assoc,List.append_assoc]
       exact this
    ·have k3:¬ (i:Int) < (mid:Int):=by exact fun q=>k2 (c3.1 q)
     rcases (show ((i:Int) < m∧(e:Int) < b)∨((i:Int) < m∧¬ (e:Int) < b)∨(¬ (i:Int) < m∧(e:Int) < b) by omega) with ⟨k4,k5⟩ | ⟨k4,k5⟩ | ⟨k4,k5⟩
     ·have k6:(mid:Int) < (e:Int):=by exact c4.2 k4
      clear c3 c4 hs1 hs2
      obtain ⟨lA1,lA2,lB1,lB2,lAB,lN⟩:=(show _∧_∧_∧_∧_∧_ from ⟨HLA.out,HLA2.out,HLB.out,HLB2.out,HAB.out,HLEN.out⟩)
      have lX:X.length=a:=HX.out
      have nA1:A1≠[]:=fun q=>by rw [q] at lA1;simp at lA1;omega
      have nA2:A2≠[]:=fun q=>by rw [q] at lA2;simp at lA2;omega
      have nB1:B1=[]:=List.eq_nil_of_length_eq_zero (by omega)
      have nB2:B2≠[]:=fun q=>by rw [q] at lB2;simp at lB2;omega
      have hMa:Mem wr g C (X ++ (A1 ++ (B1 ++ (A2 ++ (B2 ++ Y))))):=by
       have:=HM0.out
       rw [nB1] at this ⊢
       exact this
      have fra:Fr (· = g) wr wr:=Fr.refl _ _
      obtain ⟨R1,hR1⟩:∃ R1,A1 ++ B1=R1:=⟨_,rfl⟩
      have s1:StS elKey (A1 ++ B1) R1:=by
       rw [← hR1]
       refine StS.of_srt ?_
       rw [nB1]
       simpa using SA.out.1
      have hS2:Aside (∀ w1 R1,StS elKey (A1 ++ B1) R1→Mem w1 g C (X ++ (R1 ++ (A2 ++ (B2 ++ Y))))→Calls Tryz.prog 277 #[.slice (some ⟨g,0,none⟩) N cap,.int .i64 mid,.int .i64 e,.int .i64 b,.func (.func 187) #[] #[]] w1 fun e w'=>e = .returned (.tuple #[])∧(∃ R,StS elKey (A2 ++ B2) R∧Mem w' g C (X ++ ((R1 ++ R) ++ Y)))∧Fr (· = g) w1 w'):=fun w1 R1 s1 hM1=>by
       have lR:=s1.len
       simp only [List.length_append] at lR
       refine (HI.out w1 g C cap N mid e b (X ++ R1) A2 B2 Y (by omega) (by rw [List.append_assoc];exact hM1) (by simp only [List.length_append];omega) hl (by simp only [List.length_append];omega) (by omega) (by omega) nA2 nB2 SA.out.2 SB.out.2).mono ?_
       rintro e w' ⟨q1,⟨R,q2,q3⟩,q4⟩
       exact ⟨q1,⟨R,q2,by rw [List.append_assoc];rw [List.append_assoc] at q3;exact q3⟩,q4⟩
      go_wp2_with fail
      all_goals
       refine (hS2.out _ _ s1 (show Mem wr g C (X ++ (R1 ++ (A2 ++ (B2 ++ Y)))) from by rw [← hR1,List.append_assoc];exact hMa)).mono ?_
       rintro e w3 ⟨rfl,⟨R2,s2,hMc⟩,frc⟩
       go_wp2_with fail
      all_goals
       go_end0
       exact ⟨rfl,⟨_,FIN.out _ _ s1 s2,hMc⟩,(hfr.trans fra (fun _ _ e=>e)).trans frc (fun _ _ e=>e)⟩
     ·have k6:(mid:Int) < (e:Int):=by exact c4.2 k4
      clear c3 c4 hs1 hs2
      obtain ⟨lA1,lA2,lB1,lB2,lAB,lN⟩:=(show _∧_∧_∧_∧_∧_ from ⟨HLA.out,HLA2.out,HLB.out,HLB2.out,HAB.out,HLEN.out⟩)
      have lX:X.length=a:=HX.out
      have nA1:A1≠[]:=fun q=>by rw [q] at lA1;simp at lA1;omega
      have nA2:A2≠[]:=fun q=>by rw [q] at lA2;simp at lA2;omega
      have nB1:B1=[]:=List.eq_nil_of_length_eq_zero (by omega)
      have nB2:B2=[]:=List.eq_nil_of_length_eq_zero (by omega)
      have hMa:Mem wr g C (X ++ (A1 ++ (B1 ++ (A2 ++ (B2 ++ Y))))):=by
       have:=HM0.out
       rw [nB1] at this ⊢
       exact this
      have fra:Fr (· = g) wr wr:=Fr.refl _ _
      obtain ⟨R1,hR1⟩:∃ R1,A1 ++ B1=R1:=⟨_,rfl⟩
      have s1:StS elKey (A1 ++ B1) R1:=by
       rw [← hR1]
       refine StS.of_srt ?_
       rw [nB1]
       simpa using SA.out.1
      go_wp2_with fail
      all_goals
       go_end0
       have s2:StS elKey (A2 ++ B2) (A2 ++ B2):=by
        refine StS.of_srt ?_
        rw [nB2]
        simpa using SA.out.2
       refine ⟨rfl,⟨_,FIN.out _ _ s1 s2,?_⟩,hfr.trans fra (fun _ _ e=>e)⟩
       have:=(show Mem wr g C (X ++ (R1 ++ (A2 ++ (B2 ++ Y)))) from by rw [← hR1,List.append_assoc];exact hMa)
       rw [List.append_assoc,List.append_assoc]
       exact this
     ·have k6:¬ (mid:Int) < (e:Int):=by exact fun q=>k4 (c4.1 q)
      clear c3 c4 hs1 hs2
      obtain ⟨lA1,lA2,lB1,lB2,lAB,lN⟩:=(show _∧_∧_∧_∧_∧_ from ⟨HLA.out,HLA2.out,HLB.out,HLB2.out,HAB.out,HLEN.out⟩)
      have lX:X.length=a:=HX.out
      have nA1:A1≠[]:=fun q=>by rw [q] at lA1;simp at lA1;omega
      have nA2:A2=[]:=List.eq_nil_of_length_eq_zero (by omega)
      have nB1:B1=[]:=List.eq_nil_of_length_eq_zero (by omega)
      have nB2:B2≠[]:=fun q=>by rw [q] at lB2;simp at lB2;omega
      have hMa:Mem wr g C (X ++ (A1 ++ (B1 ++ (A2 ++ (B2 ++ Y))))):=by
       have:=HM0.out
       rw [nA2] at this ⊢
       exact this
      have fra:Fr (· = g) wr wr:=Fr.refl _ _
      obtain ⟨R1,hR1⟩:∃ R1,A1 ++ B1=R1:=⟨_,rfl⟩
      have s1:StS elKey (A1 ++ B1) R1:=by
       rw [← hR1]
       refine StS.of_srt ?_
       rw [nB1]
       simpa using SA.out.1
      go_wp2_with fail
      all_goals
       go_end0
       have s2:StS elKey (A2 ++ B2) (A2 ++ B2):=by
        refine StS.of_srt ?_
        rw [nA2]
        exact SB.out.2
       refine ⟨rfl,⟨_,FIN.out _ _ s1 s2,?_⟩,hfr.trans fra (fun _ _ e=>e)⟩
       have:=(show Mem wr g C (X ++ (R1 ++ (A2 ++ (B2 ++ Y)))) from by rw [← hR1,List.append_assoc];exact hMa)
       rw [List.append_assoc,List.append_assoc]
       exact this
    ·have k3:(i:Int) < (mid:Int):=by exact c3.2 k2
     rcases (show ((i:Int) < m∧(e:Int) < b)∨((i:Int) < m∧¬ (e:Int) < b)∨(¬ (i:Int) < m∧(e:Int) < b) by omega) with ⟨k4,k5⟩ | ⟨k4,k5⟩ | ⟨k4,k5⟩
     ·have k6:(mid:Int) < (e:Int):=by exact c4.2 k4
      clear c3 c4 hs1 hs2
      obtain ⟨lA1,lA2,lB1,lB2,lAB,lN⟩:=(show _∧_∧_∧_∧_∧_ from ⟨HLA.out,HLA2.out,HLB.out,HLB2.out,HAB.out,HLEN.out⟩)
      have lX:X.length=a:=HX.out
      have nA1:A1=[]:=List.eq_nil_of_length_eq_zero (by omega)
      have nA2:A2≠[]:=fun q=>by rw [q] at lA2;simp at lA2;omega
      have nB1:B1≠[]:=fun q=>by rw [q] at lB1;simp at lB1;omega
      have nB2:B2≠[]:=fun q=>by rw [q] at lB2;simp at lB2;omega
      have hR:Aside _:=fun w1=>rotate_ok (w:=w1) (g:=g) (C:=C) (cap:=cap) (a:=i) (m:=m) (b:=e) (X:=X ++ A1) (A:=A2) (B:=B1) (Y:=B2 ++ Y) (.func (.func 187) #[] #[])
      have hR2:Aside (Calls Tryz.prog 302 #[.slice (some ⟨g,0,none⟩) N cap,.int .i64 i,.int .i64 m,.int .i64 e,.func (.func 187) #[] #[]] wr fun e w'=>e = .returned (.tuple #[])∧Mem w' g C (X ++ (A1 ++ (B1 ++ (A2 ++ (B2 ++ Y)))))∧Fr (· = g) wr w'):=by
       show Calls _ _ _ _ _
       have hlN:((X ++ A1) ++ (A2 ++ (B1 ++ (B2 ++ Y)))).length=N:=by simp only [List.length_append];omega
       have:=hR.out wr (by rw [List.append_assoc];exact HM0.out) (by rw [hlN];omega) (by simp only [List.length_append];omega) (by omega) (by omega) nA2 nB1
       rw [hlN] at this
       refine this.mono ?_
       rintro e w' ⟨q1,q2,q3⟩
       rw [List.append_assoc] at q2
       exact ⟨q1,q2,q3⟩
      obtain ⟨R1,hR1⟩:∃ R1,A1 ++ B1=R1:=⟨_,rfl⟩
      have s1:StS elKey (A1 ++ B1) R1:=by
       rw [← hR1]
       refine StS.of_srt ?_
       rw [nA1]
       exact SB.out.1
      have hS2:Aside (∀ w1 R1,StS elKey (A1 ++ B1) R1→Mem w1 g C (X ++ (R1 ++ (A2 ++ (B2 ++ Y))))→Calls Tryz.prog 277 #[.slice (some ⟨g,0,none⟩) N cap,.int .i64 mid,.int .i64 e,.int .i64 b,.func (.func 187) #[] #[]] w1 fun e w'=>e = .returned (.tuple #[])∧(∃ R,StS elKey (A2 ++ B2) R∧Mem w' g C (X ++ ((R1 ++ R) ++ Y)))∧Fr (· = g) w1 w'):=fun w1 R1 s1 hM1=>by
       have lR:=s1.len
       simp only [List.length_append] at lR
       refine (HI.out w1 g C cap N mid e b (X ++ R1) A2 B2 Y (by omega) (by rw [List.append_assoc];exact hM1) (by simp only [List.length_append];omega) hl (by simp only [List.length_append];omega) (by omega) (by omega) nA2 nB2 SA.out.2 SB.out.2).mono ?_
       rintro e w' ⟨q1,⟨R,q2,q3⟩,q4⟩
       exact ⟨q1,⟨R,q2,by rw [List.append_assoc];rw [List.append_assoc] at q3;exact q3⟩,q4⟩
      go_wp2_with fail
      all_goals
       refine hR2.out.mono ?_
       rintro e w1 ⟨rfl,hMa,fra⟩
       go_wp2_with fail
      all_goals
       refine (hS2.out _ _ s1 (show Mem w1 g C (X ++ (R1 ++ (A2 ++ (B2 ++ Y)))) from by rw [← hR1,List.append_assoc];exact hMa)).mono ?_
       rintro e w3 ⟨rfl,⟨R2,s2,hMc⟩,frc⟩
       go_wp2_with fail
      all_goals
       go_end0
       exact ⟨rfl,⟨_,FIN.out _ _ s1 s2,hMc⟩,(hfr.trans fra (fun _ _ e=>e)).trans frc (fun _ _ e=>e)⟩
     ·have k6:(mid:Int) < (e:Int):=by exact c4.2 k4
      clear c3 c4 hs1 hs2
      obtain ⟨lA1,lA2,lB1,lB2,lAB,lN⟩:=(show _∧_∧_∧_∧_∧_ from ⟨HLA.out,HLA2.out,HLB.out,HLB2.out,HAB.out,HLEN.out⟩)
      have lX:X.length=a:=HX.out
      have nA1:A1=[]:=List.eq_nil_of_length_eq_zero (by omega)
      have nA2:A2≠[]:=fun q=>by rw [q] at lA2;simp at lA2;omega
      have nB1:B1≠[]:=fun q=>by rw [q] at lB1;simp at lB1;omega
      have nB2:B2=[]:=List.eq_nil_of_length_eq_zero (by omega)
      have hR:Aside _:=fun w1=>rotate_ok (w:=w1) (g:=g) (C:=C) (cap:=cap) (a:=i) (m:=m) (b:=e) (X:=X ++ A1) (A:=A2) (B:=B1) (Y:=B2 ++ Y) (.func (.func 187) #[] #[])
      have hR2:Aside (Calls Tryz.prog 302 #[.slice (some ⟨g,0,none⟩) N cap,.int .i64 i,.int .i64 m,.int .i64 e,.func (.func 187) #[] #[]] wr fun e w'=>e = .returned (.tuple #[])∧Mem w' g C (X ++ (A1 ++ (B1 ++ (A2 ++ (B2 ++ Y)))))∧Fr (· = g) wr w'):=by
       show Calls _ _ _ _ _
       have hlN:((X ++ A1) ++ (A2 ++ (B1 ++ (B2 ++ Y)))).length=N:=by simp only [List.length_append];omega
       have:=hR.out wr (by rw [List.append_assoc];exact HM0.out) (by rw [hlN];omega) (by simp only [List.length_append];omega) (by omega) (by omega) nA2 nB1
       rw [hlN] at this
       refine this.mono ?_
       rintro e w' ⟨q1,q2,q3⟩
       rw [List.append_assoc] at q2
       exact ⟨q1,q2,q3⟩
      obtain ⟨R1,hR1⟩:∃ R1,A1 ++ B1=R1:=⟨_,rfl⟩
      have s1:StS elKey (A1 ++ B1) R1:=by
       rw [← hR1]
       refine StS.of_srt ?_
       rw [nA1]
       exact SB.out.1
      go_wp2_with fail
      all_goals
       refine hR2.out.mono ?_
       rintro e w1 ⟨rfl,hMa,fra⟩
       go_wp2_with fail
      all_goals
       go_end0
       have s2:StS elKey (A2 ++ B2) (A2 ++ B2):=by
        refine StS.of_srt ?_
        rw [nB2]
        simpa using SA.out.2
       refine ⟨rfl,⟨_,FIN.out _ _ s1 s2,?_⟩,hfr.trans fra (fun _ _ e=>e)⟩
       have:=(show Mem w1 g C (X ++ (R1 ++ (A2 ++ (B2 ++ Y)))) from by rw [← hR1,List.append_assoc];exact hMa)
       rw [List.append_assoc,List.append_assoc]
       exact this
     ·have k6:¬ (mid:Int) < (e:Int):=by exact fun q=>k4 (c4.1 q)
      clear c3 c4 hs1 hs2
      obtain ⟨lA1,lA2,lB1,lB2,lAB,lN⟩:=(show _∧_∧_∧_∧_∧_ from ⟨HLA.out,HLA2.out,HLB.out,HLB2.out,HAB.out,HLEN.out⟩)
      have lX:X.length=a:=HX.out
      have nA1:A1=[]:=List.eq_nil_of_length_eq_zero (by omega)
      have nA2:A2=[]:=List.eq_nil_of_length_eq_zero (by omega)
      have nB1:B1≠[]:=fun q=>by rw [q] at lB1;simp at lB1;omega
      have nB2:B2≠[]:=fun q=>by rw [q] at lB2;simp at lB2;omega
      have hMa:Mem wr g C (X ++ (A1 ++ (B1 ++ (A2 ++ (B2 ++ Y))))):=by
       have:=HM0.out
       rw [nA2] at this ⊢
       exact this
      have fra:Fr (· = g) wr wr:=Fr.refl _ _
      obtain ⟨R1,hR1⟩:∃ R1,A1 ++ B1=R1:=⟨_,rfl⟩
      have s1:StS elKey (A1 ++ B1) R1:=by
       rw [← hR1]
       refine StS.of_srt ?_
       rw [nA1]
       exact SB.out.1
      go_wp2_with fail
      all_goals
       go_end0
       have s2:StS elKey (A2 ++ B2) (A2 ++ B2):=by
        refine StS.of_srt ?_
        rw [nA2]
        exact SB.out.2
       refine ⟨rfl,⟨_,FIN.out _ _ s1 s2,?_⟩,hfr.trans fra (fun _ _ e=>e)⟩
       have:=(show Mem wr g C (X ++ (R1 ++ (A2 ++ (B2 ++ Y)))) from by rw [← hR1,List.append_assoc];exact hMa)
       rw [List.append_assoc,List.append_assoc]
       exact this
 ·have hmm':¬ (mid:Int) < (m:Int):=by omega
  obtain ⟨r0,hr0⟩:∃ r0,m=r0:=⟨_,rfl⟩
  have f1:a≤a∧a≤r0∧r0≤m∧r0≤mid∧n≤a+b:=by omega
  have f3:a=a∨n - a=b:=by omega
  have f4:r0=m∨n - r0=m:=by omega
  have HNM:Hid (n=mid+m):=show _=_ by omega
  have F3:Hid _:=f3
  have F4:Hid _:=f4
  subst hr0
  clear f3 f4 hn hp
  unfold cmpF at *
  go_enter Tryz.func277,Tryz.ntmps277
  go_wp2_with fail
  go_loopg [20,21,23] (b - a) (fun k v1 v2 v3 wr=>∃ (i j:Nat),v1 = .int .i64 i∧v2 = .int .i64 j∧a≤i∧i≤j∧j≤m∧j - i≤k∧Aside (Mem wr g C L)∧Fr (· = g) w wr∧Hid (i=a∨kle (kat elKey L (i - 1)) (kat elKey L (n - i)))∧Hid (j=m∨klt (kat elKey L (p - j)) (kat elKey L j)))
  case atStart=>exact ⟨a,m,rfl,rfl,by omega,by omega,by omega,by omega,HM,Fr.refl _ _,.inl rfl,.inl rfl⟩
  case round =>
   clear HM
   obtain ⟨i,j,rfl,rfl,hmi,hij,hjb,hk,hM,hfr,hi,hj⟩:=hrel
   by_cases hlt:i < j
   ·have hlt':(i:Int) < (j:Int):=by omega
    obtain ⟨q,hq⟩:∃ q,(i+j) / 2=q:=⟨_,rfl⟩
    have hqr:i≤q∧q < j:=by omega
    obtain ⟨d,hd⟩:∃ d,p - q=d:=⟨_,rfl⟩
    have hdp:d+q=p:=by have:=HP.out;have:=HNM.out;omega
    have hdb:m≤d∧d < b:=by have:=HP.out;have:=HNM.out;omega
    obtain ⟨⟨kx,⟨Tx,ux⟩,tx⟩,hx⟩:∃ x,L[q]? = some x:=⟨_,List.getElem?_eq_getElem (by rw [HN.out];omega)⟩
    obtain ⟨⟨ky,⟨Ty,uy⟩,ty⟩,hy⟩:∃ y,L[d]? = some y:=⟨_,List.getElem?_eq_getElem (by rw [HN.out];omega)⟩
    obtain ⟨x0,x1⟩:=hM.out.at hx
    obtain ⟨y0,y1⟩:=hM.out.at hy
    simp only [iv] at x0 x1 y0 y1
    have hql:(q:Int) < (N:Int):=by omega
    have hq0:(0:Int)≤(q:Int):=by omega
    have hdl:(d:Int) < (N:Int):=by omega
    have hd0:(0:Int)≤(d:Int):=by omega
    have hvl:=hM.out.lt
    have eq:((i:Int)+(j:Int)) / 2=(q:Int):=by omega
    have ed:(p:Int) - (q:Int)=(d:Int):=by omega
    have wd:IntKind.i64.wrap (d:Int)=(d:Int):=by rw [IntKind.wrap_i64];omega
    have HD:Hid _:=hdp
    clear hq hd hdp
    have hcm:=memCmp_ok hC ky kx Ty Tx uy ux
    obtain ⟨cc,hcc⟩:∃ cc,Lib.compareBytes ky.data.toList kx.data.toList=cc:=⟨_,rfl⟩
    simp only [hcc] at hcm
    have HCC:Hid _:=hcc
    clear hcc
    have hM1:∀ n w1,Below (wr.drewN n).heap.size (wr.drewN n) w1→Mem w1 g C L:=fun n w1 k1=>hM.out.same ((k1.block g (by simpa using hvl)).trans rfl)
    have fr1:∀ n w1,Below (wr.drewN n).heap.size (wr.drewN n) w1→Fr (· = g) w w1:=fun n w1 k1=>(hfr.drewN n).trans (Fr.of_below (D:=(· = g)) k1) (fun _ _ e=>e)
    have hkx:kat elKey L q=kx.data.toList:=kat_some hx
    have hky:kat elKey L d=ky.data.toList:=kat_some hy
    have hnq:n - (q+1)=d:=by have:=HD.out;have:=HP.out;omega
    have hpq:p - q=d:=by have:=HD.out;omega
    have HNQ:Hid _:=hnq
    have HPQ:Hid _:=hpq
    clear hnq hpq
    by_cases hc:cc < 0
    ·have hc':decide (cc < 0)=true:=by simpa using hc
     go_wp2_with fail
     go_region_held3 (fun w'=>w'.cell? ⟨g,q * 2,none⟩=some (.string kx)∧w'.cell? ⟨g,q * 2+1,none⟩=some (.iface Tx ux)∧w'.cell? ⟨g,d * 2,none⟩=some (.string ky)∧w'.cell? ⟨g,d * 2+1,none⟩=some (.iface Ty uy)) (first | exact e4 | go_keep)
      (first | (go_at_call 187;refine (hcm _).mono ?_;rintro e w1 ⟨rfl,k1⟩;have e4:w1.cell? ⟨g,q * 2,none⟩=some (.string kx)∧w1.cell? ⟨g,q * 2+1,none⟩=some (.iface Tx ux)∧w1.cell? ⟨g,d * 2,none⟩=some (.string ky)∧w1.cell? ⟨g,d * 2+1,none⟩=some (.iface Ty uy):=⟨(k1.cell (p:=⟨g,q * 2,none⟩) (by simpa using hvl)).trans (by simpa using x0),(k1.cell (p:=⟨g,q * 2+1,none⟩) (by simpa using hvl)).trans (by simpa using x1),(k1.cell (p:=⟨g,d * 2,none⟩) (by simpa using hvl)).trans (by simpa using y0),(k1.cell (p:=⟨g,d * 2+1,none⟩) (by simpa using hvl)).trans (by simpa using y1)⟩))
     have hM2:=hM1 _ _ k1
     have fr2:=fr1 _ _ k1
     go_wp2_with fail
     go_roundg (q - i)
     case measure=>omega
     case rel =>
      refine ⟨i,q,rfl,rfl,hmi,by omega,by omega,by omega,hM2,fr2,hi,.inr ?_⟩
      rw [HPQ.out,hkx,hky,klt,HCC.out]
      exact hc
    ·have hc':decide (cc < 0)=false:=by simpa using hc
     go_wp2_with fail
     go_region_held3 (fun w'=>w'.cell? ⟨g,q * 2,none⟩=some (.string kx)∧w'.cell? ⟨g,q * 2+1,none⟩=some (.iface Tx ux)∧w'.cell? ⟨g,d * 2,none⟩=some (.string ky)∧w'.cell? ⟨g,d * 2+1,none⟩=some (.iface Ty uy)) (first | exact e4 | go_keep)
      (first | (go_at_call 187;refine (hcm _).mono ?_;rintro e w1 ⟨rfl,k1⟩;have e4:w1.cell? ⟨g,q * 2,none⟩=some (.string kx)∧w1.cell? ⟨g,q * 2+1,none⟩=some (.iface Tx ux)∧w1.cell? ⟨g,d * 2,none⟩=some (.string ky)∧w1.cell? ⟨g,d * 2+1,none⟩=some (.iface Ty uy):=⟨(k1.cell (p:=⟨g,q * 2,none⟩) (by simpa using hvl)).trans (by simpa using x0),(k1.cell (p:=⟨g,q * 2+1,none⟩) (by simpa using hvl)).trans (by simpa using x1),(k1.cell (p:=⟨g,d * 2,none⟩) (by simpa using hvl)).trans (by simpa using y0),(k1.cell (p:=⟨g,d * 2+1,none⟩) (by simpa using hvl)).trans (by simpa using y1)⟩))
     have hM2:=hM1 _ _ k1
     have fr2:=fr1 _ _ k1
     go_wp2_with fail
     go_roundg (j - (q+1))
     case measure=>omega
     case rel =>
      refine ⟨q+1,j,by go_num,rfl,by omega,by omega,hjb,by omega,hM2,fr2,.inr ?_,hj⟩
      rw [Nat.add_sub_cancel,HNQ.out,hkx,hky,kle,HCC.out]
      omega
   ·have hlt':¬ (i:Int) < (j:Int):=by omega
    obtain rfl:i=j:=by omega
    obtain ⟨e,he⟩:∃ e,n - i=e:=⟨_,rfl⟩
    have ee:(n:Int) - (i:Int)=(e:Int):=by have:=HNM.out;omega
    have her:m≤e∧e≤b∧e+i=n:=by have:=HNM.out;omega
    have hcut:Cut L a m b i e:=by
     refine ⟨?_,?_⟩
     ·rcases hi.out with h | h
      ·rcases F3.out with h' | h'
       ·exact .inl (by omega)
       ·exact .inr (.inl (by omega))
      ·rw [he] at h
       exact .inr (.inr h)
     ·rcases hj.out with h | h
      ·rcases F4.out with h' | h'
       ·exact .inl (by omega)
       ·exact .inr (.inl (by omega))
      ·rw [show p - i=e - 1 by have:=HP.out;have:=HNM.out;omega] at h
       exact .inr (.inr h)
    obtain ⟨A1,A2,eA,lA1,lA2⟩:∃ A1 A2:List El,A=A1 ++ A2∧A1.length+a=i∧A2.length+i=m:=⟨A.take (i - a),A.drop (i - a),(List.take_append_drop _ _).symm,by simp;omega,by simp;omega⟩
    obtain ⟨B1,B2,eB,lB1,lB2⟩:∃ B1 B2:List El,B=B1 ++ B2∧B1.length+m=e∧B2.length+e=b:=⟨B.take (e - m),B.drop (e - m),(List.take_append_drop _ _).symm,by simp;omega,by simp;omega⟩
    have hsA:=srt_parts (eA ▸ HA.out)
    have hsB:=srt_parts (eB ▸ HB.out)
    have fin:∀ R1 R2,StS elKey (A1 ++ B1) R1→StS elKey (A2 ++ B2) R2→StS elKey (A ++ B) (R1 ++ R2):=fun R1 R2 s1 s2=>cut_sts HL.out ha hm hb HA.out HB.out hcut eA eB lA1 lB1 s1 s2
    have hM0:Mem wr g C (X ++ (A1 ++ (A2 ++ (B1 ++ (B2 ++ Y))))):=by
     have:=hM.out
     rw [← HL.out,eA,eB] at this
     simpa using this
    have hlen:a+(A1.length+(A2.length+(B1.length+(B2.length+Y.length))))=N:=by
     have:=hN'
     rw [eA,eB,List.length_append,List.length_append] at this
     omega
    have HM0:Aside _:=hM0
    have SA:Aside _:=hsA
    have SB:Aside _:=hsB
    have FIN:Aside _:=fin
    have HE:Hid _:=her
    have c3:(i:Int) < (mid:Int)↔(m:Int) < (e:Int):=by have:=HNM.out;omega
    have c4:(mid:Int) < (e:Int)↔(i:Int) < (m:Int):=by have:=HNM.out;omega
    have hAB1:A1.length+B1.length+a=mid∧A1.length+B1.length≤K∧A2.length+B2.length≤K∧A2.length+mid=e:=by
     have:A.length=A1.length+A2.length:=by rw [eA,List.length_append]
     have:B.length=B1.length+B2.length:=by rw [eB,List.length_append]
     have:=HNM.out
     omega
    have HAB:Hid _:=hAB1
    have HLA:Hid _:=lA1
    have HLA2:Hid _:=lA2
    have HLB:Hid _:=lB1
    have HLB2:Hid _:=lB2
    have HLEN:Hid _:=hlen
    have hs1:¬ ((i:Int)≤a∧(e:Int)≤m):=by have:=HNM.out;omega
    have hs2:¬ ((m:Int)≤i∧(b:Int)≤e):=by have:=HNM.out;omega
    clear hM0 hsA hsB fin her hM hi hj F3 F4 HL HN eA eB hcut HMID HNN HP he hAB1 lA1 lA2 lB1 lB2 hlen hK hN' hm ha hb hnle hmid3 f1 hmi hjb
    rcases (show ((a:Int) < i∧(m:Int) < e)∨((a:Int) < i∧¬ (m:Int) < e)∨(¬ (a:Int) < i∧(m:Int) < e) by omega) with ⟨k1,k2⟩ | ⟨k1,k2⟩ | ⟨k1,k2⟩
    ·have k3:(i:Int) < (mid:Int):=by exact c3.2 k2
     rcases (show ((i:Int) < m∧(e:Int) < b)∨((i:Int) < m∧¬ (e:Int) < b)∨(¬ (i:Int) < m∧(e:Int) < b) by omega) with ⟨k4,k5⟩ | ⟨k4,k5⟩ | ⟨k4,k5⟩
     ·have k6:(mid:Int) < (e:Int):=by exact c4.2 k4
      clear c3 c4 hs1 hs2
      obtain ⟨lA1,lA2,lB1,lB2,lAB,lN⟩:=(show _∧_∧_∧_∧_∧_ from ⟨HLA.out,HLA2.out,HLB.out,HLB2.out,HAB.out,HLEN.out⟩)
      have lX:X.length=a:=HX.out
      have nA1:A1≠[]:=fun q=>by rw [q] at lA1;simp at lA1;omega
      have nA2:A2≠[]:=fun q=>by rw [q] at lA2;simp at lA2;omega
      have nB1:B1≠[]:=fun q=>by rw [q] at lB1;simp at lB1;omega
      have nB2:B2≠[]:=fun q=>by rw [q] at lB2;simp at lB2;omega
      have hR:Aside _:=fun w1=>rotate_ok (w:=w1) (g:=g) (C:=C) (cap:=cap) (a:=i) (m:=m) (b:=e) (X:=X ++ A1) (A:=A2) (B:=B1) (Y:=B2 ++ Y) (.func (.func 187) #[] #[])
      have hR2:Aside (Calls Tryz.prog 302 #[.slice (some ⟨g,0,none⟩) N cap,.int .i64 i,.int .i64 m,.int .i64 e,.func (.func 187) #[] #[]] wr fun e w'=>e = .returned (.tuple #[])∧Mem w' g C (X ++ (A1 ++ (B1 ++ (A2 ++ (B2 ++ Y)))))∧Fr (· = g) wr w'):=by
       show Calls _ _ _ _ _
       have hlN:((X ++ A1) ++ (A2 ++ (B1 ++ (B2 ++ Y)))).length=N:=by simp only [List.length_append];omega
       have:=hR.out wr (by rw [List.append_assoc];exact HM0.out) (by rw [hlN];omega) (by simp only [List.length_append];omega) (by omega) (by omega) nA2 nB1
       rw [hlN] at this
       refine this.mono ?_
       rintro e w' ⟨q1,q2,q3⟩
       rw [List.append_assoc] at q2
       exact ⟨q1,q2,q3⟩
      have hS1:Aside (∀ w1,Mem w1 g C (X ++ (A1 ++ (B1 ++ (A2 ++ (B2 ++ Y)))))→Calls Tryz.prog 277 #[.slice (some ⟨g,0,none⟩) N cap,.int .i64 a,.int .i64 i,.int .i64 mid,.func (.func 187) #[] #[]] w1 fun e w'=>e = .returned (.tuple #[])∧(∃ R,StS elKey (A1 ++ B1) R∧Mem w' g C (X ++ (R ++ (A2 ++ (B2 ++ Y)))))∧Fr (· = g) w1 w'):=fun w1 hM1=>HI.out w1 g C cap N a i mid X A1 B1 (A2 ++ (B2 ++ Y)) (by omega) hM1 (by simp only [List.length_append];omega) hl lX (by omega) (by omega) nA1 nB1 SA.out.1 SB.out.1
      have hS2:Aside (∀ w1 R1,StS elKey (A1 ++ B1) R1→Mem w1 g C (X ++ (R1 ++ (A2 ++ (B2 ++ Y))))→Calls Tryz.prog 277 #[.slice (some ⟨g,0,none⟩) N cap,.int .i64 mid,.int .i64 e,.int .i64 b,.func (.func 187) #[] #[]] w1 fun e w'=>e = .returned (.tuple #[])∧(∃ R,StS elKey (A2 ++ B2) R∧Mem w' g C (X ++ ((R1 ++ R) ++ Y)))∧Fr (· = g) w1 w'):=fun w1 R1 s1 hM1=>by
       have lR:=s1.len
       simp only [List.length_append] at lR
       refine (HI.out w1 g C cap N mid e b (X ++ R1) A2 B2 Y (by omega) (by rw [List.append_assoc];exact hM1) (by simp only [List.length_append];omega) hl (by simp only [List.length_append];omega) (by omega) (by omega) nA2 nB2 SA.out.2 SB.out.2).mono ?_
       rintro e w' ⟨q1,⟨R,q2,q3⟩,q4⟩
       exact ⟨q1,⟨R,q2,by rw [List.append_assoc];rw [List.append_assoc] at q3;exact q3⟩,q4⟩
      go_wp2_with fail
      all_goals
       refine hR2.out.mono ?_
       rintro e w1 ⟨rfl,hMa,fra⟩
       go_wp2_with fail
      all_goals
       refine (hS1.out _ hMa).mono ?_
       rintro e w2 ⟨rfl,⟨R1,s1,hMb⟩,frb⟩
       go_wp2_with fail
      all_goals
       refine (hS2.out _ _ s1 hMb).mono ?_
       rintro e w3 ⟨rfl,⟨R2,s2,hMc⟩,frc⟩
       go_wp2_with fail
      all_goals
       go_end0
       exact ⟨rfl,⟨_,FIN.out _ _ s1 s2,hMc⟩,((hfr.trans fra (fun _ _ e=>e)).trans frb (fun _ _ e=>e)).trans frc (fun _ _ e=>e)⟩
     ·have k6:(mid:Int) < (e:Int):=by exact c4.2 k4
      clear c3 c4 hs1 hs2
      obtain ⟨lA1,lA2,lB1,lB2,lAB,lN⟩:=(show _∧_∧_∧_∧_∧_ from ⟨HLA.out,HLA2.out,HLB.out,HLB2.out,HAB.out,HLEN.out⟩)
      have lX:X.length=a:=HX.out
      have nA1:A1≠[]:=fun q=>by rw [q] at lA1;simp at lA1;omega
      have nA2:A2≠[]:=fun q=>by rw [q] at lA2;simp at lA2;omega
      have nB1:B1≠[]:=fun q=>by rw [q] at lB1;simp at lB1;omega
      have nB2:B2=[]:=List.eq_nil_of_length_eq_zero (by omega)
      have hR:Aside _:=fun w1=>rotate_ok (w:=w1) (g:=g) (C:=C) (cap:=cap) (a:=i) (m:=m) (b:=e) (X:=X ++ A1) (A:=A2) (B:=B1) (Y:=B2 ++ Y) (.func (.func 187) #[] #[])
      have hR2:Aside (Calls Tryz.prog 302 #[.slice (some ⟨g,0,none⟩) N cap,.int .i64 i,.int .i64 m,.int .i64 e,.func (.func 187) #[] #[]] wr fun e w'=>e = .returned (.tuple #[])∧Mem w' g C (X ++ (A1 ++ (B1 ++ (A2 ++ (B2 ++ Y)))))∧Fr (· = g) wr w'):=by
       show Calls _ _ _ _ _
       have hlN:((X ++ A1) ++ (A2 ++ (B1 ++ (B2 ++ Y)))).length=N:=by simp only [List.length_append];omega
       have:=hR.out wr (by rw [List.append_assoc];exact HM0.out) (by rw [hlN];omega) (by simp only [List.length_append];omega) (by omega) (by omega) nA2 nB1
       rw [hlN] at this
       refine this.mono ?_
       rintro e w' ⟨q1,q2,q3⟩
       rw [List.append_assoc] at q2
       exact ⟨q1,q2,q3⟩
      have hS1:Aside (∀ w1,Mem w1 g C (X ++ (A1 ++ (B1 ++ (A2 ++ (B2 ++ Y)))))→Calls Tryz.prog 277 #[.slice (some ⟨g,0,none⟩) N cap,.int .i64 a,.int .i64 i,.int .i64 mid,.func (.func 187) #[] #[]] w1 fun e w'=>e = .returned (.tuple #[])∧(∃ R,StS elKey (A1 ++ B1) R∧Mem w' g C (X ++ (R ++ (A2 ++ (B2 ++ Y)))))∧Fr (· = g) w1 w'):=fun w1 hM1=>HI.out w1 g C cap N a i mid X A1 B1 (A2 ++ (B2 ++ Y)) (by omega) hM1 (by simp only [List.length_append];omega) hl lX (by omega) (by omega) nA1 nB1 SA.out.1 SB.out.1
      go_wp2_with fail
      all_goals
       refine hR2.out.mono ?_
       rintro e w1 ⟨rfl,hMa,fra⟩
       go_wp2_with fail
      all_goals
       refine (hS1.out _ hMa).mono ?_
       rintro e w2 ⟨rfl,⟨R1,s1,hMb⟩,frb⟩
       go_wp2_with fail
      all_goals
       go_end0
       have s2:StS elKey (A2 ++ B2) (A2 ++ B2):=by
        refine StS.of_srt ?_
        rw [nB2]
        simpa using SA.out.2
       refine ⟨rfl,⟨_,FIN.out _ _ s1 s2,?_⟩,(hfr.trans fra (fun _ _ e=>e)).trans frb (fun _ _ e=>e)⟩
       have:=hMb
       rw [List.append_assoc,List.append_assoc]
       exact this
     ·have k6:¬ (mid:Int) < (e:Int):=by exact fun q=>k4 (c4.1 q)
      clear c3 c4 hs1 hs2
      obtain ⟨lA1,lA2,lB1,lB2,lAB,lN⟩:=(show _∧_∧_∧_∧_∧_ from ⟨HLA.out,HLA2.out,HLB.out,HLB2.out,HAB.out,HLEN.out⟩)
      have lX:X.length=a:=HX.out
      have nA1:A1≠[]:=fun q=>by rw [q] at lA1;simp at lA1;omega
      have nA2:A2=[]:=List.eq_nil_of_length_eq_zero (by omega)
      have nB1:B1≠[]:=fun q=>by rw [q] at lB1;simp at lB1;omega
      have nB2:B2≠[]:=fun q=>by rw [q] at lB2;simp at lB2;omega
      have hMa:Mem wr g C (X ++ (A1 ++ (B1 ++ (A2 ++ (B2 ++ Y))))):=by
       have:=HM0.out
       rw [nA2] at this ⊢
       exact this
      have fra:Fr (· = g) wr wr:=Fr.refl _ _
      have hS1:Aside (∀ w1,Mem w1 g C (X ++ (A1 ++ (B1 ++ (A2 ++ (B2 ++ Y)))))→Calls Tryz.prog 277 #[.slice (some ⟨g,0,none⟩) N cap,.int .i64 a,.int .i64 i,.int .i64 mid,.func (.func 187) #[] #[]] w1 fun e w'=>e = .returned (.tuple #[])∧(∃ R,StS elKey (A1 ++ B1) R∧Mem w' g C (X ++ (R ++ (A2 ++ (B2 ++ Y)))))∧Fr (· = g) w1 w'):=fun w1 hM1=>HI.out w1 g C cap N a i mid X A1 B1 (A2 ++ (B2 ++ Y)) (by omega) hM1 (by simp only [List.length_append];omega) hl lX (by omega) (by omega) nA1 nB1 SA.out.1 SB.out.1
      go_wp2_with fail
      all_goals
       refine (hS1.out _ hMa).mono ?_
       rintro e w2 ⟨rfl,⟨R1,s1,hMb⟩,frb⟩
       go_wp2_with fail
      all_goals
       go_end0
       have s2:StS elKey (A2 ++ B2) (A2 ++ B2):=by
        refine StS.of_srt ?_
        rw [nA2]
        exact SB.out.2
       refine ⟨rfl,⟨_,FIN.out _ _ s1 s2,?_⟩,(hfr.trans fra (fun _ _ e=>e)).trans frb (fun _ _ e=>e)⟩
       have:=hMb
       rw [List.append_assoc,List.append_assoc]
       exact this
    ·have k3:¬ (i:Int) < (mid:Int):=by exact fun q=>k2 (c3.1 q)
     rcases (show ((i:Int) < m∧(e:Int) < b)∨((i:Int) < m∧¬ (e:Int) < b)∨(¬ (i:Int) < m∧(e:Int) < b) by omega) with ⟨k4,k5⟩ | ⟨k4,k5⟩ | ⟨k4,k5⟩
     ·have k6:(mid:Int) < (e:Int):=by exact c4.2 k4
      clear c3 c4 hs1 hs2
      obtain ⟨lA1,lA2,lB1,lB2,lAB,lN⟩:=(show _∧_∧_∧_∧_∧_ from ⟨HLA.out,HLA2.out,HLB.out,HLB2.out,HAB.out,HLEN.out⟩)
      have lX:X.length=a:=HX.out
      have nA1:A1≠[]:=fun q=>by rw [q] at lA1;simp at lA1;omega
      have nA2:A2≠[]:=fun q=>by rw [q] at lA2;simp at lA2;omega
      have nB1:B1=[]:=List.eq_nil_of_length_eq_zero (by omega)
      have nB2:B2≠[]:=fun q=>by rw [q] at lB2;simp at lB2;omega
      have hMa:Mem wr g C (X ++ (A1 ++ (B1 ++ (A2 ++ (B2 ++ Y))))):=by
       have:=HM0.out
       rw [nB1] at this ⊢
       exact this
      have fra:Fr (· = g) wr wr:=Fr.refl _ _
      obtain ⟨R1,hR1⟩:∃ R1,A1 ++ B1=R1:=⟨_,rfl⟩
      have s1:StS elKey (A1 ++ B1) R1:=by
       rw [← hR1]
       refine StS.of_srt ?_
       rw [nB1]
       simpa using SA.out.1
      have hS2:Aside (∀ w1 R1,StS elKey (A1 ++ B1) R1→Mem w1 g C (X ++ (R1 ++ (A2 ++ (B2 ++ Y))))→Calls Tryz.prog 277 #[.slice (some ⟨g,0,none⟩) N cap,.int .i64 mid,.int .i64 e,.int .i64 b,.func (.func 187) #[] #[]] w1 fun e w'=>e = .returned (.tuple #[])∧(∃ R,StS elKey (A2 ++ B2) R∧Mem w' g C (X ++ ((R1 ++ R) ++ Y)))∧Fr (· = g) w1 w'):=fun w1 R1 s1 hM1=>by
       have lR:=s1.len
       simp only [List.length_append] at lR
       refine (HI.out w1 g C cap N mid e b (X ++ R1) A2 B2 Y (by omega) (by rw [List.append_assoc];exact hM1) (by simp only [List.length_append];omega) hl (by simp only [List.length_append];omega) (by omega) (by omega) nA2 nB2 SA.out.2 SB.out.2).mono ?_
       rintro e w' ⟨q1,⟨R,q2,q3⟩,q4⟩
       exact ⟨q1,⟨R,q2,by rw [List.append_assoc];rw [List.append_assoc] at q3;exact q3⟩,q4⟩
      go_wp2_with fail
      all_goals
       refine (hS2.out _ _ s1 (show Mem wr g C (X ++ (R1 ++ (A2 ++ (B2 ++ Y)))) from by rw [← hR1,List.append_assoc];exact hMa)).mono ?_
       rintro e w3 ⟨rfl,⟨R2,s2,hMc⟩,frc⟩
       go_wp2_with fail
      all_goals
       go_end0
       exact ⟨rfl,⟨_,FIN.out _ _ s1 s2,hMc⟩,(hfr.trans fra (fun _ _ e=>e)).trans frc (fun _ _ e=>e)⟩
     ·have k6:(mid:Int) < (e:Int):=by exact c4.2 k4
      clear c3 c4 hs1 hs2
      obtain ⟨lA1,lA2,lB1,lB2,lAB,lN⟩:=(show _∧_∧_∧_∧_∧_ from ⟨HLA.out,HLA2.out,HLB.out,HLB2.out,HAB.out,HLEN.out⟩)
      have lX:X.length=a:=HX.out
      have nA1:A1≠[]:=fun q=>by rw [q] at lA1;simp at lA1;omega
      have nA2:A2≠[]:=fun q=>by rw [q] at lA2;simp at lA2;omega
      have nB1:B1=[]:=List.eq_nil_of_length_eq_zero (by omega)
      have nB2:B2=[]:=List.eq_nil_of_length_eq_zero (by omega)
      have hMa:Mem wr g C (X ++ (A1 ++ (B1 ++ (A2 ++ (B2 ++ Y))))):=by
       have:=HM0.out
       rw [nB1] at this ⊢
       exact this
      have fra:Fr (· = g) wr wr:=Fr.refl _ _
      obtain ⟨R1,hR1⟩:∃ R1,A1 ++ B1=R1:=⟨_,rfl⟩
      have s1:StS elKey (A1 ++ B1) R1:=by
       rw [← hR1]
       refine StS.of_srt ?_
       rw [nB1]
       simpa using SA.out.1
      go_wp2_with fail
      all_goals
       go_end0
       have s2:StS elKey (A2 ++ B2) (A2 ++ B2):=by
        refine StS.of_srt ?_
        rw [nB2]
        simpa using SA.out.2
       refine ⟨rfl,⟨_,FIN.out _ _ s1 s2,?_⟩,hfr.trans fra (fun _ _ e=>e)⟩
       have:=(show Mem wr g C (X ++ (R1 ++ (A2 ++ (B2 ++ Y)))) from by rw [← hR1,List.append_assoc];exact hMa)
       rw [List.append_assoc,List.append_assoc]
       exact this
     ·have k6:¬ (mid:Int) < (e:Int):=by exact fun q=>k4 (c4.1 q)
      clear c3 c4 hs1 hs2
      obtain ⟨lA1,lA2,lB1,lB2,lAB,lN⟩:=(show _∧_∧_∧_∧_∧_ from ⟨HLA.out,HLA2.out,HLB.out,HLB2.out,HAB.out,HLEN.out⟩)
      have lX:X.length=a:=HX.out
      have nA1:A1≠[]:=fun q=>by rw [q] at lA1;simp at lA1;omega
      have nA2:A2=[]:=List.eq_nil_of_length_eq_zero (by omega)
      have nB1:B1=[]:=List.eq_nil_of_length_eq_zero (by omega)
      have nB2:B2≠[]:=fun q=>by rw [q] at lB2;simp at lB2;omega
      have hMa:Mem wr g C (X ++ (A1 ++ (B1 ++ (A2 ++ (B2 ++ Y))))):=by
       have:=HM0.out
       rw [nA2] at this ⊢
       exact this
      have fra:Fr (· = g) wr wr:=Fr.refl _ _
      obtain ⟨R1,hR1⟩:∃ R1,A1 ++ B1=R1:=⟨_,rfl⟩
      have s1:StS elKey (A1 ++ B1) R1:=by
       rw [← hR1]
       refine StS.of_srt ?_
       rw [nB1]
       simpa using SA.out.1
      go_wp2_with fail
      all_goals
       go_end0
       have s2:StS elKey (A2 ++ B2) (A2 ++ B2):=by
        refine StS.of_srt ?_
        rw [nA2]
        exact SB.out.2
       refine ⟨rfl,⟨_,FIN.out _ _ s1 s2,?_⟩,hfr.trans fra (fun _ _ e=>e)⟩
       have:=(show Mem wr g C (X ++ (R1 ++ (A2 ++ (B2 ++ Y)))) from by rw [← hR1,List.append_assoc];exact hMa)
       rw [List.append_assoc,List.append_assoc]
       exact this
    ·have k3:(i:Int) < (mid:Int):=by exact c3.2 k2
     rcases (show ((i:Int) < m∧(e:Int) < b)∨((i:Int) < m∧¬ (e:Int) < b)∨(¬ (i:Int) < m∧(e:Int) < b) by omega) with ⟨k4,k5⟩ | ⟨k4,k5⟩ | ⟨k4,k5⟩
     ·have k6:(mid:Int) < (e:Int):=by exact c4.2 k4
      clear c3 c4 hs1 hs2
      obtain ⟨lA1,lA2,lB1,lB2,lAB,lN⟩:=(show _∧_∧_∧_∧_∧_ from ⟨HLA.out,HLA2.out,HLB.out,HLB2.out,HAB.out,HLEN.out⟩)
      have lX:X.length=a:=HX.out
      have nA1:A1=[]:=List.eq_nil_of_length_eq_zero (by omega)
      have nA2:A2≠[]:=fun q=>by rw [q] at lA2;simp at lA2;omega
      have nB1:B1≠[]:=fun q=>by rw [q] at lB1;simp at lB1;omega
      have nB2:B2≠[]:=fun q=>by rw [q] at lB2;simp at lB2;omega
      have hR:Aside _:=fun w1=>rotate_ok (w:=w1) (g:=g) (C:=C) (cap:=cap) (a:=i) (m:=m) (b:=e) (X:=X ++ A1) (A:=A2) (B:=B1) (Y:=B2 ++ Y) (.func (.func 187) #[] #[])
      have hR2:Aside (Calls Tryz.prog 302 #[.slice (some ⟨g,0,none⟩) N cap,.int .i64 i,.int .i64 m,.int .i64 e,.func (.func 187) #[] #[]] wr fun e w'=>e = .returned (.tuple #[])∧Mem w' g C (X ++ (A1 ++ (B1 ++ (A2 ++ (B2 ++ Y)))))∧Fr (· = g) wr w'):=by
       show Calls _ _ _ _ _
       have hlN:((X ++ A1) ++ (A2 ++ (B1 ++ (B2 ++ Y)))).length=N:=by simp only [List.length_append];omega
       have:=hR.out wr (by rw [List.append_assoc];exact HM0.out) (by rw [hlN];omega) (by simp only [List.length_append];omega) (by omega) (by omega) nA2 nB1
       rw [hlN] at this
       refine this.mono ?_
       rintro e w' ⟨q1,q2,q3⟩
       rw [List.append_assoc] at q2
       exact ⟨q1,q2,q3⟩
      obtain ⟨R1,hR1⟩:∃ R1,A1 ++ B1=R1:=⟨_,rfl⟩
      have s1:StS elKey (A1 ++ B1) R1:=by
       rw [← hR1]
       refine StS.of_srt ?_
       rw [nA1]
       exact SB.out.1
      have hS2:Aside (∀ w1 R1,StS elKey (A1 ++ B1) R1→Mem w1 g C (X ++ (R1 ++ (A2 ++ (B2 ++ Y))))→Calls Tryz.prog 277 #[.slice (some ⟨g,0,none⟩) N cap,.int .i64 mid,.int .i64 e,.int .i64 b,.func (.func 187) #[] #[]] w1 fun e w'=>e = .returned (.tuple #[])∧(∃ R,StS elKey (A2 ++ B2) R∧Mem w' g C (X ++ ((R1 ++ R) ++ Y)))∧Fr (· = g) w1 w'):=fun w1 R1 s1 hM1=>by
       have lR:=s1.len
       simp only [List.length_append] at lR
       refine (HI.out w1 g C cap N mid e b (X ++ R1) A2 B2 Y (by omega) (by rw [List.append_assoc];exact hM1) (by simp only [List.length_append];omega) hl (by simp only [List.length_append];omega) (by omega) (by omega) nA2 nB2 SA.out.2 SB.out.2).mono ?_
       rintro e w' ⟨q1,⟨R,q2,q3⟩,q4⟩
       exact ⟨q1,⟨R,q2,by rw [List.append_assoc];rw [List.append_assoc] at q3;exact q3⟩,q4⟩
      go_wp2_with fail
      all_goals
       refine hR2.out.mono ?_
       rintro e w1 ⟨rfl,hMa,fra⟩
       go_wp2_with fail
      all_goals
       refine (hS2.out _ _ s1 (show Mem w1 g C (X ++ (R1 ++ (A2 ++ (B2 ++ Y)))) from by rw [← hR1,List.append_assoc];exact hMa)).mono ?_
       rintro e w3 ⟨rfl,⟨R2,s2,hMc⟩,frc⟩
       go_wp2_with fail
      all_goals
       go_end0
       exact ⟨rfl,⟨_,FIN.out _ _ s1 s2,hMc⟩,(hfr.trans fra (fun _ _ e=>e)).trans frc (fun _ _ e=>e)⟩
     ·have k6:(mid:Int) < (e:Int):=by exact c4.2 k4
      clear c3 c4 hs1 hs2
      obtain ⟨lA1,lA2,lB1,lB2,lAB,lN⟩:=(show _∧_∧_∧_∧_∧_ from ⟨HLA.out,HLA2.out,HLB.out,HLB2.out,HAB.out,HLEN.out⟩)
      have lX:X.length=a:=HX.out
      have nA1:A1=[]:=List.eq_nil_of_length_eq_zero (by omega)
      have nA2:A2≠[]:=fun q=>by rw [q] at lA2;simp at lA2;omega
      have nB1:B1≠[]:=fun q=>by rw [q] at lB1;simp at lB1;omega
      have nB2:B2=[]:=List.eq_nil_of_length_eq_zero (by omega)
      have hR:Aside _:=fun w1=>rotate_ok (w:=w1) (g:=g) (C:=C) (cap:=cap) (a:=i) (m:=m) (b:=e) (X:=X ++ A1) (A:=A2) (B:=B1) (Y:=B2 ++ Y) (.func (.func 187) #[] #[])
      have hR2:Aside (Calls Tryz.prog 302 #[.slice (some ⟨g,0,none⟩) N cap,.int .i64 i,.int .i64 m,.int .i64 e,.func (.func 187) #[] #[]] wr fun e w'=>e = .returned (.tuple #[])∧Mem w' g C (X ++ (A1 ++ (B1 ++ (A2 ++ (B2 ++ Y)))))∧Fr (· = g) wr w'):=by
       show Calls _ _ _ _ _
       have hlN:((X ++ A1) ++ (A2 ++ (B1 ++ (B2 ++ Y)))).length=N:=by simp only [List.length_append];omega
       have:=hR.out wr (by rw [List.append_assoc];exact HM0.out) (by rw [hlN];omega) (by simp only [List.length_append];omega) (by omega) (by omega) nA2 nB1
       rw [hlN] at this
       refine this.mono ?_
       rintro e w' ⟨q1,q2,q3⟩
       rw [List.append_assoc] at q2
       exact ⟨q1,q2,q3⟩
      obtain ⟨R1,hR1⟩:∃ R1,A1 ++ B1=R1:=⟨_,rfl⟩
      have s1:StS elKey (A1 ++ B1) R1:=by
       rw [← hR1]
       refine StS.of_srt ?_
       rw [nA1]
       exact SB.out.1
      go_wp2_with fail
      all_goals
       refine hR2.out.mono ?_
       rintro e w1 ⟨rfl,hMa,fra⟩
       go_wp2_with fail
      all_goals
       go_end0
       have s2:StS elKey (A2 ++ B2) (A2 ++ B2):=by
        refine StS.of_srt ?_
        rw [nB2]
        simpa using SA.out.2
       refine ⟨rfl,⟨_,FIN.out _ _ s1 s2,?_⟩,hfr.trans fra (fun _ _ e=>e)⟩
       have:=(show Mem w1 g C (X ++ (R1 ++ (A2 ++ (B2 ++ Y)))) from by rw [← hR1,List.append_assoc];exact hMa)
       rw [List.append_assoc,List.append_assoc]
       exact this
     ·have k6:¬ (mid:Int) < (e:Int):=by exact fun q=>k4 (c4.1 q)
      clear c3 c4 hs1 hs2
      obtain ⟨lA1,lA2,lB1,lB2,lAB,lN⟩:=(show _∧_∧_∧_∧_∧_ from ⟨HLA.out,HLA2.out,HLB.out,HLB2.out,HAB.out,HLEN.out⟩)
      have lX:X.length=a:=HX.out
      have nA1:A1=[]:=List.eq_nil_of_length_eq_zero (by omega)
      have nA2:A2=[]:=List.eq_nil_of_length_eq_zero (by omega)
      have nB1:B1≠[]:=fun q=>by rw [q] at lB1;simp at lB1;omega
      have nB2:B2≠[]:=fun q=>by rw [q] at lB2;simp at lB2;omega
      have hMa:Mem wr g C (X ++ (A1 ++ (B1 ++ (A2 ++ (B2 ++ Y))))):=by
       have:=HM0.out
       rw [nA2] at this ⊢
       exact this
      have fra:Fr (· = g) wr wr:=Fr.refl _ _
      obtain ⟨R1,hR1⟩:∃ R1,A1 ++ B1=R1:=⟨_,rfl⟩
      have s1:StS elKey (A1 ++ B1) R1:=by
       rw [← hR1]
       refine StS.of_srt ?_
       rw [nA1]
       exact SB.out.1
      go_wp2_with fail
      all_goals
       go_end0
       have s2:StS elKey (A2 ++ B2) (A2 ++ B2):=by
        refine StS.of_srt ?_
        rw [nA2]
        exact SB.out.2
       refine ⟨rfl,⟨_,FIN.out _ _ s1 s2,?_⟩,hfr.trans fra (fun _ _ e=>e)⟩
       have:=(show Mem wr g C (X ++ (R1 ++ (A2 ++ (B2 ++ Y)))) from by rw [← hR1,List.append_assoc];exact hMa)
       rw [List.append_assoc,List.append_assoc]
       exact this
end Go.Proofs.Tryz
