import Derived.Test.YtndoeeampclfaaaGreatDoorFs2
set_option linter.all false
namespace Go.Proofs.Tryz
set_option maxHeartbeats 16000000
set_option maxRecDepth 10000
section
variable {α : Type} {key : α → Bys}
theorem swp_adj (Z:List α) (x y:α) (R:List α):swp (Z ++ x :: y :: R) Z.length (Z.length+1)=Z ++ y :: x :: R:=by
 rw [swp_eq (x:=x) (y:=y) (by simp) (by simp)]
 simp
theorem swp_adj' (Z:List α) (x y:α) (R:List α):swp (Z ++ x :: y :: R) (Z.length+1) Z.length=Z ++ y :: x :: R:=by
 rw [swp_eq (x:=y) (y:=x) (by simp) (by simp)]
 simp
theorem srt_snoc {A:List α}{x:α}(hA:Srt key A) (h:A=[]∨kle (kat key A (A.length - 1)) (key x)):Srt key (A ++ [x]):=by
 refine srt_app.2 ⟨hA,by simp [Srt],fun z hz y hy=>?_⟩
 simp only [List.mem_singleton] at hy
 subst hy
 rcases h with rfl | h
 ·simp at hz
 ·obtain ⟨i,hi,e⟩:=List.mem_iff_getElem.1 hz
  have:kat key A i=key z:=by rw [kat_eq hi,e]
  rw [← this]
  exact kle_trans (hA.at (by omega) (by omega)) h
theorem srt_cons {A:List α}{x:α}(hA:Srt key A) (h:A=[]∨kle (key x) (kat key A 0)):Srt key (x :: A):=by
 refine List.pairwise_cons.2 ⟨fun z hz=>?_,hA⟩
 rcases h with rfl | h
 ·simp at hz
 ·obtain ⟨i,hi,e⟩:=List.mem_iff_getElem.1 hz
  have:kat key A i=key z:=by rw [kat_eq hi,e]
  rw [← this]
  exact kle_trans h (hA.at (by omega) hi)
theorem sts_ins {A0 S1 S2:List α}{x:α}(h:StS key A0 (S1 ++ S2)) (h2:∀ y∈S2,klt (key x) (key y)) (h1:S1=[]∨kle (kat key S1 (S1.length - 1)) (key x)):StS key (A0 ++ [x]) (S1 ++ (x :: S2)):=by
 obtain ⟨a1,a2,a3⟩:=srt_app.1 h.srt
 have s1:StS key (S1 ++ [x]) (S1 ++ [x]):=StS.of_srt (srt_snoc a1 h1)
 have s2:StS key (S2 ++ []) S2:=by rw [List.append_nil];exact StS.of_srt a2
 have c:=StS.cat (A1:=S1) (A2:=S2) (B1:=[x]) (B2:=[]) h.srt (by simp [Srt]) (by simp) (by simpa using h2) s1 s2
 have:=StS.two h (StS.of_srt (l:=[x]) (by simp [Srt])) (C:=S1 ++ (x :: S2)) (by simpa using c)
 exact this
theorem sts_left {B:List α}{x:α}{v:Nat}(hB:Srt key B) (hv:v≤B.length) (h1:v=0∨klt (kat key B (v - 1)) (key x)) (h2:v=B.length∨kle (key x) (kat key B v)):StS key ([x] ++ B) (B.take v ++ (x :: B.drop v)):=by
 have hs:Srt key (B.take v)∧Srt key (B.drop v):=by
  have:=srt_app.1 (show Srt key (B.take v ++ B.drop v) by rwa [List.take_append_drop])
  exact ⟨this.1,this.2.1⟩
 refine StS.sym (u:=0) (v:=v) (by simp [Srt]) hB (by simp) hv (.inl rfl) ?_ ?_ ?_
 ·rcases h1 with h | h
  ·exact .inr (.inl h)
  ·exact .inr (.inr (by simpa [kat] using h))
 ·simpa using StS.of_srt hs.1
 ·refine StS.of_srt (l:=x :: B.drop v) (srt_cons hs.2 ?_)
  rcases h2 with h | h
  ·exact .inl (by rw [h];simp)
  ·right
   simpa [kat,List.getElem?_drop] using h
theorem sts_right {A:List α}{y:α}{u:Nat}(hA:Srt key A) (hu:u≤A.length) (h1:u=0∨kle (kat key A (u - 1)) (key y)) (h2:u=A.length∨klt (key y) (kat key A u)):StS key (A ++ [y]) (A.take u ++ (y :: A.drop u)):=by
 have hs:Srt key (A.take u)∧Srt key (A.drop u):=by
  have:=srt_app.1 (show Srt key (A.take u ++ A.drop u) by rwa [List.take_append_drop])
  exact ⟨this.1,this.2.1⟩
 have c:=StS.sym (A:=A) (B:=[y]) (C1:=A.take u ++ [y]) (C2:=A.drop u) (u:=u) (v:=1) hA (by simp [Srt]) hu (by simp) (.inr (.inl rfl)) ?_ ?_ ?_
 ·simpa using c
 ·rcases h2 with h | h
  ·exact .inl h
  ·exact .inr (.inr (by simpa [kat] using h))
 ·refine StS.of_srt (l:=A.take u ++ [y]) (srt_snoc hs.1 ?_)
  rcases h1 with h | h
  ·exact .inl (by rw [h];simp)
  ·by_cases h0:u=0
   ·exact .inl (by rw [h0];simp)
   ·right
    have e:(A.take u).length - 1=u - 1:=by simp;omega
    rw [e]
    have:kat key (A.take u) (u - 1)=kat key A (u - 1):=by
     simp only [kat]
     rw [List.getElem?_take_of_lt (by omega)]
    rw [this];exact h
 ·simpa using StS.of_srt hs.2
def seg (L:List α) (i n:Nat):List α:=(L.drop i).take n
theorem seg_len (L:List α) (i n:Nat):(seg L i n).length=min n (L.length - i):=by simp [seg]
theorem seg_left {X Z:List α}{i n:Nat}(h:i+n≤X.length):seg (X ++ Z) i n=seg X i n:=by
 unfold seg
 rw [List.drop_append_of_le_length (by omega),List.take_append_of_le_length (by simp;omega)]
theorem seg_right {X A C Y:List α}{i n:Nat}(h:A.length=C.length) (hi:X.length+A.length≤i):seg (X ++ (A ++ Y)) i n=seg (X ++ (C ++ Y)) i n:=by
 unfold seg
 obtain ⟨k,rfl⟩:=Nat.exists_eq_add_of_le hi
 rw [← List.append_assoc,← List.append_assoc,show X.length+A.length=(X ++ A).length by simp,List.drop_length_add_append,show (X ++ A).length=(X ++ C).length by simp [h],List.drop_length_add_append]
theorem seg_mid {X A Y:List α}:seg (X ++ (A ++ Y)) X.length A.length=A:=by simp [seg]
theorem seg_add (L:List α) (i n m:Nat):seg L i (n+m)=seg L i n ++ seg L (i+n) m:=by
 unfold seg
 rw [List.take_add,List.drop_drop]
theorem seg_all {L:List α}{n:Nat}(h:L.length≤n):seg L 0 n=L:=by simp [seg,List.take_of_length_le h]
theorem seg_big {L:List α}{i n m:Nat}(hn:L.length≤i+n) (hm:L.length≤i+m):seg L i n=seg L i m:=by
 unfold seg
 rw [List.take_of_length_le (by simp;omega),List.take_of_length_le (by simp;omega)]
theorem split3 (L:List α) (i n:Nat):L=L.take i ++ (seg L i n ++ L.drop (i+n)):=by
 unfold seg
 rw [show L.drop (i+n)=(L.drop i).drop n by rw [List.drop_drop],List.take_append_drop,List.take_append_drop]
structure Blk (key:α→Bys) (L R:List α) (a s t:Nat):Prop where
 len:R.length=L.length
 done:∀ k,(k+1) * t≤a→StS key (seg L (k * t) t) (seg R (k * t) t)
 left:∀ i,a≤i→(∃ k,i=a+k * s)→StS key (seg L i s) (seg R i s)
theorem Blk.step {L R:List α}{a s:Nat}(h:Blk key L R a s (s+s)) (ha:∃ k,a=k * (s+s)) (hs:0 < s) {C:List α}(hC:StS key (seg R a s ++ seg R (a+s) s) C):Blk key L (R.take a ++ (C ++ R.drop (a+(s+s)))) (a+(s+s)) s (s+s):=by
 have hc:C.length=(seg R a (s+s)).length:=by rw [hC.len,seg_add]
 have hR:=split3 R a (s+s)
 have hlen:(R.take a ++ (C ++ R.drop (a+(s+s)))).length=R.length:=by
  conv=>rhs;rw [hR]
  simp only [List.length_append,hc]
 obtain ⟨k0,hk0⟩:=ha
 refine ⟨hlen.trans h.len,fun k hk=>?_,fun i hi hik=>?_⟩
 ·by_cases hlt:(k+1) * (s+s)≤a
  ·have e1:seg (R.take a ++ (C ++ R.drop (a+(s+s)))) (k * (s+s)) (s+s)=seg R (k * (s+s)) (s+s):=by
    by_cases hal:a≤R.length
    ·have:(R.take a).length=a:=by simp;omega
     rw [seg_left (by rw [this];rw [Nat.add_mul,Nat.one_mul] at hlt;exact hlt)]
     conv=>rhs;rw [hR]
     rw [seg_left (by rw [this];rw [Nat.add_mul,Nat.one_mul] at hlt;exact hlt)]
    ·have e2:seg R a (s+s)=[]:=by simp [seg];right;omega
     have e3:C=[]:=List.eq_nil_of_length_eq_zero (by rw [hc,e2];rfl)
     have e4:R.drop (a+(s+s))=[]:=by simp;omega
     rw [e3,e4,List.append_nil,List.append_nil,List.take_of_length_le (by omega)]
   rw [e1]
   exact h.done k hlt
  ·have ek:k * (s+s)=a:=by
    subst hk0
    have h1:k < k0+1:=by
     have:(k+1) * (s+s)≤(k0+1) * (s+s):=by rw [Nat.add_mul k0,Nat.one_mul];exact hk
     have:=Nat.le_of_mul_le_mul_right this (by omega)
     omega
    have h2:¬ k+1≤k0:=fun e=>hlt (Nat.mul_le_mul_right _ e)
    have:k=k0:=by omega
    rw [this]
   rw [ek]
   have l1:=h.left a (Nat.le_refl _) ⟨0,by omega⟩
   have l2:=h.left (a+s) (by omega) ⟨1,by omega⟩
   have e5:seg (R.take a ++ (C ++ R.drop (a+(s+s)))) a (s+s)=C:=by
    by_cases hal:a≤R.length
    ·have ht:(R.take a).length=a:=by simp;omega
     have hcl:C.length=min (s+s) (R.length - a):=by rw [hc,seg_len]
     by_cases hbig:a+(s+s)≤R.length
     ·have:C.length=s+s:=by omega
      conv=>lhs;rw [← ht,← this]
      rw [ht,this]
      have q:=seg_mid (X:=R.take a) (A:=C) (Y:=R.drop (a+(s+s)))
      rw [ht,this] at q
      exact q
     ·have:R.drop (a+(s+s))=[]:=by simp;omega
      rw [this,List.append_nil]
      have q:=List.drop_left (l₁:=R.take a) (l₂:=C)
      rw [ht] at q
      unfold seg
      rw [q]
      exact List.take_of_length_le (by omega)
    ·have e2:seg R a (s+s)=[]:=by simp [seg];right;omega
     have e3:C=[]:=List.eq_nil_of_length_eq_zero (by rw [hc,e2];rfl)
     have e4:R.drop (a+(s+s))=[]:=by simp;omega
     rw [e3,e4,List.append_nil,List.append_nil,List.take_of_length_le (by omega)]
     exact e2
   rw [e5,seg_add]
   exact StS.two l1 l2 hC
 ·obtain ⟨k,rfl⟩:=hik
  have e6:seg (R.take a ++ (C ++ R.drop (a+(s+s)))) (a+(s+s)+k * s) s=seg R (a+(s+s)+k * s) s:=by
   conv=>rhs;rw [hR]
   exact (seg_right hc.symm (by rw [seg_len];simp;omega)).symm
  rw [e6]
  exact h.left _ (by omega) ⟨k+2,by rw [Nat.add_mul];omega⟩
theorem Blk.last {L R:List α}{a s:Nat}(h:Blk key L R a s (s+s)) (ha:∃ k,a=k * (s+s)) (hs:0 < s) (hl:L.length≤a+s):Blk key L R (a+(s+s)) s (s+s):=by
 have e:seg R (a+s) s=[]:=by have:=h.len;simp [seg];right;omega
 have l1:=h.left a (Nat.le_refl _) ⟨0,by omega⟩
 have:=h.step ha hs (C:=seg R a s) (by rw [e,List.append_nil];exact StS.of_srt l1.srt)
 rw [seg_big (m:=s+s) (by have:=h.len;omega) (by have:=h.len;omega),← split3] at this
 exact this
theorem Blk.next {L R:List α}{a s t:Nat}(h:Blk key L R a s (s+s)) (ha:∃ k,a=k * (s+s)) (hl:L.length≤a):Blk key L R 0 (s+s) t:=by
 refine ⟨h.len,fun k hk=>?_,fun i _ hik=>?_⟩
 ·have:t=0:=by
   rw [Nat.add_mul] at hk;omega
  subst this
  have e1:seg L (k * 0) 0=[]:=by simp [seg]
  have e2:seg R (k * 0) 0=[]:=by simp [seg]
  rw [e1,e2]
  exact StS.of_srt (by simp [Srt])
 ·obtain ⟨k,rfl⟩:=hik
  rw [Nat.zero_add]
  by_cases hk:(k+1) * (s+s)≤a
  ·exact h.done k hk
  ·obtain ⟨k0,rfl⟩:=ha
   have:k0≤k:=by
    rcases Nat.lt_or_ge k k0 with h' | h'
    ·exact absurd (Nat.mul_le_mul_right (s+s) (show k+1≤k0 by omega)) hk
    ·exact h'
   have:=Nat.mul_le_mul_right (s+s) this
   have e1:seg L (k * (s+s)) (s+s)=[]:=by simp [seg];right;omega
   have e2:seg R (k * (s+s)) (s+s)=[]:=by have:=h.len;simp [seg];right;omega
   rw [e1,e2]
   exact StS.of_srt (by simp [Srt])
theorem Blk.whole {L R:List α}{s t:Nat}(h:Blk key L R 0 s t) (hl:L.length≤s):StS key L R:=by
 have:=h.left 0 (Nat.le_refl _) ⟨0,by omega⟩
 rwa [seg_all hl,seg_all (by rw [h.len];exact hl)] at this
structure Ini (key:α→Bys) (L R:List α) (a s:Nat):Prop where
 len:R.length=L.length
 done:∀ k,(k+1) * s≤a→StS key (seg L (k * s) s) (seg R (k * s) s)
 rest:R.drop a=L.drop a
theorem Ini.step {L R:List α}{a s:Nat}(h:Ini key L R a s) (ha:∃ k,a=k * s) (hs:0 < s) {C:List α}(hal:a≤L.length) (hC:StS key (seg R a s) C):Ini key L (R.take a ++ (C ++ R.drop (a+s))) (a+s) s:=by
 have hlen0:=h.len
 have hcl:C.length=min s (R.length - a):=by rw [hC.len,seg_len]
 have ht:(R.take a).length=a:=by simp;omega
 have hR:=split3 R a s
 have hlen:(R.take a ++ (C ++ R.drop (a+s))).length=R.length:=by
  conv=>rhs;rw [hR]
  simp only [List.length_append,hC.len]
 obtain ⟨k0,hk0⟩:=ha
 refine ⟨hlen.trans h.len,fun k hk=>?_,?_⟩
 ·by_cases hlt:(k+1) * s≤a
  ·have e1:seg (R.take a ++ (C ++ R.drop (a+s))) (k * s) s=seg R (k * s) s:=by
    rw [seg_left (by rw [ht];rw [Nat.add_mul,Nat.one_mul] at hlt;exact hlt)]
    conv=>rhs;rw [hR]
    rw [seg_left (by rw [ht];rw [Nat.add_mul,Nat.one_mul] at hlt;exact hlt)]
   rw [e1]
   exact h.done k hlt
  ·have ek:k * s=a:=by
    subst hk0
    have h1:k < k0+1:=by
     have:(k+1) * s≤(k0+1) * s:=by rw [Nat.add_mul k0,Nat.one_mul];exact hk
     have:=Nat.le_of_mul_le_mul_right this (by omega)
     omega
    have h2:¬ k+1≤k0:=fun e=>hlt (Nat.mul_le_mul_right _ e)
    have:k=k0:=by omega
    rw [this]
   rw [ek]
   have e5:seg (R.take a ++ (C ++ R.drop (a+s))) a s=C:=by
    by_cases hbig:a+s≤R.length
    ·have:C.length=s:=by omega
     have q:=seg_mid (X:=R.take a) (A:=C) (Y:=R.drop (a+s))
     rw [ht,this] at q
     exact q
    ·have:R.drop (a+s)=[]:=by simp;omega
     rw [this,List.append_nil]
     have q:=List.drop_left (l₁:=R.take a) (l₂:=C)
     rw [ht] at q
     unfold seg
     rw [q]
     exact List.take_of_length_le (by omega)
   have e6:seg R a s=seg L a s:=by unfold seg;rw [h.rest]
   rw [e5,← e6]
   exact hC
 ·rw [← List.append_assoc]
  by_cases hbig:a+s≤R.length
  ·have:(R.take a ++ C).length=a+s:=by simp only [List.length_append,ht];omega
   rw [← this,List.drop_left,this,show R.drop (a+s)=(R.drop a).drop s by rw [List.drop_drop],h.rest,List.drop_drop]
  ·rw [List.drop_eq_nil_of_le (by rw [List.append_assoc,hlen];omega),List.drop_eq_nil_of_le (by omega)]
theorem Ini.blk {L R:List α}{a s t:Nat}(h:Ini key L R a s) (ha:∃ k,a=k * s) (hl:L.length≤a):Blk key L R 0 s t:=by
 refine ⟨h.len,fun k hk=>?_,fun i _ hik=>?_⟩
 ·have:t=0:=by
   rw [Nat.add_mul] at hk;omega
  subst this
  have e1:seg L (k * 0) 0=[]:=by simp [seg]
  have e2:seg R (k * 0) 0=[]:=by simp [seg]
  rw [e1,e2]
  exact StS.of_srt (by simp [Srt])
 ·obtain ⟨k,rfl⟩:=hik
  rw [Nat.zero_add]
  by_cases hk:(k+1) * s≤a
  ·exact h.done k hk
  ·obtain ⟨k0,rfl⟩:=ha
   have:k0≤k:=by
    rcases Nat.lt_or_ge k k0 with h' | h'
    ·exact absurd (Nat.mul_le_mul_right s (show k+1≤k0 by omega)) hk
    ·exact h'
   have:=Nat.mul_le_mul_right s this
   have e1:seg L (k * s) s=[]:=by simp [seg];right;omega
   have e2:seg R (k * s) s=[]:=by have:=h.len;simp [seg];right;omega
   rw [e1,e2]
   exact StS.of_srt (by simp [Srt])
end
end Go.Proofs.Tryz
