import Derived.Lib.Bytealg
set_option linter.all false
namespace Go.Proofs.Tryz
set_option maxHeartbeats 16000000
set_option maxRecDepth 10000
abbrev Bys:=List UInt8
def klt (a b:Bys):Prop:=Lib.compareBytes a b < 0
def kle (a b:Bys):Prop:=¬ Lib.compareBytes b a < 0
theorem cmp_neg:∀ a b:Bys,Lib.compareBytes b a = - Lib.compareBytes a b
 | [],[]=>by simp [Lib.compareBytes]
 | [],_ :: _=>by simp [Lib.compareBytes]
 | _ :: _,[]=>by simp [Lib.compareBytes]
 | a :: al,b :: bs=>by
  have ih:=cmp_neg al bs
  simp only [Lib.compareBytes]
  by_cases h1:a < b
  ·have h2:¬ b < a:=by simp only [UInt8.lt_iff_toNat_lt] at *;omega
   simp [h1,h2]
  ·by_cases h2:b < a
   ·simp [h1,h2]
   ·simp [h1,h2,ih]
theorem cmp_zero:∀ a b:Bys,Lib.compareBytes a b=0→a=b
 | [],[],_=>rfl
 | [],_ :: _,h=>by simp [Lib.compareBytes] at h
 | _ :: _,[],h=>by simp [Lib.compareBytes] at h
 | a :: al,b :: bs,h=>by
  simp only [Lib.compareBytes] at h
  by_cases h1:a < b
  ·simp [h1] at h
  ·by_cases h2:b < a
   ·simp [h1,h2] at h
   ·simp only [h1,h2,if_false] at h
    have e:a=b:=by
     apply UInt8.toNat_inj.1
     simp only [UInt8.lt_iff_toNat_lt] at *
     omega
    rw [e,cmp_zero al bs h]
theorem cmp_self:∀ a:Bys,Lib.compareBytes a a=0
 | []=>by simp [Lib.compareBytes]
 | a :: al=>by
  have h1:¬ a < a:=by simp only [UInt8.lt_iff_toNat_lt];omega
  simp [Lib.compareBytes,h1,cmp_self al]
theorem klt_trans:∀ {a b c:Bys},klt a b→klt b c→klt a c
 | _,[],[],_,h=>by simp [klt,Lib.compareBytes] at h
 | [],[],_ :: _,h,_=>by simp [klt,Lib.compareBytes] at h
 | _ :: _,[],_ :: _,h,_=>by simp [klt,Lib.compareBytes] at h
 | [],_ :: _,[],_,h=>by simp [klt,Lib.compareBytes] at h
 | _ :: _,_ :: _,[],_,h=>by simp [klt,Lib.compareBytes] at h
 | [],_ :: _,_ :: _,_,_=>by simp [klt,Lib.compareBytes]
 | a :: al,b :: bs,c :: cs,h,k=>by
  have ih:=@klt_trans al bs cs
  simp only [klt,Lib.compareBytes] at h k ih ⊢
  simp only [UInt8.lt_iff_toNat_lt] at h k ⊢
  by_cases h1:a.toNat < b.toNat
  ·by_cases h2:b.toNat < c.toNat
   ·rw [if_pos (by omega)];omega
   ·by_cases h3:c.toNat < b.toNat
    ·rw [if_neg h2,if_pos h3] at k;omega
    ·rw [if_pos (by omega)];omega
  ·by_cases h2:b.toNat < a.toNat
   ·rw [if_neg h1,if_pos h2] at h;omega
   ·rw [if_neg h1,if_neg h2] at h
    by_cases h3:b.toNat < c.toNat
    ·rw [if_pos (by omega)];omega
    ·by_cases h4:c.toNat < b.toNat
     ·rw [if_neg h3,if_pos h4] at k;omega
     ·rw [if_neg h3,if_neg h4] at k
      rw [if_neg (by omega),if_neg (by omega)]
      exact ih h k
theorem kle_refl (a:Bys):kle a a:=by rw [kle,cmp_self];omega
theorem klt_kle {a b:Bys}(h:klt a b):kle a b:=by rw [kle,cmp_neg a b];rw [klt] at h;omega
theorem kle_cases {a b:Bys}(h:kle a b):klt a b∨a=b:=by
 by_cases h1:Lib.compareBytes a b=0
 ·exact .inr (cmp_zero _ _ h1)
 ·left
  rw [kle,cmp_neg a b] at h
  rw [klt];omega
theorem klt_ne {a b:Bys}(h:klt a b):a≠b:=fun e=>by rw [e,klt,cmp_self] at h;omega
theorem kle_trans {a b c:Bys}(h:kle a b) (k:kle b c):kle a c:=by
 rcases kle_cases h with h | rfl
 ·rcases kle_cases k with k | rfl
  ·exact klt_kle (klt_trans h k)
  ·exact klt_kle h
 ·exact k
theorem klt_kle_trans {a b c:Bys}(h:klt a b) (k:kle b c):klt a c:=by
 rcases kle_cases k with k | rfl
 ·exact klt_trans h k
 ·exact h
theorem kle_klt_trans {a b c:Bys}(h:kle a b) (k:klt b c):klt a c:=by
 rcases kle_cases h with h | rfl
 ·exact klt_trans h k
 ·exact k
theorem kle_antisymm {a b:Bys}(h:kle a b) (k:kle b a):a=b:=by
 rcases kle_cases h with h | h
 ·exact absurd h k
 ·exact h
section
variable {α : Type} (key : α → Bys)
def Srt (l:List α):Prop:=l.Pairwise (fun x y=>kle (key x) (key y))
def flt (k:Bys) (l:List α):List α:=l.filter (fun x=>key x == k)
structure StS (l r:List α):Prop where
 srt:Srt key r
 len:r.length=l.length
 flts:∀ k,flt key k r=flt key k l
variable {key}
theorem flt_app (k:Bys) (l m:List α):flt key k (l ++ m)=flt key k l ++ flt key k m:=by simp [flt]
theorem flt_self {x:α}(l:List α):x∈flt key (key x) l↔x∈l:=by simp [flt]
theorem StS.mem {l r:List α}(h:StS key l r) (x:α):x∈r↔x∈l:=by
 rw [← flt_self (key:=key) r,h.flts,flt_self]
theorem StS.of_srt {l:List α}(h:Srt key l):StS key l l:=⟨h,rfl,fun _=>rfl⟩
theorem flt_cons (k:Bys) (x:α) (l:List α):flt key k (x :: l)=if key x=k then x :: flt key k l else flt key k l:=by
 by_cases h:key x=k <;> simp [flt,h]
theorem srt_unique:∀ {r r':List α},Srt key r→Srt key r'→(∀ k,flt key k r=flt key k r')→r=r'
 | [],[],_,_,_=>rfl
 | [],y :: t,_,_,h=>by
  have:=h (key y)
  rw [flt_cons,if_pos rfl] at this
  simp [flt] at this
 | x :: t,[],_,_,h=>by
  have:=h (key x)
  rw [flt_cons,if_pos rfl] at this
  simp [flt] at this
 | x :: t,y :: t',hr,hr',h=>by
  have hx:x∈y :: t':=by rw [← flt_self (key:=key),← h,flt_self];simp
  have hy:y∈x :: t:=by rw [← flt_self (key:=key),h,flt_self];simp
  have kxy:key x=key y:=by
   refine kle_antisymm ?_ ?_
   ·rcases List.mem_cons.1 hy with e | e
    ·rw [e];exact kle_refl _
    ·exact (List.pairwise_cons.1 hr).1 _ e
   ·rcases List.mem_cons.1 hx with e | e
    ·rw [e];exact kle_refl _
    ·exact (List.pairwise_cons.1 hr').1 _ e
  have h1:=h (key x)
  rw [flt_cons,if_pos rfl,flt_cons,if_pos kxy.symm] at h1
  have exy:x=y:=(List.cons.inj h1).1
  subst exy
  rw [srt_unique (List.pairwise_cons.1 hr).2 (List.pairwise_cons.1 hr').2 (fun k=>by
   have:=h k
   rw [flt_cons,flt_cons] at this
   by_cases e:key x=k
   ·rw [if_pos e,if_pos e] at this;exact (List.cons.inj this).2
   ·rw [if_neg e,if_neg e] at this;exact this)]
theorem StS.unique {l r r':List α}(h:StS key l r) (h':StS key l r'):r=r':=srt_unique h.srt h'.srt (fun k=>(h.flts k).trans (h'.flts k).symm)
theorem StS.two {A A' B B' C:List α}(h:StS key A A') (k:StS key B B') (m:StS key (A' ++ B') C):StS key (A ++ B) C :=
 ⟨m.srt,by rw [m.len,List.length_append,List.length_append,h.len,k.len],fun q=>by rw [m.flts,flt_app,flt_app,h.flts,k.flts]⟩
theorem srt_app {A B:List α}:Srt key (A ++ B)↔Srt key A∧Srt key B∧∀ x∈A,∀ y∈B,kle (key x) (key y):=List.pairwise_append
theorem flt_swap {A B:List α}(h:∀ y∈B,∀ x∈A,klt (key y) (key x)) (k:Bys):flt key k B ++ flt key k A=flt key k A ++ flt key k B:=by
 cases hA:flt key k A with
 | nil=>simp
 | cons x t =>
  cases hB:flt key k B with
  | nil=>simp
  | cons y u =>
   exfalso
   have hx:x∈flt key k A:=by rw [hA];simp
   have hy:y∈flt key k B:=by rw [hB];simp
   simp [flt] at hx hy
   exact klt_ne (h y hy.1 x hx.1) (hy.2.trans hx.2.symm)
theorem StS.cat {A1 A2 B1 B2 C1 C2:List α}(hA:Srt key (A1 ++ A2)) (hB:Srt key (B1 ++ B2)) (h1:∀ x∈A1,∀ y∈B2,kle (key x) (key y)) (h2:∀ y∈B1,∀ x∈A2,klt (key y) (key x)) (s1:StS key (A1 ++ B1) C1) (s2:StS key (A2 ++ B2) C2):StS key ((A1 ++ A2) ++ (B1 ++ B2)) (C1 ++ C2):=by
 obtain ⟨a1,a2,a3⟩:=srt_app.1 hA
 obtain ⟨b1,b2,b3⟩:=srt_app.1 hB
 refine ⟨srt_app.2 ⟨s1.srt,s2.srt,fun x hx y hy=>?_⟩,?_,fun k=>?_⟩
 ·rw [s1.mem,List.mem_append] at hx
  rw [s2.mem,List.mem_append] at hy
  rcases hx with hx | hx <;> rcases hy with hy | hy
  ·exact a3 x hx y hy
  ·exact h1 x hx y hy
  ·exact klt_kle (h2 x hx y hy)
  ·exact b3 x hx y hy
 ·have:=s1.len
  have:=s2.len
  simp only [List.length_append] at *
  omega
 ·rw [flt_app,s1.flts,s2.flts,flt_app,flt_app,flt_app,flt_app,flt_app,List.append_assoc,List.append_assoc,← List.append_assoc (flt key k B1),flt_swap h2 k,List.append_assoc]
def kat (key:α→Bys) (l:List α) (i:Nat):Bys:=(l[i]?.map key).getD []
theorem kat_eq {l:List α}{i:Nat}(h:i < l.length):kat key l i=key l[i]:=by simp [kat,h]
theorem Srt.at {l:List α}(h:Srt key l) {i j:Nat}(hij:i≤j) (hj:j < l.length):kle (kat key l i) (kat key l j):=by
 rw [kat_eq (by omega),kat_eq hj]
 rcases Nat.lt_or_eq_of_le hij with h' | rfl
 ·exact List.pairwise_iff_getElem.1 h i j (by omega) hj h'
 ·exact kle_refl _
theorem mem_take_at {l:List α}{u:Nat}{x:α}(h:x∈l.take u):∃ i,i < u∧i < l.length∧kat key l i=key x:=by
 obtain ⟨i,hi,e⟩:=List.mem_iff_getElem.1 h
 simp only [List.length_take] at hi
 refine ⟨i,by omega,by omega,?_⟩
 rw [kat_eq (by omega),← e,List.getElem_take]
theorem mem_drop_at {l:List α}{u:Nat}{x:α}(h:x∈l.drop u):∃ i,u≤i∧i < l.length∧kat key l i=key x:=by
 obtain ⟨i,hi,e⟩:=List.mem_iff_getElem.1 h
 simp only [List.length_drop] at hi
 refine ⟨u+i,by omega,by omega,?_⟩
 rw [kat_eq (by omega),← e,List.getElem_drop]
theorem StS.sym {A B C1 C2:List α}{u v:Nat}(hA:Srt key A) (hB:Srt key B) (hu:u≤A.length) (hv:v≤B.length) (h1:u=0∨v=B.length∨kle (kat key A (u - 1)) (kat key B v)) (h2:u=A.length∨v=0∨klt (kat key B (v - 1)) (kat key A u)) (s1:StS key (A.take u ++ B.take v) C1) (s2:StS key (A.drop u ++ B.drop v) C2):StS key (A ++ B) (C1 ++ C2):=by
 have:=StS.cat (A1:=A.take u) (A2:=A.drop u) (B1:=B.take v) (B2:=B.drop v) (by rwa [List.take_append_drop]) (by rwa [List.take_append_drop]) (fun x hx y hy=>?_) (fun y hy x hx=>?_) s1 s2
 ·rwa [List.take_append_drop,List.take_append_drop] at this
 ·obtain ⟨i,i1,i2,e⟩:=mem_take_at (key:=key) hx
  obtain ⟨j,j1,j2,f⟩:=mem_drop_at (key:=key) hy
  rw [← e,← f]
  rcases h1 with h | h | h
  ·omega
  ·omega
  ·exact kle_trans (hA.at (by omega) (by omega)) (kle_trans h (hB.at j1 j2))
 ·obtain ⟨j,j1,j2,f⟩:=mem_take_at (key:=key) hy
  obtain ⟨i,i1,i2,e⟩:=mem_drop_at (key:=key) hx
  rw [← e,← f]
  rcases h2 with h | h | h
  ·omega
  ·omega
  ·exact kle_klt_trans (hB.at (by omega) (by omega)) (klt_kle_trans h (hA.at i1 i2))
def insB (key:α→Bys) (x:α):List α→List α
 | []=>[x]
 | y :: l=>if Lib.compareBytes (key y) (key x) < 0 then y :: insB key x l else x :: y :: l
def sortB (key:α→Bys):List α→List α
 | []=>[]
 | x :: l=>insB key x (sortB key l)
theorem insB_mem (x:α):∀ (l:List α) (z:α),z∈insB key x l↔z=x∨z∈l
 | [],z=>by simp [insB]
 | y :: l,z=>by
  unfold insB
  split
  ·rw [List.mem_cons,insB_mem x l z,List.mem_cons]
   constructor
   ·rintro (h | h | h) <;> simp [h]
   ·rintro (h | h | h) <;> simp [h]
  ·rw [List.mem_cons]
theorem insB_sts (x:α):∀ (l:List α),Srt key l→StS key (x :: l) (insB key x l)
 | [],_=>StS.of_srt (by simp [Srt])
 | y :: l,h=>by
  obtain ⟨h1,h2⟩:=List.pairwise_cons.1 h
  unfold insB
  split
  ·rename_i hc
   have ih:=insB_sts x l h2
   refine ⟨List.pairwise_cons.2 ⟨fun z hz=>?_,ih.srt⟩,by simp [ih.len],fun k=>?_⟩
   ·rcases (insB_mem x l z).1 hz with rfl | hz
    ·exact klt_kle hc
    ·exact h1 z hz
   ·rw [flt_cons,ih.flts,flt_cons,flt_cons,flt_cons]
    by_cases e1:key y=k
    ·by_cases e2:key x=k
     ·exact absurd (e1.trans e2.symm) (klt_ne hc)
     ·rw [if_pos e1,if_neg e2,if_neg e2,if_pos e1]
    ·by_cases e2:key x=k
     ·rw [if_neg e1,if_pos e2,if_pos e2,if_neg e1]
     ·rw [if_neg e1,if_neg e2,if_neg e2,if_neg e1]
  ·rename_i hc
   refine StS.of_srt (List.pairwise_cons.2 ⟨fun z hz=>?_,h⟩)
   rcases List.mem_cons.1 hz with rfl | hz
   ·exact hc
   ·exact kle_trans hc (h1 z hz)
theorem sortB_sts:∀ (l:List α),StS key l (sortB key l)
 | []=>StS.of_srt (by simp [Srt])
 | x :: l=>by
  have ih:=sortB_sts l
  have h:=insB_sts x _ ih.srt
  refine ⟨h.srt,by show (insB key x (sortB key l)).length=_;rw [h.len];simp [ih.len],fun k=>?_⟩
  show flt key k (insB key x (sortB key l))=_
  rw [h.flts,flt_cons,flt_cons,ih.flts]
theorem sortB_of_sts {l r:List α}(h:StS key l r):r=sortB key l:=h.unique (sortB_sts l)
theorem sortB_of_srt {l:List α}(h:Srt key l):sortB key l=l:=(sortB_of_sts (StS.of_srt h)).symm
end
end Go.Proofs.Tryz
