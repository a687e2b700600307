import Derived.Test.YtfocepfmpnpaiaaGreatDoorYa4
set_option linter.all false
namespace Go.Proofs.Tryz
set_option maxHeartbeats 16000000
open Go.RowKit
def stepS (Q:Ps→Int→List Tok→Out Tn) (P:Ps):Ps:=fun c l=>match c with
 | 0=>filterS P l
 | 1=>minusS P l
 | 3=>postfixS P l
 | 4=>primaryS P l
 | n=>if 11≤n∧n≤19 then Q P ((n:Int) - 10) l else .error l
def readP:Nat→Ps
 | 0=>fun _ l=>.error l
 | n+1=>stepS operS (readP n)
def readR:Nat→Ps
 | 0=>fun _ l=>.error l
 | n+1=>stepS climbS (readR n)
structure Less (P:Ps):Prop where
 side:Shr P
 post:∀ l t l',P 3 l = .ok (t,l')→l'.length < l.length
 prim:∀ l t l',P 4 l = .ok (t,l')→l'.length < l.length
 filt:∀ l t l',P 0 l = .ok (t,l')→l'.length < l.length
 oper:∀ r l t l',11≤r→P r l = .ok (t,l')→l'.length < l.length
theorem acc_true {s:ByteArray}{l l1:List Tok} (h:acc s l=(true,l1)):l1.length < l.length:=by
 unfold acc at h
 split at h
 ·split at h
  ·simp only [Prod.mk.injEq,true_and] at h
   rw [← h]
   simp
  ·simp at h
 ·simp at h
theorem exq_ok {s:ByteArray}{l l1:List Tok}{u:Unit} (h:exq s l = .ok (u,l1)):l1.length < l.length:=by
 unfold exq at h
 split at h
 ·rename_i l' e
  simp only [Except.ok.injEq,Prod.mk.injEq,true_and] at h
  rw [← h]
  exact acc_true e
 ·cases h
theorem exk_ok {k:Int}{l l1:List Tok}{t:Tok} (h:exk k l = .ok (t,l1)):l1.length < l.length:=by
 unfold exk at h
 split at h
 ·split at h
  ·simp only [Except.ok.injEq,Prod.mk.injEq] at h
   rw [← h.2]
   simp
  ·cases h
 ·cases h
theorem names_le:∀ (m:Nat) (l:List Tok) (x:List ByteArray) (l1:List Tok),namesS m l = .ok (x,l1)→l1.length≤l.length
 | 0,l,x,l1,h=>by cases h
 | m+1,l,x,l1,h=>by
  rw [namesS] at h
  split at h
  ·simp only [Except.ok.injEq,Prod.mk.injEq] at h
   rw [← h.2]
   exact Nat.le_refl _
  ·rename_i l2 e
   have h0:=acc_true e
   obtain ⟨_,l3,h1,h⟩:=thn_ok h
   obtain ⟨_,l4,h2,h⟩:=thn_ok h
   have h3:=exk_ok h1
   have h4:=names_le m _ _ _ h2
   simp only [Except.ok.injEq,Prod.mk.injEq] at h
   rw [← h.2]
   omega
theorem params_le {l l1:List Tok}{x:List ByteArray} (h:paramsS l = .ok (x,l1)):l1.length≤l.length:=by
 unfold paramsS at h
 split at h
 ·simp only [Except.ok.injEq,Prod.mk.injEq] at h
  rw [← h.2]
  exact Nat.le_refl _
 ·rename_i l2 e
  have h0:=acc_true e
  obtain ⟨_,l3,h1,h⟩:=thn_ok h
  obtain ⟨_,l4,h2,h⟩:=thn_ok h
  obtain ⟨_,l5,h3,h⟩:=thn_ok h
  have a1:=exk_ok h1
  have a2:=names_le _ _ _ _ h2
  have a3:=exq_ok h3
  simp only [Except.ok.injEq,Prod.mk.injEq] at h
  rw [← h.2]
  omega
theorem filter_less {P:Ps} (hP:Less P) {l:List Tok}{t:Tn}{l':List Tok} (h:filterS P l = .ok (t,l')):l'.length < l.length:=by
 unfold filterS at h
 split at h
 ·rename_i l1 e
  have h0:=acc_true e
  unfold defS at h
  obtain ⟨_,l2,h1,h⟩:=thn_ok h
  obtain ⟨_,l3,h2,h⟩:=thn_ok h
  obtain ⟨_,l4,h3,h⟩:=thn_ok h
  obtain ⟨_,l5,h4,h⟩:=thn_ok h
  obtain ⟨_,l6,h5,h⟩:=thn_ok h
  obtain ⟨_,l7,h6,h⟩:=thn_ok h
  have a1:=exk_ok h1
  have a2:=params_le h2
  have a3:=exq_ok h3
  have a4:=hP.filt _ _ _ h4
  have a5:=exq_ok h5
  have a6:=hP.filt _ _ _ h6
  simp only [Except.ok.injEq,Prod.mk.injEq] at h
  rw [← h.2]
  omega
 ·exact hP.oper _ _ _ _ (by decide) h
theorem minus_less {P:Ps} (hP:Less P) {l:List Tok}{t:Tn}{l':List Tok} (h:minusS P l = .ok (t,l')):l'.length < l.length:=by
 have fin:∀ {a b:Tn}{x y:List Tok},(Except.ok (a,x):Out Tn) = .ok (b,y)→y=x:=fun e=>by cases e;rfl
 unfold minusS at h
 split at h
 ·rename_i l1 e
  have h0:=acc_true e
  obtain ⟨_,l2,h1,h⟩:=thn_ok h
  have a1:=hP.side _ _ _ h1
  rw [fin h]
  omega
 ·unfold boundS at h
  split at h
  ·rename_i l1 e
   have h0:=acc_true e
   unfold labelS at h
   obtain ⟨_,l2,h1,h⟩:=thn_ok h
   obtain ⟨_,l3,h2,h⟩:=thn_ok h
   obtain ⟨_,l4,h3,h⟩:=thn_ok h
   have a1:=exk_ok h1
   have a2:=exq_ok h2
   have a3:=hP.oper _ _ _ _ (by decide) h3
   rw [fin h]
   omega
  ·split at h
   ·rename_i l1 e
    have h0:=acc_true e
    unfold tryS at h
    obtain ⟨_,l2,h1,h⟩:=thn_ok h
    have a1:=hP.side _ _ _ h1
    split at h
    ·rw [fin h]
     omega
    ·rename_i l3 e2
     have a2:=acc_true e2
     obtain ⟨_,l4,h3,h⟩:=thn_ok h
     have a3:=hP.side _ _ _ h3
     rw [fin h]
     omega
   ·have src:∀ {l x l1},sourceS P l = .ok (x,l1)→l1.length < l.length:=fun {l x l1} h=>by
     unfold sourceS at h
     obtain ⟨_,l2,h1,h⟩:=thn_ok h
     obtain ⟨_,l3,h2,h⟩:=thn_ok h
     obtain ⟨_,l4,h3,h⟩:=thn_ok h
     obtain ⟨_,l5,h4,h⟩:=thn_ok h
     have a1:=hP.post _ _ _ h1
     have a2:=exq_ok h2
     have a3:=exk_ok h3
     have a4:=exq_ok h4
     simp only [Except.ok.injEq,Prod.mk.injEq] at h
     rw [← h.2]
     omega
    split at h
    ·rename_i l1 e
     have h0:=acc_true e
     unfold reduceS at h
     obtain ⟨_,l2,h1,h⟩:=thn_ok h
     obtain ⟨_,l3,h2,h⟩:=thn_ok h
     obtain ⟨_,l4,h3,h⟩:=thn_ok h
     obtain ⟨_,l5,h4,h⟩:=thn_ok h
     obtain ⟨_,l6,h5,h⟩:=thn_ok h
     have a1:=src h1
     have a2:=hP.filt _ _ _ h2
     have a3:=exq_ok h3
     have a4:=hP.filt _ _ _ h4
     have a5:=exq_ok h5
     rw [fin h]
     omega
    ·split at h
     ·rename_i l1 e
      have h0:=acc_true e
      unfold foreachS at h
      obtain ⟨_,l2,h1,h⟩:=thn_ok h
      obtain ⟨_,l3,h2,h⟩:=thn_ok h
      obtain ⟨_,l4,h3,h⟩:=thn_ok h
      obtain ⟨_,l5,h4,h⟩:=thn_ok h
      obtain ⟨_,l6,h5,h⟩:=thn_ok h
      obtain ⟨_,l7,h6,h⟩:=thn_ok h
      obtain ⟨_,l8,h7,h⟩:=thn_ok h
      have a1:=src h1
      have a2:=hP.filt _ _ _ h2
      have a3:=exq_ok h3
      have a4:=hP.filt _ _ _ h4
      have a5:=exq_ok h5
      have a6:=hP.filt _ _ _ h6
      have a7:=exq_ok h7
      rw [fin h]
      omega
     ·split at h
      ·rename_i l1 e
       have h0:=acc_true e
       unfold ifS at h
       obtain ⟨_,l2,h1,h⟩:=thn_ok h
       obtain ⟨_,l3,h2,h⟩:=thn_ok h
       obtain ⟨_,l4,h3,h⟩:=thn_ok h
       obtain ⟨_,l5,h4,h⟩:=thn_ok h
       obtain ⟨_,l6,h5,h⟩:=thn_ok h
       obtain ⟨_,l7,h6,h⟩:=thn_ok h
       have a1:=hP.filt _ _ _ h1
       have a2:=exq_ok h2
       have a3:=hP.filt _ _ _ h3
       have a4:=exq_ok h4
       have a5:=hP.filt _ _ _ h5
       have a6:=exq_ok h6
       rw [fin h]
       omega
      ·unfold bindS at h
       obtain ⟨_,l2,h1,h⟩:=thn_ok h
       have a1:=hP.post _ _ _ h1
       split at h
       ·rw [fin h]
        exact a1
       ·rename_i l3 e2
        have a2:=acc_true e2
        obtain ⟨_,l4,h3,h⟩:=thn_ok h
        obtain ⟨_,l5,h4,h⟩:=thn_ok h
        obtain ⟨_,l6,h5,h⟩:=thn_ok h
        have a3:=exk_ok h3
        have a4:=exq_ok h4
        have a5:=hP.oper _ _ _ _ (by decide) h5
        rw [fin h]
        omega
theorem after_le {P:Ps} (hP:Less P):∀ (m:Nat) (f:Tn) (l:List Tok) (t:Tn) (l':List Tok),afterS P m f l = .ok (t,l')→l'.length≤l.length
 | 0,f,l,t,l',h=>by cases h
 | m+1,f,l,t,l',h=>by
  rw [afterS] at h
  split at h
  ·rename_i l1 e
   have h0:=acc_true e
   obtain ⟨_,l2,h1,h⟩:=thn_ok h
   have a1:=exk_ok h1
   have a2:=after_le hP m _ _ _ _ h
   omega
  ·split at h
   ·rename_i l1 e
    have h0:=acc_true e
    split at h
    ·rename_i l2 e2
     have h1:=acc_true e2
     have a2:=after_le hP m _ _ _ _ h
     omega
    ·obtain ⟨_,l2,h1,h⟩:=thn_ok h
     obtain ⟨_,l3,h2,h⟩:=thn_ok h
     have a1:=hP.filt _ _ _ h1
     have a2:=exq_ok h2
     have a3:=after_le hP m _ _ _ _ h
     omega
   ·split at h
    ·rename_i l1 e
     have h0:=acc_true e
     have a2:=after_le hP m _ _ _ _ h
     omega
    ·cases h
     exact Nat.le_refl _
theorem postfix_less {P:Ps} (hP:Less P) {l:List Tok}{t:Tn}{l':List Tok} (h:postfixS P l = .ok (t,l')):l'.length < l.length:=by
 unfold postfixS at h
 obtain ⟨_,l1,h1,h⟩:=thn_ok h
 have a1:=hP.prim _ _ _ h1
 have a2:=after_le hP _ _ _ _ _ h
 omega
theorem args_le {P:Ps} (hP:Less P):∀ (m:Nat) (l:List Tok) (x:List Tn) (l1:List Tok),argsS P m l = .ok (x,l1)→l1.length≤l.length
 | 0,l,x,l1,h=>by cases h
 | m+1,l,x,l1,h=>by
  rw [argsS] at h
  split at h
  ·cases h
   exact Nat.le_refl _
  ·rename_i l2 e
   have h0:=acc_true e
   obtain ⟨_,l3,h1,h⟩:=thn_ok h
   obtain ⟨_,l4,h2,h⟩:=thn_ok h
   have h3:=hP.filt _ _ _ h1
   have h4:=args_le hP m _ _ _ h2
   cases h
   omega
theorem member_less {P:Ps} (hP:Less P) {l l1:List Tok}{x:Nat×ByteArray×Tn×Tn} (h:memberS P l = .ok (x,l1)):l1.length < l.length:=by
 unfold memberS at h
 obtain ⟨_,l2,h1,h⟩:=thn_ok h
 obtain ⟨_,l3,h2,h⟩:=thn_ok h
 obtain ⟨_,l4,h3,h⟩:=thn_ok h
 have a2:=exq_ok h2
 have a3:=hP.oper _ _ _ _ (by decide) h3
 have a1:l2.length < l.length:=by
  unfold keyS at h1
  split at h1
  ·split at h1
   ·cases h1
    simp
   ·split at h1
    ·cases h1
     simp
    ·obtain ⟨_,k1,b1,h1⟩:=thn_ok h1
     obtain ⟨_,k2,b2,h1⟩:=thn_ok h1
     obtain ⟨_,k3,b3,h1⟩:=thn_ok h1
     have c1:=exq_ok b1
     have c2:=hP.filt _ _ _ b2
     have c3:=exq_ok b3
     cases h1
     omega
  ·cases h1
 cases h
 omega
theorem members_le {P:Ps} (hP:Less P):∀ (m:Nat) (l:List Tok) (x:List (Nat×ByteArray×Tn×Tn)) (l1:List Tok),membersS P m l = .ok (x,l1)→l1.length≤l.length
 | 0,l,x,l1,h=>by cases h
 | m+1,l,x,l1,h=>by
  rw [membersS] at h
  split at h
  ·cases h
   exact Nat.le_refl _
  ·rename_i l2 e
   have h0:=acc_true e
   obtain ⟨_,l3,h1,h⟩:=thn_ok h
   obtain ⟨_,l4,h2,h⟩:=thn_ok h
   have h3:=member_less hP h1
   have h4:=members_le hP m _ _ _ h2
   cases h
   omega
theorem primary_less {P:Ps} (hP:Less P) {l:List Tok}{t:Tn}{l':List Tok} (h:primaryS P l = .ok (t,l')):l'.length < l.length:=by
 unfold primaryS at h
 split at h
 ·rename_i a b m
  split at h
  ·unfold callS at h
   split at h
   ·cases h
    simp
   ·rename_i l1 e
    have h0:=acc_true e
    obtain ⟨_,l2,h1,h⟩:=thn_ok h
    obtain ⟨_,l3,h2,h⟩:=thn_ok h
    obtain ⟨_,l4,h3,h⟩:=thn_ok h
    have a1:=hP.filt _ _ _ h1
    have a2:=args_le hP _ _ _ _ h2
    have a3:=exq_ok h3
    cases h
    simp only [List.length_cons] at h0 ⊢
    omega
  ·split at h
   ·cases h
    simp
   ·split at h
    ·cases h
     simp
    ·split at h
     ·cases h
      simp
     ·split at h
      ·unfold wordyS at h
       split at h
       ·rename_i l1 e
        have h0:=acc_true e
        cases h
        exact h0
       ·split at h
        ·rename_i l1 e
         have h0:=acc_true e
         cases h
         exact h0
        ·split at h
         ·rename_i l1 e
          have h0:=acc_true e
          cases h
          exact h0
         ·split at h
          ·rename_i l1 e
           have h0:=acc_true e
           obtain ⟨_,l2,h1,h⟩:=thn_ok h
           have a1:=exk_ok h1
           cases h
           omega
          ·cases h
      ·unfold signedS at h
       split at h
       ·rename_i l1 e
        have h0:=acc_true e
        split at h
        ·rename_i e2
         have a1:=exk_ok e2
         cases h
         omega
        ·cases h
         exact h0
       ·split at h
        ·rename_i l1 e
         have h0:=acc_true e
         cases h
         exact h0
        ·split at h
         ·rename_i l1 e
          have h0:=acc_true e
          obtain ⟨_,l2,h1,h⟩:=thn_ok h
          obtain ⟨_,l3,h2,h⟩:=thn_ok h
          have a1:=hP.filt _ _ _ h1
          have a2:=exq_ok h2
          cases h
          omega
         ·split at h
          ·rename_i l1 e
           have h0:=acc_true e
           split at h
           ·rename_i l2 e2
            have h1:=acc_true e2
            cases h
            omega
           ·obtain ⟨_,l2,h1,h⟩:=thn_ok h
            obtain ⟨_,l3,h2,h⟩:=thn_ok h
            have a1:=hP.filt _ _ _ h1
            have a2:=exq_ok h2
            cases h
            omega
          ·split at h
           ·rename_i l1 e
            have h0:=acc_true e
            unfold buildS at h
            split at h
            ·rename_i l2 e2
             have h1:=acc_true e2
             cases h
             omega
            ·obtain ⟨_,l2,h1,h⟩:=thn_ok h
             obtain ⟨_,l3,h2,h⟩:=thn_ok h
             obtain ⟨_,l4,h3,h⟩:=thn_ok h
             have a1:=member_less hP h1
             have a2:=members_le hP _ _ _ _ h2
             have a3:=exq_ok h3
             cases h
             omega
           ·cases h
 ·cases h
theorem oper_less {P:Ps} (hP:Shr P) {r:Int}:∀ (m:Nat) (hs:List Hf) (l:List Tok) (t:Tn) (l':List Tok),operL P r m hs l = .ok (t,l')→l'.length < l.length
 | 0,_,_,_,_,h=>by cases h
 | m+1,hs,l,t,l',h=>by
  rw [operL] at h
  obtain ⟨_,l1,h1,h⟩:=thn_ok h
  have a1:=hP _ _ _ h1
  split at h
  ·cases h
   exact a1
  ·have a2:=oper_less hP m _ _ _ _ h
   have a3:l1.tail.length≤l1.length:=by simp
   omega
theorem step_less {Q:Ps→Int→List Tok→Out Tn} (hQ:∀ P r l t l',Shr P→Q P r l = .ok (t,l')→l'.length < l.length) {P:Ps} (hP:Less P):Less (stepS Q P) :=
 ⟨fun _ _ _ h=>minus_less hP h,fun _ _ _ h=>postfix_less hP h,fun _ _ _ h=>primary_less hP h,fun _ _ _ h=>filter_less hP h,fun r l t l' hr h=>by
  match r,hr,h with
  | r+11,_,h =>
   have h:(if 11≤r+11∧r+11≤19 then Q P (((r+11:Nat):Int) - 10) l else .error l) = .ok (t,l'):=h
   split at h
   ·exact hQ _ _ _ _ _ hP.side h
   ·cases h⟩
theorem readP_less:∀ n,Less (readP n)
 | 0=>⟨fun _ _ _ h=>(by cases h),fun _ _ _ h=>(by cases h),fun _ _ _ h=>(by cases h),fun _ _ _ h=>(by cases h),fun _ _ _ _ _ h=>(by cases h)⟩
 | n+1=>step_less (fun P r l t l' hP h=>oper_less hP _ _ _ _ _ h) (readP_less n)
theorem read_nil:∀ n,readP n 1 [] = .error []∧readP n 3 [] = .error []∧readP n 4 [] = .error []
 | 0=>⟨rfl,rfl,rfl⟩
 | n+1=>by
  obtain ⟨_,h3,h4⟩:=read_nil n
  refine ⟨?_,?_,rfl⟩
  ·show thn (readP n 3 []) _=_
   rw [h3]
   rfl
  ·show thn (readP n 4 []) _=_
   rw [h4]
   rfl
theorem climbs_nil {P:Ps} (hN:P 1 [] = .error []) (loop:Nat→Tn→List Tok→Out Tn):∀ k,climbs P loop k [] = .error []
 | 0=>hN
 | k+1=>by
  rw [climbs,climbs_nil hN loop k]
  rfl
theorem read_same:∀ n,readP n=readR n
 | 0=>rfl
 | n+1=>by
  have ih:=read_same n
  rw [readP,readR,← ih]
  funext c l
  have hq:∀ c:Nat,11≤c∧c≤19→operS (readP n) ((c:Int) - 10) l=climbS (readP n) ((c:Int) - 10) l:=fun c hc=>by
   cases l with
   | nil =>
    have hN:=(read_nil n).1
    show Except.error []=_
    unfold climbS
    rw [climbs_nil hN]
   | cons t l=>exact oper_climb (readP_less n).side (read_nil n).1 (by omega) (by omega) (by simp)
  match c with
  | 0=>rfl
  | 1=>rfl
  | 3=>rfl
  | 4=>rfl
  | 2=>rfl
  | c+5 =>
   show (if 11≤c+5∧c+5≤19 then operS (readP n) (((c+5:Nat):Int) - 10) l else .error l)=(if 11≤c+5∧c+5≤19 then climbS (readP n) (((c+5:Nat):Int) - 10) l else .error l)
   split
   ·rename_i hc
    exact hq (c+5) hc
   ·rfl
end Go.Proofs.Tryz
