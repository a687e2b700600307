import Derived.Test.YtfocepfmpnpaiaaGreatDoorYj4
import Derived.Lib.ItoaMem
set_option linter.all false
namespace Go.Proofs.Tryz
set_option maxHeartbeats 16000000
open Go.RowKit
set_option maxRecDepth 10000
section
variable {a w w' : World} {rb g : Nat} {X : List Nat} {L L' : List Tok} {K K' : List Kn} {lost lost' : Int} {its : List (Out Tn × Value)}
theorem RRa.set4 {cap I:Nat}{F:List Tok}{bad:Int}{nv nv':Value} (h:RRa w rb g cap F I bad lost nv K) (hn:w.ownsRow 0 76 3 nv' K'.length (kcells K')) (h1:nv'.ownBlock≠some rb) (h2:nv'.ownBlock≠some g):RRa (w.setCell ⟨rb,4,none⟩ nv') rb g cap F I bad lost nv' K':=by
 have o:∀ i,i≠4→(w.setCell ⟨rb,4,none⟩ nv').cell? ⟨rb,i,none⟩=w.cell? ⟨rb,i,none⟩:=fun i hi=>World.cell?_setCell_other _ _ _ _ (by intro h;cases h;exact hi rfl)
 have hb:∀ k,k≠rb→(w.setCell ⟨rb,4,none⟩ nv').heap[k]? = w.heap[k]?:=fun k hk=>Below.heap_setCell _ _ _ _ (by simpa using hk)
 exact ⟨(o _ (by decide)).trans h.c0,(o _ (by decide)).trans h.c1,(o _ (by decide)).trans h.c2,(o _ (by decide)).trans h.c3,World.cell?_setCell_same _ _ _ h.c4,fun i=>by rw [World.frozen?_setCell];exact h.fz i,h.toks.same (hb _ h.ne),owns_sameT hn (fun b e=>hb b (fun e2=>h1 (e2 ▸ e))),h.ne,h1,h2,by simpa using h.gs,h.cap1,h.cap2,h.lt,h.len,h.okt⟩
theorem nbOf_set4 {nv nv':Value} (h:w.cell? ⟨rb,4,none⟩=some nv):nbOf (w.setCell ⟨rb,4,none⟩ nv') rb=nv'.ownBlock:=by
 unfold nbOf
 rw [World.cell?_setCell_same _ _ _ h]
 rfl
theorem KpR.set4 {nv nv':Value} (h:w.cell? ⟨rb,4,none⟩=some nv) (hb:nv'.ownBlock=nv.ownBlock∨∀ k,nv'.ownBlock=some k→w.heap.size≤k):KpR rb w (w.setCell ⟨rb,4,none⟩ nv') :=
 ⟨rfl,rfl,rfl,by simp,fun k _ hk _=>Below.heap_setCell _ _ _ _ (by simpa using hk),by
  rw [nbOf_set4 h]
  have:nbOf w rb=nv.ownBlock:=by unfold nbOf;rw [h];rfl
  rw [this]
  exact hb⟩
def BackP (rb g n:Nat) (L:List Tok) (K:List Kn) (lost:Int) (w:World) (e:Ending) (w':World):Prop:=e = .returned (.tuple #[])∧KpR rb w w'∧RdR w' rb g L (K.take n) lost
theorem backQ (q:Int) (n:Nat) (hq:q=n) (h:RdR w rb g L K lost) (hn:n≤K.length) (hK:K.length≤100000) :
  Calls Tryz.prog 30 #[.pointer (some ⟨rb,0,none⟩),.int .i64 q] w (BackP rb g n L K lost w):=by
 subst hq
 obtain ⟨cap,F,I,bad,nv,h,h2,h3⟩:=h
 have c4:=h.c4
 have f4:=h.fz 4
 have hrb:=h.rbs
 have HH:Aside (RRa w rb g cap F I bad lost nv K):=h
 have hlt:(K.take n).length=n:=by rw [List.length_take];omega
 obtain ⟨hl,⟨rfl,h0⟩ | ⟨nb,nc,cur,rfl,hb0,hbk,hc1,hc2,hc3,hc4⟩⟩:=h.names
 ·have hn0:n=0:=by omega
  subst hn0
  clear h hl
  go_enter Tryz.func30,Tryz.ntmps30
  go_wp2_with fail
  go_end0
  have hA:=HH.out.set4 (K':=K.take 0) (nv':=.slice none 0 0) (by rw [List.take_zero];exact World.ownsRow_nil _ _ _ _) (by intro e;cases e) (by intro e;cases e)
  exact ⟨rfl,KpR.set4 c4 (.inl rfl),cap,F,I,bad,_,hA,h2,h3⟩
 ·have i1:(n:Int)≤(nc:Int):=by omega
  have hnb:=h.nrb
  have hng:=h.ng
  have ho:w.ownsRow 0 76 3 (.slice (some ⟨nb,0,none⟩) n nc) (K.take n).length (kcells (K.take n)):=by
   rw [hlt]
   refine ⟨by rw [kcells_length,hlt],.inr ⟨nb,nc,cur,rfl,Nat.zero_le _,hbk,by omega,hc2,hc3,?_⟩⟩
   rw [kcells_take,← hc4,List.take_take,Nat.min_eq_left (by omega)]
  have HO:Aside (w.ownsRow 0 76 3 (.slice (some ⟨nb,0,none⟩) n nc) (K.take n).length (kcells (K.take n))):=ho
  obtain ⟨N,hN⟩:∃ N,K.length=N:=⟨_,rfl⟩
  rw [hN] at c4
  have HN:Hid _:=hN
  clear h hl hbk hc4 ho hN hlt hc3
  go_enter Tryz.func30,Tryz.ntmps30
  go_wp2_with fail
  go_end0
  have hA:=HH.out.set4 HO.out hnb hng
  exact ⟨rfl,KpR.set4 c4 (.inl rfl),cap,F,I,bad,_,hA,h2,h3⟩
end
end Go.Proofs.Tryz
namespace Go.Proofs.Tryz
set_option maxHeartbeats 16000000
open Go.RowKit
set_option maxRecDepth 10000
def ItoaAt:Prop:=∀ (n:Int) (w:World),-9223372036854775808≤n→n≤9223372036854775807→Lib.TabBelow Tryz.prog w.heap.size w "internal/strconv.uint64pow10" .u64 Lib.pow10Tab→
 Calls Tryz.prog 31 #[.int .i64 n] w fun e w'=>e = .returned (.string ⟨(Lib.itoa n).toArray⟩)∧Below w.heap.size w w'
def givenW:List (List UInt8):=givenT.map fun q=>q.1 ++ 47 :: Lib.decDigits q.2
theorem dec_small {n:Nat} (h:n < 10):Lib.decDigits n=[UInt8.ofNat (48+n)]:=by
 rw [Lib.decDigits]
 simp [h]
def givenG:List (List UInt8):=givenT.map fun q=>q.1 ++ [47,UInt8.ofNat (48+q.2)]
theorem givenW_eq:givenW=givenG:=by
 unfold givenW givenG
 refine List.map_congr_left fun q hq=>?_
 have hall:∀ q∈givenT,q.2 < 10:=by decide
 rw [dec_small (hall q hq)]
def givenS:ByteArray:=⟨(spaced givenG).toArray⟩
theorem given_any (w:World):Calls Tryz.prog 131 #[] w fun e w'=>e = .returned (.string givenS)∧w'=w:=by
 go_enter Tryz.func131,Tryz.ntmps131
 go_wp2_with fail
 go_ret
 exact ⟨rfl,rfl⟩
theorem dec_len2 {n:Nat} (h:10≤n):2≤(Lib.decDigits n).length:=by
 rw [Lib.decDigits]
 rw [dif_neg (by omega)]
 have:0 < (Lib.decDigits (n / 10)).length:=by
  rw [Lib.decDigits]
  split
  ·simp
  ·simp
 simp
 omega
theorem dec_inj {n q:Nat} (hq:q < 10) (h:Lib.decDigits n=Lib.decDigits q):n=q:=by
 rw [dec_small hq] at h
 by_cases hn:n < 10
 ·rw [dec_small hn] at h
  have h:UInt8.ofNat (48+n)=UInt8.ofNat (48+q):=by simpa using h
  have:=congrArg UInt8.toNat h
  simp at this
  omega
 ·have:=dec_len2 (n:=n) (by omega)
  rw [h] at this
  simp at this
theorem split_slash:∀ {x y a b:List UInt8},47 ∉ x→47 ∉ y→x ++ 47 :: a=y ++ 47 :: b→x=y∧a=b
 | [],[],a,b,_,_,h=>⟨rfl,by simpa using h⟩
 | [],c :: y,a,b,_,hy,h=>by
  simp only [List.nil_append,List.cons_append,List.cons.injEq] at h
  simp only [List.mem_cons,not_or] at hy
  exact absurd h.1 hy.1
 | c :: x,[],a,b,hx,_,h=>by
  simp only [List.nil_append,List.cons_append,List.cons.injEq] at h
  simp only [List.mem_cons,not_or] at hx
  exact absurd h.1.symm hx.1
 | c :: x,d :: y,a,b,hx,hy,h=>by
  simp only [List.cons_append,List.cons.injEq] at h
  simp only [List.mem_cons,not_or] at hx hy
  obtain ⟨e1,e2⟩:=split_slash hx.2 hy.2 h.2
  exact ⟨by rw [h.1,e1],e2⟩
theorem given_contains (x:ByteArray) (n:Nat) (hx:∀ c∈x.data.toList,(isLetterB c || isDigitB c)=true):givenG.contains (x.data.toList ++ 47 :: Lib.decDigits n)=givenB x n:=by
 have h47:47 ∉ x.data.toList:=fun h=>by have:=hx 47 h;revert this;decide
 rw [← givenW_eq,Bool.eq_iff_iff,givenB,List.contains_iff_mem,List.contains_iff_mem]
 constructor
 ·intro h
  obtain ⟨q,hq,e⟩:=List.mem_map.1 h
  have hall:∀ q∈givenT,47 ∉ q.1∧q.2 < 10:=by decide
  obtain ⟨h1,h2⟩:=hall q hq
  obtain ⟨e1,e2⟩:=split_slash h1 h47 e
  have e3:=dec_inj h2 e2.symm
  rw [← e1,e3]
  exact hq
 ·intro h
  exact List.mem_map.2 ⟨_,h,rfl⟩
theorem within_given (x:ByteArray) (n:Nat) (hx:∀ c∈x.data.toList,(isLetterB c || isDigitB c)=true):withinB givenS.data.toList (32 :: (x.data.toList ++ 47 :: Lib.decDigits n ++ [32]))=givenB x n:=by
 rw [← given_contains x n hx]
 have hd:∀ n,32 ∉ Lib.decDigits n:=by
  intro n
  induction n using Nat.strongRecOn with
  | ind n ih =>
   rw [Lib.decDigits]
   split
   ·rename_i h
    intro hm
    have hm:32=UInt8.ofNat (48+n):=by simpa using hm
    have:=congrArg UInt8.toNat hm
    simp at this
    omega
   ·rename_i h
    intro hm
    rcases List.mem_append.1 hm with hm | hm
    ·exact ih (n / 10) (by omega) hm
    ·have hm:32=UInt8.ofNat (48+n % 10):=by simpa using hm
     have:=congrArg UInt8.toNat hm
     simp at this
     omega
 refine within_spaced _ ?_ (by simp) givenG (by decide)
 intro hm
 rcases List.mem_append.1 hm with hm | hm
 ·exact name_noblank hx hm
 ·rcases List.mem_cons.1 hm with hm | hm
  ·revert hm;decide
  ·exact hd n hm
end Go.Proofs.Tryz
namespace Go.Proofs.Tryz
set_option maxHeartbeats 16000000
open Go.RowKit
set_option maxRecDepth 10000
def askB (K:List Kn) (what:Int) (x:ByteArray) (n:Nat):Bool:=hasK K (what,x,n) || (what == 102 && withinB givenS.data.toList (32 :: (x.data.toList ++ 47 :: Lib.decDigits n ++ [32])))
theorem kcells_at:∀ {K:List Kn}{i:Nat}{k:Kn},K[i]? = some k→(kcells K)[i * 3]? = some (.int .u8 k.1)∧(kcells K)[i * 3+1]? = some (.string k.2.1)∧(kcells K)[i * 3+2]? = some (.int .i64 k.2.2)
 | [],i,k,h=>by simp at h
 | q :: K,0,k,h=>by
  simp only [List.getElem?_cons_zero,Option.some.injEq] at h
  subst h
  exact ⟨rfl,rfl,rfl⟩
 | q :: K,i+1,k,h=>by
  obtain ⟨h1,h2,h3⟩:=kcells_at (K:=K) (i:=i) (by simpa using h)
  refine ⟨?_,?_,?_⟩
  ·rw [show (i+1) * 3=i * 3+3 by omega];simpa [kcells] using h1
  ·rw [show (i+1) * 3+1=i * 3+1+3 by omega];simpa [kcells] using h2
  ·rw [show (i+1) * 3+2=i * 3+2+3 by omega];simpa [kcells] using h3
theorem owns_at {w:World}{T nb nc n:Nat}{xs:List Value} (h:w.ownsRow 0 T 3 (.slice (some ⟨nb,0,none⟩) n nc) n xs) {o:Nat}{v:Value} (hv:xs[o]? = some v):w.cell? ⟨nb,o,none⟩=some v:=by
 obtain ⟨hl,⟨e,_⟩ | ⟨g,cap,cur,e,_,hbk,_,_,hsz,htk⟩⟩:=h
 ·cases e
 ·cases e
  have ho:=(List.getElem?_eq_some_iff.1 hv).1
  rw [← htk,List.getElem?_take_of_lt (by omega)] at hv
  simpa [World.cell?,hbk] using hv
theorem dec_len (n:Nat):(Lib.decDigits n).length≤n+1:=by
 induction n using Nat.strongRecOn with
 | ind n ih =>
  rw [Lib.decDigits]
  split
  ·simp
  ·have:=ih (n / 10) (by omega)
   rw [List.length_append,List.length_singleton]
   omega
theorem itoa_z (hIt:ItoaAt) (n:Nat) (w:World) (ht:Lib.TabBelow Tryz.prog w.heap.size w "internal/strconv.uint64pow10" .u64 Lib.pow10Tab) (hn:n≤3000) :
  Calls Tryz.prog 31 #[.int .i64 n] w fun e w'=>∃ z:ByteArray,e = .returned (.string z)∧Hid (z.data.toList=Lib.decDigits n)∧z.size≤3001∧Below w.heap.size w w':=by
 refine (hIt n w (by omega) (by omega) ht).mono ?_
 rintro e w' ⟨rfl,hB⟩
 have e:(⟨(Lib.itoa n).toArray⟩:ByteArray).data.toList=Lib.decDigits n:=by rw [Lib.itoa_nonneg]
 refine ⟨_,rfl,show _=_ from e,?_,hB⟩
 rw [← size_list,e]
 have:=dec_len n
 omega
def AskP (rb g:Nat) (L:List Tok) (K:List Kn) (lost:Int) (kn:Bool) (at_:Int) (w:World) (e:Ending) (w':World):Prop:=e = .returned (.tuple #[])∧KpR rb w w'∧RdR w' rb g L K (if kn then lost else lostF lost at_)
theorem asksQ (hIt:ItoaAt) {w:World}{rb g:Nat}{L:List Tok}{K:List Kn}{lost:Int} (what:Int) (x:ByteArray) (n:Nat) (at_:Int) (h:RdR w rb g L K lost) (ht:TbR w rb) (hK:K.length≤100000) (hx:x.size≤2000) (hn:n≤3000) (ha:0≤at_) :
  Calls Tryz.prog 117 #[.pointer (some ⟨rb,0,none⟩),.int .u8 what,.string x,.int .i64 n,.int .i64 at_] w (AskP rb g L K lost (askB K what x n) at_ w):=by
 have h0:=h
 obtain ⟨cap,F,I,bad,nv,h,h2,h3⟩:=h
 have c3:=h.c3
 have c4:=h.c4
 have f3:=h.fz 3
 have hrb:=h.rbs
 have HH:Aside (RRa w rb g cap F I bad lost nv K):=h
 have H2:Aside ((bad = -1∧F.drop I=L)∨(0≤bad∧kindOf L=1∧headPos L=bad)):=h2
 have H3:Aside (Wf L):=h3
 have H0:Aside (RdR w rb g L K lost):=h0
 have HT:Aside (TbR w rb):=ht
 obtain ⟨q,hq⟩:∃ q,askB K what x n=q:=⟨_,rfl⟩
 rw [hq]
 have rest:hasK K (what,x,n)=false→(what == 102 && withinB givenS.data.toList (32 :: (x.data.toList ++ 47 :: Lib.decDigits n ++ [32])))=q:=fun e=>by
  rw [← hq]
  unfold askB
  rw [e,Bool.false_or]
 have yes:hasK K (what,x,n)=true→q=true:=fun e=>by
  rw [← hq]
  unfold askB
  rw [e,Bool.true_or]
 have Hr:Hid _:=rest
 have Hy:Hid _:=yes
 have hnm:=h.names
 clear h h2 h3 h0 ht hq rest yes
 obtain ⟨N,hN⟩:∃ N,K.length=N:=⟨_,rfl⟩
 rw [hN] at hnm hK
 have hshape:(nv = .slice none 0 0∧N=0)∨∃ nb nc,nv = .slice (some ⟨nb,0,none⟩) N nc∧N≤nc∧nc≤maxLen:=by
  obtain ⟨_,e | ⟨g',c',cur,e,_,_,h4,h5,_⟩⟩:=hnm
  ·exact .inl e
  ·exact .inr ⟨g',c',e,h4,h5⟩
 obtain ⟨nl,ncap,np,hnv⟩:∃ (p:Option Addr) (l c:Nat),nv = .slice p l c∧l=N:=by
  rcases hshape with ⟨e,e2⟩ | ⟨nb,nc,e,_,_⟩
  ·exact ⟨none,0,0,e,e2.symm⟩
  ·exact ⟨_,_,_,e,rfl⟩
 obtain ⟨hnv,rfl⟩:=hnv
 subst hnv
 have HN:Hid _:=hN
 have hcell:∀ (i:Nat) (k:Kn),K[i]? = some k→∃ nb,nl=some ⟨nb,0,none⟩∧w.cell? ⟨nb,i * 3,none⟩=some (.int .u8 k.1)∧w.cell? ⟨nb,i * 3+1,none⟩=some (.string k.2.1)∧w.cell? ⟨nb,i * 3+2,none⟩=some (.int .i64 k.2.2):=fun i k hk=>by
  rcases hshape with ⟨e,e2⟩ | ⟨nb,nc,e,_,_⟩
  ·have:=(List.getElem?_eq_some_iff.1 hk).1
   omega
  ·cases e
   obtain ⟨a1,a2,a3⟩:=kcells_at hk
   exact ⟨nb,rfl,owns_at hnm a1,owns_at hnm a2,owns_at hnm a3⟩
 have HC:Hid _:=hcell
 clear hnm hshape hcell hN
 go_enter Tryz.func117,Tryz.ntmps117
 go_wp2_with fail
 go_loop [10] (fun t=>∃ i:Nat,i≤ncap∧t = .int .i64 i∧Hid (hasK (K.drop i) (what,x,n)=hasK K (what,x,n))) (fun t=>ncap - (intOf t).toNat)
 case atStart=>exact ⟨0,Nat.zero_le _,rfl,show _=_ by rw [List.drop_zero]⟩
 case round =>
  obtain ⟨i,hi,rfl,hrest⟩:=hrel
  by_cases hlt:i < ncap
  ·have hlt':(i:Int) < (ncap:Int):=by omega
   obtain ⟨k,hk⟩:∃ k,K[i]? = some k:=⟨_,List.getElem?_eq_getElem (by have:=HN.out;omega)⟩
   obtain ⟨nb,rfl,e0,e1,e2⟩:=HC.out i k hk
   have hd:K.drop i=k :: K.drop (i+1):=by
    have hl:i < K.length:=by have:=HN.out;omega
    rw [List.drop_eq_getElem_cons hl]
    rw [List.getElem?_eq_getElem hl,Option.some.injEq] at hk
    rw [hk]
   obtain ⟨k1,k2,k3⟩:=k
   simp only at e0 e1 e2
   have hstep:hasK (K.drop i) (what,x,n)=((k1 == what && (k2.data.toList == x.data.toList && k3 == n)) || hasK (K.drop (i+1)) (what,x,n)):=by
    rw [hd]
    unfold hasK
    rw [List.any_cons]
   have HS:Hid _:=hstep
   clear hk hd hstep
   by_cases m1:k1=what
   ·by_cases m2:k2.toList=x.toList
    ·by_cases m3:k3=n
     ·have m3':(k3:Int)=(n:Int):=by omega
      have hyes:hasK K (what,x,n)=true:=by
       rw [← hrest.out,HS.out,m1,m3,← ByteArray.toList_eq,← ByteArray.toList_eq,m2]
       simp
      have hq:=Hy.out hyes
      subst hq
      clear hyes
      subst m1
      subst m3
      go_wp2_with fail
      go_end0
      exact ⟨rfl,KpR.refl _ _,H0.out⟩
     ·have m3':¬ (k3:Int)=(n:Int):=by omega
      have hno:hasK (K.drop (i+1)) (what,x,n)=hasK K (what,x,n):=by
       rw [← hrest.out,HS.out,show (k3 == n)=false by simpa using m3]
       simp
      have HNo:Hid _:=hno
      clear hno
      subst m1
      go_wp2_with fail
      go_round
      case rel=>exact ⟨i+1,by omega,by go_num,HNo⟩
      case measure=>simp [intOf];omega
    ·have hno:hasK (K.drop (i+1)) (what,x,n)=hasK K (what,x,n):=by
      rw [← hrest.out,HS.out,show (k2.data.toList == x.data.toList)=false by rw [← ByteArray.toList_eq,← ByteArray.toList_eq];simpa using m2]
      simp
     have HNo:Hid _:=hno
     clear hno
     subst m1
     go_wp2_with fail
     go_round
     case rel=>exact ⟨i+1,by omega,by go_num,HNo⟩
     case measure=>simp [intOf];omega
   ·have m1':(k1 == what)=false:=by simpa using m1
    have hno:hasK (K.drop (i+1)) (what,x,n)=hasK K (what,x,n):=by
     rw [← hrest.out,HS.out,m1']
     simp
    have HNo:Hid _:=hno
    clear hno
    go_wp2_with fail
    go_round
    case rel=>exact ⟨i+1,by omega,by go_num,HNo⟩
    case measure=>simp [intOf];omega
  ·have hie:i=ncap:=by omega
   have hnl:¬ (i:Int) < (ncap:Int):=by omega
   have hno:hasK K (what,x,n)=false:=by
    rw [← hrest.out,List.drop_eq_nil_of_le (by have:=HN.out;omega)]
    rfl
   have hq:=Hr.out hno
   clear hno hrest
   subst hie
   by_cases h102:what=102
   ·subst h102
    have hq:withinB givenS.data.toList (32 :: (x.data.toList ++ 47 :: Lib.decDigits n ++ [32]))=q:=hq
    go_wp2_with fail
    refine Calls.mono (given_any _) ?_
    rintro e w1 ⟨rfl,h1⟩
    subst w1
    go_wp2_with fail
    have htab:Lib.TabBelow Tryz.prog w.heap.size w "internal/strconv.uint64pow10" .u64 Lib.pow10Tab:=fun w' h'=>HT.out.1 w' (h'.mono (by omega))
    have HTB:Aside (Lib.TabBelow Tryz.prog w.heap.size w "internal/strconv.uint64pow10" .u64 Lib.pow10Tab):=htab
    clear htab
    refine Calls.mono (itoa_z hIt n w HTB.out hn) ?_
    rintro e w1 ⟨z,rfl,hz,hz2,hB⟩
    have hwi:∀ w:World,Calls Tryz.prog 50 #[.string givenS,.string (⟨#[32]⟩ ++ x ++ ⟨#[47]⟩ ++ z ++ ⟨#[32]⟩)] w fun e w'=>e = .returned (.bool q)∧w'=w:=fun w=>by
     have:=within_at givenS (⟨#[32]⟩ ++ x ++ ⟨#[47]⟩ ++ z ++ ⟨#[32]⟩) (32 :: (x.data.toList ++ 47 :: Lib.decDigits n ++ [32])) w (by decide) (by
      rw [append_list,append_list,append_list,append_list,hz.out]
      simp) (by simp) (by rw [← hz.out];simp [size_list];omega)
     rw [hq] at this
     exact this
    have HW:Aside (∀ w:World,Calls Tryz.prog 50 #[.string givenS,.string (⟨#[32]⟩ ++ x ++ ⟨#[47]⟩ ++ z ++ ⟨#[32]⟩)] w fun e w'=>e = .returned (.bool q)∧w'=w):=hwi
    clear hwi hq
    go_wp2_with fail
    refine Calls.mono (HW.out _) ?_
    rintro e w2 ⟨rfl,h1⟩
    subst w2
    cases q with
    | true =>
     go_wp2_with fail
     go_end0
     exact ⟨rfl,KpR.of_below hB hrb,H0.out.below hB⟩
    | false =>
     have c3':w1.cell? ⟨rb,3,none⟩=some (.int .i64 lost):=(hB.cell (p:=⟨rb,3,none⟩) hrb).trans c3
     have f3':w1.frozen? ⟨rb,3,none⟩=false:=(hB.frozen (p:=⟨rb,3,none⟩) hrb).trans f3
     clear c3 f3
     by_cases hl0:lost < 0
     ·go_wp2_with fail
      go_end0
      have hA:=(HH.out.below hB).set3 at_
      refine ⟨rfl,(KpR.of_below hB hrb).trans (KpR.set (by decide)),cap,F,I,bad,.slice nl i np,?_,H2.out,H3.out⟩
      rw [if_neg (by decide),show lostF lost at_=at_ by unfold lostF;rw [if_neg (by omega),if_pos ha]]
      exact hA
     ·go_wp2_with fail
      go_end0
      refine ⟨rfl,(KpR.of_below hB hrb),cap,F,I,bad,.slice nl i np,?_,H2.out,H3.out⟩
      rw [if_neg (by decide),show lostF lost at_=lost by unfold lostF;rw [if_pos (by omega)]]
      exact HH.out.below hB
   ·have h102':(what == 102)=false:=by simpa using h102
    rw [h102',Bool.false_and] at hq
    subst hq
    by_cases hl0:lost < 0
    ·go_wp2_with fail
     go_end0
     have hA:=(HH.out).set3 at_
     refine ⟨rfl,(KpR.refl _ _).trans (KpR.set (by decide)),cap,F,I,bad,.slice nl i np,?_,H2.out,H3.out⟩
     rw [if_neg (by decide),show lostF lost at_=at_ by unfold lostF;rw [if_neg (by omega),if_pos ha]]
     exact hA
    ·go_wp2_with fail
     go_end0
     refine ⟨rfl,(KpR.refl _ _),cap,F,I,bad,.slice nl i np,?_,H2.out,H3.out⟩
     rw [if_neg (by decide),show lostF lost at_=lost by unfold lostF;rw [if_pos (by omega)]]
     exact HH.out
end Go.Proofs.Tryz
namespace Go.Proofs.Tryz
set_option maxHeartbeats 16000000
open Go.RowKit
set_option maxRecDepth 10000
theorem info_known:(Tryz.prog.info? 76).map (fun i=>(i.zero,i.size,i.bytes))=some (some (.agg #[.int .u8 0,.string ⟨#[]⟩,.int .i64 0]),3,32):=by kernel_rfl
theorem info_node:(Tryz.prog.info? 25).map (fun i=>(i.zero,i.size,i.bytes))=some (some (.pointer none),1,8):=by kernel_rfl
section
variable {a w w' : World} {rb g : Nat} {X : List Nat} {L L' : List Tok} {K K' : List Kn} {lost lost' : Int} {its : List (Out Tn × Value)}
theorem RdR.named (h:RdR w rb g L K lost):∃ nl ncap np,w.cell? ⟨rb,4,none⟩=some (.slice nl ncap np)∧ncap=K.length∧w.frozen? ⟨rb,4,none⟩=false∧w.ownsRow 0 76 3 (.slice nl ncap np) ncap (kcells K)∧(∀ b,(Value.slice nl ncap np).ownBlock=some b→b≠rb∧b≠g∧b < w.heap.size):=by
 obtain ⟨cap,F,I,bad,nv,h,h2,h3⟩:=h
 have hnm:=h.names
 have hs:∃ nl ncap np,nv = .slice nl ncap np∧ncap=K.length:=by
  obtain ⟨_,⟨e,e2⟩ | ⟨g',c',cur,e,_⟩⟩:=hnm
  ·exact ⟨_,_,_,e,e2.symm⟩
  ·exact ⟨_,_,_,e,rfl⟩
 obtain ⟨nl,ncap,np,rfl,e⟩:=hs
 refine ⟨nl,ncap,np,h.c4,e,h.fz 4,e ▸ hnm,fun b hb=>⟨fun e2=>h.nrb (e2 ▸ hb),fun e2=>h.ng (e2 ▸ hb),(hnm.lt b hb).2⟩⟩
theorem RdR.grown {nv nv':Value}{w1:World} (h:RdR w rb g L K lost) (hc:w.cell? ⟨rb,4,none⟩=some nv) (k:w.grownBy w1 nv.ownBlock) (ho:w1.ownsRow 0 76 3 nv' K'.length (kcells K')) (hb:nv'.ownBlock=nv.ownBlock∨∀ b,nv'.ownBlock=some b→w.heap.size≤b) :
  RdR (w1.setCell ⟨rb,4,none⟩ nv') rb g L K' lost∧KpR rb w (w1.setCell ⟨rb,4,none⟩ nv'):=by
 obtain ⟨cap,F,I,bad,nv0,h,h2,h3⟩:=h
 have e:nv0=nv:=by
  have:=h.c4
  rw [hc] at this
  cases this
  rfl
 subst e
 have hr:=h.rbs
 have hg:=h.gs
 have h1:nv'.ownBlock≠some rb:=fun e=>by
  rcases hb with e2 | e2
  ·exact h.nrb (e2 ▸ e)
  ·have:=e2 rb e;omega
 have h4:nv'.ownBlock≠some g:=fun e=>by
  rcases hb with e2 | e2
  ·exact h.ng (e2 ▸ e)
  ·have:=e2 g e;omega
 have br:w1.heap[rb]? = w.heap[rb]?:=k.block rb hr (fun e=>h.nrb e.symm)
 have bg:w1.heap[g]? = w.heap[g]?:=k.block g hg (fun e=>h.ng e.symm)
 have hset:∀ i,i≠rb→(w1.setCell ⟨rb,4,none⟩ nv').heap[i]? = w1.heap[i]?:=fun i hi=>Below.heap_setCell _ _ _ _ (by simpa using hi)
 have cc:∀ i,w1.cell? ⟨rb,i,none⟩=w.cell? ⟨rb,i,none⟩:=fun i=>World.cell?_of_block (w:=w) br
 have o:∀ i,i≠4→(w1.setCell ⟨rb,4,none⟩ nv').cell? ⟨rb,i,none⟩=w.cell? ⟨rb,i,none⟩:=fun i hi=>(World.cell?_setCell_other _ _ _ _ (by intro h;cases h;exact hi rfl)).trans (cc i)
 refine ⟨⟨cap,F,I,bad,nv',⟨(o _ (by decide)).trans h.c0,(o _ (by decide)).trans h.c1,(o _ (by decide)).trans h.c2,(o _ (by decide)).trans h.c3,World.cell?_setCell_same _ _ _ ((cc 4).trans h.c4),fun i=>by rw [World.frozen?_setCell];exact (World.frozen?_of_block (w:=w) br).trans (h.fz i),(h.toks.same bg).same (hset g h.ne),owns_sameT ho (fun b e=>hset b (fun e2=>h1 (e2 ▸ e))),h.ne,h1,h4,by have:=k.size;simp;omega,h.cap1,h.cap2,h.lt,h.len,h.okt⟩,h2,h3⟩,?_⟩
 have nb:nbOf w rb=nv0.ownBlock:=by unfold nbOf;rw [hc];rfl
 exact ⟨k.os,k.tape,k.output,by have:=k.size;simp;omega,fun i hi h5 h6=>(hset i h5).trans (k.block i hi (fun e=>h6 (by rw [nb];exact e.symm))),by rw [nbOf_set4 ((cc 4).trans hc),nb];exact hb⟩
theorem RdR.grown2 {nv nv':Value}{w1 Wa:World} (h:RdR w rb g L K lost) (hB:Below w.heap.size w Wa) (hc:w.cell? ⟨rb,4,none⟩=some nv) (k:Wa.grownBy w1 nv.ownBlock) (ho:w1.ownsRow 0 76 3 nv' K'.length (kcells K')) (hb:nv'.ownBlock=nv.ownBlock∨∀ b,nv'.ownBlock=some b→Wa.heap.size≤b) :
  RdR (w1.setCell ⟨rb,4,none⟩ nv') rb g L K' lost∧KpR rb w (w1.setCell ⟨rb,4,none⟩ nv'):=by
 obtain ⟨h1,h2⟩:=(h.below hB).grown ((hB.cell (p:=⟨rb,4,none⟩) h.rbs).trans hc) k ho hb
 exact ⟨h1,(KpR.of_below hB h.rbs).trans h2⟩
theorem ownsR_call {T s n:Nat}{v:Value}{xs:List Value} (h:w.ownsRow 0 T s v n xs) (q:NqR a w rb g X L K lost its) (hg:∀ b,v.ownBlock=some b→b∈X) (k:KpR rb w w'):w'.ownsRow 0 T s v n xs :=
 owns_sameT h fun b e=>by
  have h1:=q.rbs
  have h3:=q.mine b (hg b e)
  exact k.block b h3.2.1 (by omega) h3.2.2
theorem NqR.grown {b:Option Nat} (h:NqR a w rb g X L K lost its) (k:w.grownBy w' b) (hb:∀ i,b=some i→i∈X) {g':Nat} (hg:b=some g'∨g'=w.heap.size) (hlt:g' < w'.heap.size):NqR a w' rb g (g' :: X) L K lost its:=by
 have hs:=h.kept.size
 have h1:=h.rbs
 have h2:=h.gbs
 have hx:∀ i,b=some i→a.heap.size≤i:=fun i e=>(h.mine i (hb i e)).1
 have low:∀ i,i < a.heap.size→w'.heap[i]? = w.heap[i]?:=fun i hi=>k.block i (by omega) (fun e=>by have:=hx i e.symm;omega)
 have e4:nbOf w' rb=nbOf w rb:=by unfold nbOf;rw [World.cell?_of_block (w:=w) (low rb h1)]
 have hrd:=h.rd
 obtain ⟨cap,F,I,bad,nv,hA,hA2,hA3⟩:=hrd
 have hnv:nbOf w rb=nv.ownBlock:=by unfold nbOf;rw [hA.c4];rfl
 have hnb:∀ i,nbOf w rb=some i→w'.heap[i]? = w.heap[i]?:=fun i e=>k.block i (nbOf_lt h.rd e) (fun e2=>(h.mine i (hb i e2.symm)).2.2 e)
 refine ⟨⟨k.os.trans h.kept.os,k.tape.trans h.kept.tape,k.output.trans h.kept.output,Nat.le_trans hs k.size,fun i hi hr ht=>(low i hi).trans (h.kept.block i hi hr ht),by rw [e4];exact h.kept.nb⟩,⟨cap,F,I,bad,nv,hA.same (low rb h1) (low g h2) (fun i e=>hnb i (hnv.trans e)) k.size,hA2,hA3⟩,h1,h2,h.tb,fun i hi=>?_,fun q hq t l' e=>(h.its q hq t l' e).keep (fun i hi hl=>⟨hi.1,?_,by rw [e4];exact hi.2.2⟩) k.size (fun i hi hl=>k.block i hl (fun e=>hi.2.1 (hb i e.symm)))⟩
 ·rcases List.mem_cons.mp hi with rfl | hi
  ·rcases hg with e | e
   ·have:=h.mine _ (hb _ e)
    exact ⟨this.1,hlt,by rw [e4];exact this.2.2⟩
   ·exact ⟨by omega,hlt,by rw [e4];intro e2;have:=nbOf_lt h.rd e2;omega⟩
  ·have:=h.mine i hi
   exact ⟨this.1,Nat.lt_of_lt_of_le this.2.1 k.size,by rw [e4];exact this.2.2⟩
 ·intro hm
  rcases List.mem_cons.mp hm with e | hm
  ·rcases hg with e' | e'
   ·exact hi.2.1 (hb i (e ▸ e'))
   ·omega
  ·exact hi.2.1 hm
def ReachP (P:Ps) (a:World) (rb g:Nat) (X:List Nat) (N:Nat) (L:List Tok) (K:List Kn) (lost:Int) (its:List (Out Tn×Value)) (op x:ByteArray) (what:Int) (n:Nat) (vs:List Value) (w:World) (e:Ending) (w':World):Prop :=
 ∃ L' lost' r' v g2,e = .returned (.pointer (some ⟨N,0,none⟩))∧NqR a w' rb g (g2 :: X) L' K lost' ((P 11 L,v) :: its)∧Cl w' N [.string op,.string x,.int .i64 0,.int .i64 0,.string ⟨#[]⟩,.slice none 0 0,.slice none 0 0,r',.slice none 0 0]∧w'.ownsRow 0 25 1 r' (n+1) (vs ++ [v])∧(∀ b,r'.ownBlock=some b→b∈g2 :: X)∧L'.length≤L.length∧Sx L L'∧Fn (P 11 L) L' fun t=>lost'=lostF lost (chk t (K ++ [(what,x,0)]))
theorem reach_ok {P:Ps}{B:Nat} (hP:SndR P B) {N n:Nat}{r:Value}{vs:List Value}{op x:ByteArray} (what:Int) (hn:NqR a w rb g X L K lost its) (hN:N∈X) (hc:Cl w N [.string op,.string x,.int .i64 0,.int .i64 0,.string ⟨#[]⟩,.slice none 0 0,.slice none 0 0,r,.slice none 0 0])
  (ho:w.ownsRow 0 25 1 r n vs) (hg:∀ b,r.ownBlock=some b→b∈X∧b≠N) (hn3:n≤3) (hK:K.length+1+L.length≤100000) (hB:8 * L.length+4≤B) :
  Calls Tryz.prog 79 #[.pointer (some ⟨rb,0,none⟩),.pointer (some ⟨N,0,none⟩),.int .u8 what] w (ReachP P a rb g X N L K lost its op x what n vs w):=by
 obtain ⟨i0,hi0,hz0,hz1,hz2⟩:=info_parts info_known
 obtain ⟨nl,ncap,np,c4,hcK,f4,hnm,hob⟩:=hn.rd.named
 have hrb:=hn.rd.rbs
 have hNm:=hn.mine N hN
 have hrbs:=hn.rbs
 have x1:w.cell? ⟨N,1,none⟩=some (.string x):=(hc.cell 1).trans rfl
 have hne:N≠rb:=by omega
 have HN:Aside (NqR a w rb g X L K lost its):=hn
 have HC:Aside (Cl w N [.string op,.string x,.int .i64 0,.int .i64 0,.string ⟨#[]⟩,.slice none 0 0,.slice none 0 0,r,.slice none 0 0]):=hc
 have HO:Aside (w.ownsRow 0 25 1 r n vs):=ho
 have HG:Hid _:=hg
 have HB:Hid _:=hob
 have HK:Hid _:=hcK
 have hcK2:ncap≤100000:=by omega
 have hnew:∀ W:World,W.heap[rb]? = w.heap[rb]?→W.cell? ⟨rb,4,none⟩=some (.slice nl ncap np)∧W.frozen? ⟨rb,4,none⟩=false:=fun W e=>⟨(World.cell?_of_block (w:=w) e).trans c4,(World.frozen?_of_block (w:=w) e).trans f4⟩
 clear hn hc ho hg hob hcK
 go_enter Tryz.func79,Tryz.ntmps79
 go_wp2_with fail
 go_region_law
  ((refine step_append_lies _ (by rfl) _ _ _ (by rfl) 0 76 i0 _ 3 32 Tryz.underlying38 hi0 hz0 hz1 hz2 rfl (by omega) (.slice nl ncap np) ncap (kcells K) (by rfl) (by first | exact hnm.alloc _ | exact (World.ownsRow.drew hnm).alloc _) ⟨w.heap.size,0,none⟩ 1 1 [.int .u8 what,.string x,.int .i64 0] (by rfl) (by rfl) (World.news_of_block (cs:=#[.int .u8 what,.string x,.int .i64 0]) (t:=76) (fr:=(0,0)) (by first | exact heap_new _ _ | exact heap_alloc_new _ _)) (by simp [Value.oneCell']) (by omega) (by unfold maxLen;omega) (by omega) (by simp) (w.heap.size+1) (by simp) ?_;intro g2 cap2 w2 ow2 hgr hat hlt2;have hw2g:w2.heap[rb]? = w.heap[rb]?:=(hgr.block rb (by simp;omega) (fun e=>(HB.out rb e.symm).1 rfl)).trans (by first | exact (below_alloc w _).block rb hrb | exact (below_alloc w.drew _).block rb hrb);obtain ⟨d0,d1⟩:=hnew _ hw2g))
 all_goals
  obtain ⟨hrd,hkp⟩:=HN.out.rd.grown2 (K':=K ++ [(what,x,0)]) (nv':=.slice (some ⟨g2,0,none⟩) (ncap+1) cap2) (by first | exact below_alloc _ _ | exact ((Below.refl _ _).drew).alloc (by simp) _ | exact (Below.dN (Below.refl _ _) _).alloc (by simp) _) c4 hgr (by rw [kcells_append,List.length_append,List.length_singleton,← HK.out];exact ow2) (hat.imp (fun e=>e.symm) (fun e b hb=>by cases hb;simp at e ⊢;omega))
  obtain ⟨W,hW⟩:∃ W,w2.setCell ⟨rb,4,none⟩ (.slice (some ⟨g2,0,none⟩) (ncap+1) cap2)=W:=⟨_,rfl⟩
  rw [hW] at hrd hkp ⊢
  clear hW hgr ow2 hat hlt2 hw2g d0 d1
  have hn:=HN.out.call hkp hrd
  have hc:=HC.out.callR HN.out hN hkp
  have ho:=ownsR_call HO.out HN.out (fun b e=>(HG.out b e).1) hkp
  go_wp2_with fail
  refine Calls.mono (hP.climb 1 0 rfl (by decide) (by decide) hn.rd hn.tbw (by simp;omega) hB) ?_
  rintro e w3 ⟨b3,L3,lost3,rfl,k3,r3,l3,s3,f3⟩
  have hc:=hc.callR hn hN k3
  have ho:=ownsR_call ho hn (fun b e=>(HG.out b e).1) k3
  have hn:=hn.item (v:=.pointer (some ⟨b3,0,none⟩)) k3 r3 f3.rn
  have f3:=f3.lo
  go_wp2_with fail
  refine Calls.mono (backQ (ncap:Int) ncap rfl hn.rd (by simp;have:=HK.out;omega) (by simp;omega)) ?_
  rintro e w4 ⟨rfl,k4,r4⟩
  have r4:RdR w4 rb g L3 K lost3:=by
   have e:(K ++ [((what,x,0):Kn)]).take ncap=K:=by rw [HK.out];simp
   rw [e] at r4
   exact r4
  have hc:=hc.callR hn hN k4
  have ho:=ownsR_call ho hn (fun b e=>(HG.out b e).1) k4
  have hn:=hn.call k4 r4
  have hS:w4.cell? ⟨N,7,none⟩=some r:=(hc.cell 7).trans rfl
  have q2:=hc.free
  have q3:=(hn.mine _ hN).2.1
  obtain ⟨j0,hj0,hy0,hy1,hy2⟩:=info_parts info_node
  go_wp2_with (refine wpList_append_lies _ (by rfl) _ _ _ (by rfl) 0 25 j0 _ 1 8 Tryz.underlying49 hj0 hy0 hy1 hy2 rfl (by omega) r n vs (by rfl) (ownsB_below ho (below_alloc _ _)) ⟨w4.heap.size,0,none⟩ 1 1 [.pointer (some ⟨b3,0,none⟩)] (by rfl) (by rfl) (World.news_of_block (cs:=#[.pointer (some ⟨b3,0,none⟩)]) (t:=25) (fr:=(0,0)) (heap_new w4 _)) (by simp [Value.oneCell']) (by omega) (by unfold maxLen;omega) (by omega) (by simp) (w4.heap.size+1) (by simp) ?_;intro g3 cap3 w5 ow3 hgr3 hat3 hlt3;have hc:=(hc.below (below_alloc _ _) q3).grown hgr3 (by simp;omega) (fun e=>(HG.out _ e).2 rfl);have hn:=(hn.alloc _).grown hgr3 (fun i e=>(HG.out i e).1) (hat3.imp id (fun e=>by simpa using e)) hlt3;have hS2:w5.cell? ⟨N,7,none⟩=some r:=(hc.cell 7).trans rfl;have q4:=hc.free)
  go_ret
  have hg3:g3≠N:=by
   rcases hat3 with e | e
   ·exact (HG.out g3 e).2
   ·first | omega | (simp at e;omega)
  have hn:=hn.set (o:=7) (.slice (some ⟨g3,0,none⟩) (n+1) cap3) (.tail _ hN)
  have hc:=hc.set 7 (.slice (some ⟨g3,0,none⟩) (n+1) cap3) (by simp)
  exact ⟨L3,lost3,_,_,g3,rfl,hn,hc,ownsB_set ow3 (fun b e=>by cases e;exact hg3),fun b e=>by cases e;exact .head _,l3,s3,f3⟩
end
end Go.Proofs.Tryz
namespace Go.Proofs.Tryz
set_option maxHeartbeats 16000000
open Go.RowKit
set_option maxRecDepth 10000
theorem lostF_own (l c:Int):lostF l (lostF (-1) c)=lostF l c:=by
 unfold lostF
 by_cases h1:0≤l
 ·simp [h1]
 ·by_cases h2:0≤c <;> simp [h1,h2]
section
variable {kind : Nat} {y : Pyl} {K : List Kn} {l : Int} {a b c d : Tn}
theorem lost_nd0 (h:ownAt K kind { y with cnt:=0 } = -1):lostF l (chk (nd kind y []) K)=l:=by
 show lostF l (ownAt K kind { y with cnt:=0 })=_
 rw [h,lostF_no]
theorem lost_nd1 (h:ownAt K kind { y with cnt:=1 } = -1):lostF l (chk (nd kind y [a]) K)=lostF l (chk a (kidK K kind { y with cnt:=1 } 0)):=by
 show lostF l (lostF (ownAt K kind { y with cnt:=1 }) (chk a (kidK K kind { y with cnt:=1 } 0)))=_
 rw [h,lostF_own]
theorem lost_nd2 (h:ownAt K kind { y with cnt:=2 } = -1):lostF l (chk (nd kind y [a,b]) K)=lostF (lostF l (chk a (kidK K kind { y with cnt:=2 } 0))) (chk b (kidK K kind { y with cnt:=2 } 1)):=by
 show lostF l (lostF (lostF (ownAt K kind { y with cnt:=2 }) (chk a (kidK K kind { y with cnt:=2 } 0))) (chk b (kidK K kind { y with cnt:=2 } 1)))=_
 rw [h,lostF_assoc,lostF_own,← lostF_assoc]
theorem lost_nd3 (h:ownAt K kind { y with cnt:=3 } = -1):lostF l (chk (nd kind y [a,b,c]) K)=lostF (lostF (lostF l (chk a (kidK K kind { y with cnt:=3 } 0))) (chk b (kidK K kind { y with cnt:=3 } 1))) (chk c (kidK K kind { y with cnt:=3 } 2)):=by
 show lostF l (lostF (lostF (lostF (ownAt K kind { y with cnt:=3 }) (chk a (kidK K kind { y with cnt:=3 } 0))) (chk b (kidK K kind { y with cnt:=3 } 1))) (chk c (kidK K kind { y with cnt:=3 } 2)))=_
 rw [h,lostF_assoc,lostF_assoc,lostF_own,← lostF_assoc,← lostF_assoc]
theorem lost_nd4 (h:ownAt K kind { y with cnt:=4 } = -1):lostF l (chk (nd kind y [a,b,c,d]) K)=lostF (lostF (lostF (lostF l (chk a (kidK K kind { y with cnt:=4 } 0))) (chk b (kidK K kind { y with cnt:=4 } 1))) (chk c (kidK K kind { y with cnt:=4 } 2))) (chk d (kidK K kind { y with cnt:=4 } 3)):=by
 show lostF l (lostF (lostF (lostF (lostF (ownAt K kind { y with cnt:=4 }) (chk a (kidK K kind { y with cnt:=4 } 0))) (chk b (kidK K kind { y with cnt:=4 } 1))) (chk c (kidK K kind { y with cnt:=4 } 2))) (chk d (kidK K kind { y with cnt:=4 } 3)))=_
 rw [h,lostF_assoc,lostF_assoc,lostF_assoc,lostF_own,← lostF_assoc,← lostF_assoc,← lostF_assoc]
end
section
variable {a w w' : World} {rb g : Nat} {X : List Nat} {L L' M : List Tok} {K K' : List Kn} {lost lost' : Int} {its : List (Out Tn × Value)} {s : ByteArray}
theorem takesT (h:RdR w rb g L K lost) (d:acc s L=(true,M)) :
  Calls Tryz.prog 26 #[.pointer (some ⟨rb,0,none⟩),.string s] w fun e w'=>e = .returned (.bool true)∧KpR rb w w'∧RdR w' rb g M K lost:=by
 have:=takesQ (s:=s) h
 rw [d] at this
 exact this
theorem takesF (h:RdR w rb g L K lost) (d:acc s L=(false,M)) :
  Calls Tryz.prog 26 #[.pointer (some ⟨rb,0,none⟩),.string s] w fun e w'=>e = .returned (.bool false)∧KpR rb w w'∧RdR w' rb g L K lost:=by
 have e:=acc_false d
 subst e
 have:=takesQ (s:=s) h
 rw [d] at this
 exact this
theorem acc_len (d:acc s L=(true,M)):M.length < L.length:=by
 unfold acc at d
 split at d
 ·split at d
  ·cases d;simp
  ·cases d
 ·cases d
theorem acc_sx (d:acc s L=(true,M)) {Q:List Tok}:Sx L Q:=fun e=>by
 rw [acc_one e] at d
 cases d
theorem nextQ (h:RdR w rb g L K lost) (d:acc s L=(true,M)) :
  Calls Tryz.prog 57 #[.pointer (some ⟨rb,0,none⟩)] w fun e w'=>∃ k n p,e = .returned (.agg #[.int .u8 k,.string s,.int .i64 n,.int .i64 p])∧KpR rb w w'∧RdR w' rb g M K lost:=by
 obtain ⟨cap,F,I,bad,nv,h,h2,h3⟩:=h
 obtain ⟨t,ht,hdr⟩:=drop_cons h.lt
 have hwf:=acc_wf (s:=s) h3
 rw [d] at hwf
 rcases h2 with ⟨rfl,hL⟩ | ⟨_,hb1,_⟩
 ·rw [hdr] at hL
  subst hL
  cases e:F.drop (I+1) with
  | nil=>rw [e] at d;cases d
  | cons u m =>
   rw [e] at d
   have hl:(F.drop (I+1)).length=m.length+1:=by rw [e];rfl
   rw [List.length_drop] at hl
   have d:(if isTok t s=true then (true,u :: m) else (false,t :: u :: m))=(true,M):=d
   split at d
   ·rename_i hi
    cases d
    obtain ⟨hk,hx⟩:=isTok_kind hi
    refine (next_a h ht (by omega) (by omega) (fun _=>by omega)).mono ?_
    rintro e2 w' ⟨k,x,n,p,rfl,hR,hkp,hA⟩
    have hx2:=hR.text (by omega) (by omega) (by omega)
    have hxs:x=s:=by
     rw [ByteArray.toList_eq,ByteArray.toList_eq] at hx
     rw [hx2,bytes_eq hx]
    subst hxs
    rw [if_pos (by decide)] at hA
    exact ⟨k,n,p,rfl,hkp,cap,F,I+1,-1,nv,hA,.inl ⟨rfl,e⟩,hwf⟩
   ·cases d
 ·rw [acc_one hb1] at d
  cases d
theorem Rn.lit {kind:Nat}{y:Pyl}{ts:List Tn}{vs:List Value} (hn:NqR a w rb g X L K lost its) (hv:vs.length=ts.length) (hk:∀ (j:Nat) (x:Value),vs[j]? = some x→Rn (fun b=>a.heap.size≤b∧nbOf w rb≠some b) w (ts.getD j Tn.no) x) (hpar:parR kind { y with cnt:=ts.length }=[]) (hm:ts.length≤1000) (o:List Value) (ho:o=cellsN kind { y with cnt:=ts.length } ++ [.slice (some ⟨w.heap.size,0,none⟩) vs.length vs.length,.slice none 0 0]) :
  NqR a ((w.alloc (.cells vs.toArray 25)).alloc (.cells o.toArray 51)) rb g X L K lost its∧Rn (fun b=>a.heap.size≤b∧nbOf ((w.alloc (.cells vs.toArray 25)).alloc (.cells o.toArray 51)) rb≠some b) ((w.alloc (.cells vs.toArray 25)).alloc (.cells o.toArray 51)) (nd kind y ts) (.pointer (some ⟨w.heap.size+1,0,none⟩)):=by
 subst ho
 obtain ⟨o1,ho1⟩:∃ o1,Obj.cells vs.toArray 25=o1:=⟨_,rfl⟩
 obtain ⟨o2,ho2⟩:∃ o2,Obj.cells (cellsN kind { y with cnt:=ts.length } ++ [Value.slice (some ⟨w.heap.size,0,none⟩) vs.length vs.length,Value.slice none 0 0]).toArray 51=o2:=⟨_,rfl⟩
 rw [ho1,ho2]
 have hB:Below w.heap.size w ((w.alloc o1).alloc o2):=(below_alloc _ _).alloc (by simp) _
 have hn2:=hn.below hB
 have hs:=hn.kept.size
 have hnb:nbOf ((w.alloc o1).alloc o2) rb=nbOf w rb:=by unfold nbOf;rw [hB.cell (p:=⟨rb,4,none⟩) hn.rd.rbs]
 have hno:∀ b,w.heap.size≤b→nbOf ((w.alloc o1).alloc o2) rb≠some b:=fun b hb e=>by
  rw [hnb] at e
  have:=nbOf_lt hn.rd e
  omega
 have h2:=(heap_new2 w o1 o2).trans (congrArg some ho2.symm)
 have h1:=(((below_alloc (w.alloc o1) o2).block w.heap.size (by simp)).trans (heap_new w o1)).trans (congrArg some ho1.symm)
 refine ⟨hn2,Rn.mk ⟨by omega,hno _ (by omega)⟩ (by simp) (cl_heap h2) (vs:=vs) (r:=.slice (some ⟨w.heap.size,0,none⟩) vs.length vs.length) (r':=.slice none 0 0) ?_ (fun b e=>?_) (fun j x hx=>?_) ?_ (fun b e=>by cases e)⟩
 ·refine ⟨by rw [hv];omega,?_⟩
  refine .inr ⟨w.heap.size,vs.length,vs.toArray,by rw [hv],Nat.zero_le _,h1,by omega,by unfold maxLen;omega,by simp,by rw [← hv];simp⟩
 ·cases e
  exact ⟨hs,hno _ (Nat.le_refl _)⟩
 ·exact (hk j x hx).keep (fun b hb _=>⟨hb.1,by rw [hnb];exact hb.2⟩) hB.size (fun b _ hb=>hB.block b hb)
 ·rw [hpar]
  exact World.ownsRow_nil _ _ _ _
theorem Rn.leaf {kind:Nat}{y:Pyl} (hn:NqR a w rb g X L K lost its) (hpar:parR kind { y with cnt:=0 }=[]) (o:List Value) (ho:o=cellsN kind { y with cnt:=0 } ++ [.slice none 0 0,.slice none 0 0]) :
  NqR a (w.alloc (.cells o.toArray 51)) rb g X L K lost its∧Rn (fun b=>a.heap.size≤b∧nbOf (w.alloc (.cells o.toArray 51)) rb≠some b) (w.alloc (.cells o.toArray 51)) (nd kind y []) (.pointer (some ⟨w.heap.size,0,none⟩)):=by
 subst ho
 obtain ⟨o2,ho2⟩:∃ o2,Obj.cells (cellsN kind { y with cnt:=0 } ++ [Value.slice none 0 0,Value.slice none 0 0]).toArray 51=o2:=⟨_,rfl⟩
 rw [ho2]
 have hB:=below_alloc w o2
 have hn2:=hn.below hB
 have hs:=hn.kept.size
 have hnb:nbOf (w.alloc o2) rb=nbOf w rb:=by unfold nbOf;rw [hB.cell (p:=⟨rb,4,none⟩) hn.rd.rbs]
 have h2:=(heap_new w o2).trans (congrArg some ho2.symm)
 refine ⟨hn2,Rn.mk ⟨hs,fun e=>by rw [hnb] at e;have:=nbOf_lt hn.rd e;omega⟩ (by simp) (cl_heap h2) (vs:=[]) (r:=.slice none 0 0) (r':=.slice none 0 0) (World.ownsRow_nil _ _ _ _) (fun b e=>by cases e) (fun j x hx=>by simp at hx) ?_ (fun b e=>by cases e)⟩
 have hpar:parR kind { y with cnt:=([]:List Tn).length }=[]:=hpar
 rw [hpar]
 exact World.ownsRow_nil _ _ _ _
end
end Go.Proofs.Tryz
namespace Go.Proofs.Tryz
set_option maxHeartbeats 16000000
open Go.RowKit
set_option maxRecDepth 10000
section
variable {a w w' : World} {rb g : Nat} {X : List Nat} {L L' M : List Tok} {K K' : List Kn} {lost lost' : Int} {its : List (Out Tn × Value)} {s : ByteArray}
def foldS (P:Ps) (op:ByteArray) (M:List Tok):Out Tn:=if op=sReduce then reduceS P M else foreachS P M
theorem fold_ok {P:Ps}{B:Nat} (hP:SndR P B) (op:ByteArray) (hop:op=sReduce∨op=sForeach) (h:RdR w rb g L K lost) (ht:TbR w rb) (d:acc op L=(true,M)) (hK:K.length+L.length≤100000) (hB:8 * L.length+2≤B) :
  Calls Tryz.prog 80 #[.pointer (some ⟨rb,0,none⟩)] w (GvR rb g w L K lost (foldS P op M)):=by
 have hML:=acc_len d
 have hsx:=fun Q=>acc_sx d (Q:=Q)
 have hnx:=nextQ h d
 have hn:=NqR.start h ht
 obtain ⟨i0,hi0,hz0,hz1,hz2⟩:=info_parts info_known
 obtain ⟨j0,hj0,hy0,hy1,hy2⟩:=info_parts info_node
 have hop8:op.size≤10:=by rcases hop with rfl | rfl <;> decide
 clear d h
 go_enter Tryz.func80,Tryz.ntmps80
 go_wp2_with fail
 refine Calls.mono hnx ?_
 rintro e w1 ⟨k1,n1,p1,rfl,kp1,r1⟩
 have hn:=hn.call kp1 r1
 have hn:=(hn.alloc (.cells #[.int .u8 k1,.string op,.int .i64 n1,.int .i64 p1] 43)).own (.cells #[.string op,.string ⟨#[]⟩,.int .i64 0,.int .i64 0,.string ⟨#[]⟩,.slice none 0 0,.slice none 0 0,.slice none 0 0,.slice none 0 0] 51)
 have hc:=Cl.start (w1.alloc (.cells #[.int .u8 k1,.string op,.int .i64 n1,.int .i64 p1] 43)) [.string op,.string ⟨#[]⟩,.int .i64 0,.int .i64 0,.string ⟨#[]⟩,.slice none 0 0,.slice none 0 0,.slice none 0 0,.slice none 0 0] 51
 simp only [World.size_alloc] at hc hn
 obtain ⟨N,hN⟩:∃ N,w1.heap.size+1=N:=⟨_,rfl⟩
 simp only [hN] at hc hn
 have HNN:Hid _:=hN
 clear hnx
 go_wp2_with fail
 clear hN
 refine Calls.mono (hP.post hn.rd hn.tbw (by omega) (by omega)) ?_
 rintro e w2 ⟨b2,L2,lost2,rfl,k2,r2,l2,s2,f2⟩
 have hc:=hc.callR hn (.head _) k2
 have hn:=hn.item (v:=.pointer (some ⟨b2,0,none⟩)) k2 r2 f2.rn
 have f2:=f2.lo
 go_wp2_with fail
 refine Calls.mono (needsQ hn.rd) ?_
 rintro e w3 ⟨rfl,L3,k3,r3,l3,f3,s3⟩
 have hc:=hc.callR hn (.head _) k3
 have hn:=hn.call k3 r3
 go_wp2_with fail
 refine Calls.mono (namedQ 4 118 rfl (.inr rfl) hn.rd) ?_
 rintro e w4 ⟨x,L4,rfl,k4,r4,l4,f4,s4,x4⟩
 have hc:=hc.callR hn (.head _) k4
 have hn:=hn.call k4 r4
 have e1:w4.cell? ⟨N,1,none⟩=some (.string ⟨#[]⟩):=(hc.cell 1).trans rfl
 have q1:=hc.free 1
 go_wp2_with fail
 have hc:=hc.set 1 (.string x) (by simp)
 have hn:=hn.set (o:=1) (.string x) (.head _)
 refine Calls.mono (needsQ hn.rd) ?_
 rintro e w5 ⟨rfl,L5,k5,r5,l5,f5,s5⟩
 have hc:=hc.callR hn (.head _) k5
 have hn:=hn.call k5 r5
 go_wp2_with fail
 refine Calls.mono (hP.filter hn.rd hn.tbw (by omega) (by omega)) ?_
 rintro e w6 ⟨b6,L6,lost6,rfl,k6,r6,l6,s6,f6⟩
 have hc:=hc.callR hn (.head _) k6
 have hn:=hn.item (v:=.pointer (some ⟨b6,0,none⟩)) k6 r6 f6.rn
 have f6:=f6.lo
 go_wp2_with fail
 refine Calls.mono (needsQ hn.rd) ?_
 rintro e w7 ⟨rfl,L7,k7,r7,l7,f7,s7⟩
 have hc:=hc.callR hn (.head _) k7
 have hn:=hn.call k7 r7
 obtain ⟨nl,ncap,np,c4,hcK,fz4,hnm,hob⟩:=hn.rd.named
 have hrb:=hn.rd.rbs
 have hNm:=hn.mine N (.head _)
 have hrbs:=hn.rbs
 have x1:w7.cell? ⟨N,1,none⟩=some (.string x):=(hc.cell 1).trans rfl
 have hne:N≠rb:=by omega
 have hcK2:ncap≤100000:=by omega
 have hnew:∀ W:World,W.heap[rb]? = w7.heap[rb]?→W.cell? ⟨rb,4,none⟩=some (.slice nl ncap np)∧W.frozen? ⟨rb,4,none⟩=false:=fun W e=>⟨(World.cell?_of_block (w:=w7) e).trans c4,(World.frozen?_of_block (w:=w7) e).trans fz4⟩
 have HN:Aside (NqR w w7 rb g [N] L7 K lost6 [(P 0 L5,.pointer (some ⟨b6,0,none⟩)),(P 3 M,.pointer (some ⟨b2,0,none⟩))]):=hn
 have HC:Aside (Cl w7 N [.string op,.string x,.int .i64 0,.int .i64 0,.string ⟨#[]⟩,.slice none 0 0,.slice none 0 0,.slice none 0 0,.slice none 0 0]):=hc
 have HB:Hid _:=hob
 have HK:Hid _:=hcK
 clear hn hc hob hcK
 go_wp2_with fail
 go_region_law
  ((refine step_append_lies _ (by rfl) _ _ _ (by rfl) 0 76 i0 _ 3 32 Tryz.underlying38 hi0 hz0 hz1 hz2 rfl (by omega) (.slice nl ncap np) ncap (kcells K) (by rfl) (by first | exact hnm.alloc _ | exact (World.ownsRow.drew hnm).alloc _) ⟨w7.heap.size,0,none⟩ 1 1 [.int .u8 118,.string x,.int .i64 0] (by rfl) (by rfl) (World.news_of_block (cs:=#[.int .u8 118,.string x,.int .i64 0]) (t:=76) (fr:=(0,0)) (by first | exact heap_new _ _ | exact heap_alloc_new _ _)) (by simp [Value.oneCell']) (by omega) (by unfold maxLen;omega) (by omega) (by simp) (w7.heap.size+1) (by simp) ?_;intro g2 cap2 w8 ow2 hgr hat hlt2;have hw2g:w8.heap[rb]? = w7.heap[rb]?:=(hgr.block rb (by simp;omega) (fun e=>(HB.out rb e.symm).1 rfl)).trans (by first | exact (below_alloc w7 _).block rb hrb | exact (below_alloc w7.drew _).block rb hrb);obtain ⟨d0,d1⟩:=hnew _ hw2g))
 all_goals
  obtain ⟨hrd,hkp⟩:=HN.out.rd.grown2 (K':=K ++ [(118,x,0)]) (nv':=.slice (some ⟨g2,0,none⟩) (ncap+1) cap2) (by first | exact below_alloc _ _ | exact ((Below.refl _ _).drew).alloc (by simp) _ | exact (Below.dN (Below.refl _ _) _).alloc (by simp) _) c4 hgr (by rw [kcells_append,List.length_append,List.length_singleton,← HK.out];exact ow2) (hat.imp (fun e=>e.symm) (fun e b hb=>by cases hb;simp at e ⊢;omega))
  obtain ⟨W,hW⟩:∃ W,w8.setCell ⟨rb,4,none⟩ (.slice (some ⟨g2,0,none⟩) (ncap+1) cap2)=W:=⟨_,rfl⟩
  rw [hW] at hrd hkp ⊢
  clear hW hgr ow2 hat hlt2 hw2g d0 d1
  have hn:=HN.out.call hkp hrd
  have hc:=HC.out.callR HN.out (.head _) hkp
  go_wp2_with fail
  refine Calls.mono (hP.filter hn.rd hn.tbw (by simp;omega) (by omega)) ?_
  rintro e w9 ⟨b9,L9,lost9,rfl,k9,r9,l9,s9,f9⟩
  have hc:=hc.callR hn (.head _) k9
  have hn:=hn.item (v:=.pointer (some ⟨b9,0,none⟩)) k9 r9 f9.rn
  have f9:=f9.lo
  have e7:w9.cell? ⟨N,7,none⟩=some (.slice none 0 0):=(hc.cell 7).trans rfl
  have q7:=hc.free 7
  have hN9:=(hn.mine _ (.head _)).2.1
  have e0:w9.cell? ⟨N,0,none⟩=some (.string op):=(hc.cell 0).trans rfl
  have hKN:=HN.out.kept.size
  rcases hop with hop | hop
  ·have hcmp:(op.toList == [102,111,114,101,97,99,104])=false:=by rw [hop,ByteArray.toList_eq];decide
   have HOP:Hid _:=hop
   clear hop
   go_wp2_with fail
   have hc:=(hc.set 7 (.slice (some ⟨w9.heap.size,0,none⟩) 3 3) (by simp)).below (below_alloc _ (.cells #[.pointer (some ⟨b2,0,none⟩),.pointer (some ⟨b6,0,none⟩),.pointer (some ⟨b9,0,none⟩)] 25)) (by simpa using hN9)
   have hn:=(hn.set (o:=7) (.slice (some ⟨w9.heap.size,0,none⟩) 3 3) (.head _)).own (.cells #[.pointer (some ⟨b2,0,none⟩),.pointer (some ⟨b6,0,none⟩),.pointer (some ⟨b9,0,none⟩)] 25)
   have ho:((w9.setCell ⟨N,7,none⟩ (.slice (some ⟨w9.heap.size,0,none⟩) 3 3)).alloc (.cells #[.pointer (some ⟨b2,0,none⟩),.pointer (some ⟨b6,0,none⟩),.pointer (some ⟨b9,0,none⟩)] 25)).ownsRow 0 25 1 (.slice (some ⟨w9.heap.size,0,none⟩) 3 3) 3 [.pointer (some ⟨b2,0,none⟩),.pointer (some ⟨b6,0,none⟩),.pointer (some ⟨b9,0,none⟩)]:=⟨rfl,.inr ⟨w9.heap.size,3,#[.pointer (some ⟨b2,0,none⟩),.pointer (some ⟨b6,0,none⟩),.pointer (some ⟨b9,0,none⟩)],rfl,Nat.zero_le _,by simpa using heap_new (w9.setCell ⟨N,7,none⟩ (.slice (some ⟨w9.heap.size,0,none⟩) 3 3)) (.cells #[.pointer (some ⟨b2,0,none⟩),.pointer (some ⟨b6,0,none⟩),.pointer (some ⟨b9,0,none⟩)] 25),Nat.le_refl _,by decide,rfl,rfl⟩⟩
   simp only [World.size_setCell] at hn
   refine Calls.mono (backQ (ncap:Int) ncap rfl hn.rd (by simp;have:=HK.out;omega) (by simp;omega)) ?_
   rintro e wA ⟨rfl,kA,rA⟩
   have rA:RdR wA rb g L9 K lost9:=by
    have e:(K ++ [((118,x,0):Kn)]).take ncap=K:=by rw [HK.out];simp
    rw [e] at rA
    exact rA
   have hc:=hc.callR hn (.tail _ (.head _)) kA
   have ho:=ownsR_call ho hn (fun b e=>by cases e;exact .head _) kA
   have hn:=hn.call kA rA
   go_wp2_with fail
   refine Calls.mono (needsQ hn.rd) ?_
   rintro e wB ⟨rfl,LB,kB,rB,lB,fB,sB⟩
   have hc:=hc.callR hn (.tail _ (.head _)) kB
   have ho:=ownsR_call ho hn (fun b e=>by cases e;exact .head _) kB
   have hn:=hn.call kB rB
   go_wp2_with fail
   go_ret
   have fsrc:Fn (sourceS P M) L5 fun q=>(∃ l',P 3 M = .ok (q.1,l'))∧q.2=x∧lost2=lostF lost (chk q.1 K):=by
    refine Fn.thn f2 (fun a1 e1 h1=>Fn.thn f3 (fun _ _ _=>Fn.thn f4 (fun a4 _ h4=>Fn.thn f5 (fun _ _ _=>Fn.ok ⟨⟨_,e1⟩,h4.symm,h1⟩) (Sx.refl _)) s5) (s4.trans s5)) ((s3.trans s4).trans s5)
   have t9:Sx L9 LB:=sB
   have t7:=s9.trans t9
   have t6:=s7.trans t7
   have t5:=s6.trans t6
   refine ⟨N,LB,lost9,rfl,hn.kept,hn.rd,by omega,hsx _,?_⟩
   unfold foldS
   rw [if_pos HOP.out]
   show Fn (reduceS P M) LB _
   refine Fn.thn fsrc (fun q eq hq=>Fn.thn f6 (fun a6 e6 h6=>Fn.thn f7 (fun _ _ _=>Fn.thn f9 (fun a9 e9 h9=>Fn.thn fB (fun _ _ _=>Fn.ok ⟨?_,?_⟩) (Sx.refl _)) t9) t7) t6) t5
   ·obtain ⟨f,y⟩:=q
    obtain ⟨⟨l',e2⟩,h2,h3⟩:=hq
    simp only at e2 h2 h3 ⊢
    rw [h2]
    have hm:=hn.mine N (.tail _ (.head _))
    rw [HOP.out] at hc
    refine Rn.mk (r:=.slice (some ⟨w9.heap.size,0,none⟩) 3 3) (r':=.slice none 0 0) ⟨hm.1,hm.2.2⟩ hm.2.1 hc ho (fun b e=>?_) (fun j v hv=>?_) (World.ownsRow_nil _ _ _ _) (fun b e=>by cases e)
    ·have:=hn.mine b (by cases e;exact .head _)
     exact ⟨this.1,this.2.2⟩
    ·match j,hv with
     | 0,hv=>cases hv;exact hn.kid (.tail _ (.tail _ (.head _))) e2
     | 1,hv=>cases hv;exact hn.kid (.tail _ (.head _)) e6
     | 2,hv=>cases hv;exact hn.kid (.head _) e9
     | j+3,hv=>simp at hv
   ·obtain ⟨f,y⟩:=q
    obtain ⟨⟨l',e2⟩,h2,h3⟩:=hq
    simp only at e2 h2 h3 ⊢
    rw [h2]
    rw [lost_nd3 rfl]
    show lost9=lostF (lostF (lostF lost (chk f K)) (chk a6 K)) (chk a9 (K ++ [(118,x,0)]))
    rw [← h3,← h6]
    exact h9
  ·have hcmp:(op.toList == [102,111,114,101,97,99,104])=true:=by rw [hop,ByteArray.toList_eq];decide
   have HOP:Hid _:=hop
   clear hop
   go_wp2_with fail
   have hc:=(hc.set 7 (.slice (some ⟨w9.heap.size,0,none⟩) 3 3) (by simp)).below (below_alloc _ (.cells #[.pointer (some ⟨b2,0,none⟩),.pointer (some ⟨b6,0,none⟩),.pointer (some ⟨b9,0,none⟩)] 25)) (by simpa using hN9)
   have hn:=(hn.set (o:=7) (.slice (some ⟨w9.heap.size,0,none⟩) 3 3) (.head _)).own (.cells #[.pointer (some ⟨b2,0,none⟩),.pointer (some ⟨b6,0,none⟩),.pointer (some ⟨b9,0,none⟩)] 25)
   have ho:((w9.setCell ⟨N,7,none⟩ (.slice (some ⟨w9.heap.size,0,none⟩) 3 3)).alloc (.cells #[.pointer (some ⟨b2,0,none⟩),.pointer (some ⟨b6,0,none⟩),.pointer (some ⟨b9,0,none⟩)] 25)).ownsRow 0 25 1 (.slice (some ⟨w9.heap.size,0,none⟩) 3 3) 3 [.pointer (some ⟨b2,0,none⟩),.pointer (some ⟨b6,0,none⟩),.pointer (some ⟨b9,0,none⟩)]:=⟨rfl,.inr ⟨w9.heap.size,3,#[.pointer (some ⟨b2,0,none⟩),.pointer (some ⟨b6,0,none⟩),.pointer (some ⟨b9,0,none⟩)],rfl,Nat.zero_le _,by simpa using heap_new (w9.setCell ⟨N,7,none⟩ (.slice (some ⟨w9.heap.size,0,none⟩) 3 3)) (.cells #[.pointer (some ⟨b2,0,none⟩),.pointer (some ⟨b6,0,none⟩),.pointer (some ⟨b9,0,none⟩)] 25),Nat.le_refl _,by decide,rfl,rfl⟩⟩
   simp only [World.size_setCell] at hn
   refine Calls.mono (needsQ hn.rd) ?_
   rintro e wC ⟨rfl,LC,kC,rC,lC,fC,sC⟩
   have hc:=hc.callR hn (.tail _ (.head _)) kC
   have ho:=ownsR_call ho hn (fun b e=>by cases e;exact .head _) kC
   have hn:=hn.call kC rC
   go_wp2_with fail
   refine Calls.mono (hP.filter hn.rd hn.tbw (by simp;omega) (by omega)) ?_
   rintro e wD ⟨bD,LD,lostD,rfl,kD,rD,lD,sD,fD⟩
   have hc:=hc.callR hn (.tail _ (.head _)) kD
   have ho:=ownsR_call ho hn (fun b e=>by cases e;exact .head _) kD
   have hn:=hn.item (v:=.pointer (some ⟨bD,0,none⟩)) kD rD fD.rn
   have fD:=fD.lo
   have hN9:w9.heap.size≠N:=by omega
   have eD:wD.cell? ⟨N,7,none⟩=some (.slice (some ⟨w9.heap.size,0,none⟩) 3 3):=(hc.cell 7).trans rfl
   have qD:=hc.free
   have zD:=(hn.mine N (.tail _ (.head _))).2.1
   go_wp2_with (refine wpList_append_lies _ (by rfl) _ _ _ (by rfl) 0 25 j0 _ 1 8 Tryz.underlying49 hj0 hy0 hy1 hy2 rfl (by omega) (.slice (some ⟨w9.heap.size,0,none⟩) 3 3) 3 [.pointer (some ⟨b2,0,none⟩),.pointer (some ⟨b6,0,none⟩),.pointer (some ⟨b9,0,none⟩)] (by rfl) (ownsB_below ho (below_alloc _ _)) ⟨wD.heap.size,0,none⟩ 1 1 [.pointer (some ⟨bD,0,none⟩)] (by rfl) (by rfl) (World.news_of_block (cs:=#[.pointer (some ⟨bD,0,none⟩)]) (t:=25) (fr:=(0,0)) (heap_new wD _)) (by simp [Value.oneCell']) (by omega) (by unfold maxLen;omega) (by omega) (by simp) (wD.heap.size+1) (by simp) ?_;intro g3 cap3 wE ow3 hgr3 hat3 hlt3;have hc:=(hc.below (below_alloc _ _) zD).grown hgr3 (by simp;omega) (fun e=>by cases e;exact hN9 rfl);have hn:=(hn.alloc _).grown hgr3 (fun i e=>by cases e;exact .head _) (hat3.imp id (fun e=>by simpa using e)) hlt3;have hS2:wE.cell? ⟨N,7,none⟩=some (.slice (some ⟨w9.heap.size,0,none⟩) 3 3):=(hc.cell 7).trans rfl;have qE:=hc.free)
   have hg3:g3≠N:=by
    rcases hat3 with e | e
    ·cases e;exact hN9
    ·first | omega | (simp at e;omega)
   have hc:=hc.set 7 (.slice (some ⟨g3,0,none⟩) (3+1) cap3) (by simp)
   have hn:=hn.set (o:=7) (.slice (some ⟨g3,0,none⟩) (3+1) cap3) (.tail _ (.tail _ (.head _)))
   have ho:=ownsB_set (N:=N) (o:=7) (u:=.slice (some ⟨g3,0,none⟩) (3+1) cap3) ow3 (fun b e=>by cases e;exact hg3)
   refine Calls.mono (backQ (ncap:Int) ncap rfl hn.rd (by simp;have:=HK.out;omega) (by simp;omega)) ?_
   rintro e wA ⟨rfl,kA,rA⟩
   have rA:RdR wA rb g LD K lostD:=by
    have e:(K ++ [((118,x,0):Kn)]).take ncap=K:=by rw [HK.out];simp
    rw [e] at rA
    exact rA
   have hc:=hc.callR hn (.tail _ (.tail _ (.head _))) kA
   have ho:=ownsR_call ho hn (fun b e=>by cases e;exact .head _) kA
   have hn:=hn.call kA rA
   go_wp2_with fail
   refine Calls.mono (needsQ hn.rd) ?_
   rintro e wB ⟨rfl,LB,kB,rB,lB,fB,sB⟩
   have hc:=hc.callR hn (.tail _ (.tail _ (.head _))) kB
   have ho:=ownsR_call ho hn (fun b e=>by cases e;exact .head _) kB
   have hn:=hn.call kB rB
   go_wp2_with fail
   go_ret
   have fsrc:Fn (sourceS P M) L5 fun q=>(∃ l',P 3 M = .ok (q.1,l'))∧q.2=x∧lost2=lostF lost (chk q.1 K):=by
    refine Fn.thn f2 (fun a1 e1 h1=>Fn.thn f3 (fun _ _ _=>Fn.thn f4 (fun a4 _ h4=>Fn.thn f5 (fun _ _ _=>Fn.ok ⟨⟨_,e1⟩,h4.symm,h1⟩) (Sx.refl _)) s5) (s4.trans s5)) ((s3.trans s4).trans s5)
   have tD:Sx LD LB:=sB
   have tC:=sD.trans tD
   have t9:=sC.trans tC
   have t7:=s9.trans t9
   have t6:=s7.trans t7
   have t5:=s6.trans t6
   refine ⟨N,LB,lostD,rfl,hn.kept,hn.rd,by omega,hsx _,?_⟩
   unfold foldS
   rw [if_neg (by rw [HOP.out];decide)]
   show Fn (foreachS P M) LB _
   refine Fn.thn fsrc (fun q eq hq=>Fn.thn f6 (fun a6 e6 h6=>Fn.thn f7 (fun _ _ _=>Fn.thn f9 (fun a9 e9 h9=>Fn.thn fC (fun _ _ _=>Fn.thn fD (fun aD eD2 hD=>Fn.thn fB (fun _ _ _=>Fn.ok ⟨?_,?_⟩) (Sx.refl _)) tD) tC) t9) t7) t6) t5
   ·obtain ⟨f,y⟩:=q
    obtain ⟨⟨l',e2⟩,h2,h3⟩:=hq
    simp only at e2 h2 h3 ⊢
    rw [h2]
    have hm:=hn.mine N (.tail _ (.tail _ (.head _)))
    rw [HOP.out] at hc
    refine Rn.mk (r:=.slice (some ⟨g3,0,none⟩) (3+1) cap3) (r':=.slice none 0 0) ⟨hm.1,hm.2.2⟩ hm.2.1 hc ho (fun b e=>?_) (fun j v hv=>?_) (World.ownsRow_nil _ _ _ _) (fun b e=>by cases e)
    ·have:=hn.mine b (by cases e;exact .head _)
     exact ⟨this.1,this.2.2⟩
    ·match j,hv with
     | 0,hv=>cases hv;exact hn.kid (.tail _ (.tail _ (.tail _ (.head _)))) e2
     | 1,hv=>cases hv;exact hn.kid (.tail _ (.tail _ (.head _))) e6
     | 2,hv=>cases hv;exact hn.kid (.tail _ (.head _)) e9
     | 3,hv=>cases hv;exact hn.kid (.head _) eD2
     | j+4,hv=>simp at hv
   ·obtain ⟨f,y⟩:=q
    obtain ⟨⟨l',e2⟩,h2,h3⟩:=hq
    simp only at e2 h2 h3 ⊢
    rw [h2]
    rw [lost_nd4 rfl]
    show lostD=lostF (lostF (lostF (lostF lost (chk f K)) (chk a6 K)) (chk a9 (K ++ [(118,x,0)]))) (chk aD (K ++ [(118,x,0)]))
    rw [← h3,← h6,← h9]
    exact hD
end
end Go.Proofs.Tryz
