import Derived.Test.YtfocepfmpnpaiaaGreatDoorYs3
import Derived.Test.YtfocepfmpnpaiaaGreatDoorYn5
import Derived.BigQuiet
import Derived.Deep.QuietTactic
set_option linter.all false
namespace Go.Proofs.Tryz
set_option maxHeartbeats 16000000
open Go.RowKit
set_option maxRecDepth 10000
section
variable {cb b g : Nat} {s : Option Addr} {w : World} {l c c1 c2 c3 : Int} {x y z : Value} {env : Env} {n : ByteArray}
theorem heap_newd2 (a:World) (o:Obj):((a.alloc o).drew).heap[a.heap.size]? = some o:=heap_new a o
theorem KpC.cell {w':World}{b o:Nat} (k:KpC cb w w') (hb:b < w.heap.size) (hc:b≠cb):w'.cell? ⟨b,o,none⟩=w.cell? ⟨b,o,none⟩:=World.cell?_of_block (k.block b hb hc)
theorem oneC_Index (hs:CkSt w cb l) (hbc:b≠cb) (c0':w.cell? ⟨b,0,none⟩=some x) (c1':w.cell? ⟨b,1,none⟩=some y) (h1:ItemC cb s w (x,c1)) (h2:ItemC cb s w (y,c2)) :
  Calls Tryz.prog 73 #[.pointer (some ⟨cb,0,none⟩),.pointer s,.iface 109 (.pointer (some ⟨b,0,none⟩))] w (CkQ cb (lostF (lostF l c1) c2) w):=by
 have a0:=missVariable;have a1:=missBreak;have a2:=missCall;have a3:=missField;have a4:=hitIndex
 have hb:=cell_lt c0'
 have hcb:=hs.lt
 have hs:Aside (CkSt w cb l):=hs
 have hI:Aside (ItemC cb s w (x,c1)):=h1
 have hJ:Aside (ItemC cb s w (y,c2)):=h2
 have hsh:=h1.shape
 have hsh2:=h2.shape
 clear h1 h2
 rcases hsh with e | ⟨T1,d1,e⟩ <;> rcases hsh2 with e2 | ⟨T2,d2,e2⟩
 all_goals
  have e:x=_:=e
  have e2:y=_:=e2
  subst e
  subst e2
  go_enter Tryz.func73,Tryz.ntmps73
  go_wp2_with fail
  go_region_held3 (fun w'=>w'.cell? ⟨b,0,none⟩=w.cell? ⟨b,0,none⟩∧w'.cell? ⟨b,1,none⟩=w.cell? ⟨b,1,none⟩) (first | exact ⟨e0,e1⟩ | go_keep)
   (first | (go_at_call 40;refine (check2C (l:=l) (heap_newd2 w _) (by omega) (hs.out.below (below_alloc _ _).drew) (hI.out.on (KpC.of_below (below_alloc _ _).drew)) (hJ.out.on (KpC.of_below (below_alloc _ _).drew))).mono ?_;rintro e w1 ⟨rfl,k1,st1⟩;have e0:w1.cell? ⟨b,0,none⟩=w.cell? ⟨b,0,none⟩:=(k1.cell (o:=0) (by simp;omega) hbc).trans ((below_alloc w _).drew.cell (p:=⟨b,0,none⟩) hb);have e1:w1.cell? ⟨b,1,none⟩=w.cell? ⟨b,1,none⟩:=(k1.cell (o:=1) (by simp;omega) hbc).trans ((below_alloc w _).drew.cell (p:=⟨b,1,none⟩) hb)))
  go_wp2_with fail
  go_end0
  exact ⟨rfl,(KpC.of_below (below_alloc _ _).drew).trans k1,st1⟩
theorem oneC_Binary (hs:CkSt w cb l) (hbc:b≠cb) (c0':w.cell? ⟨b,0,none⟩=some x) (c1':w.cell? ⟨b,2,none⟩=some y) (h1:ItemC cb s w (x,c1)) (h2:ItemC cb s w (y,c2)) :
  Calls Tryz.prog 73 #[.pointer (some ⟨cb,0,none⟩),.pointer s,.iface 148 (.pointer (some ⟨b,0,none⟩))] w (CkQ cb (lostF (lostF l c1) c2) w):=by
 have a0:=missVariable;have a1:=missBreak;have a2:=missCall;have a3:=missField;have a4:=missIndex;have a5:=missEach;have a6:=missOptional;have a7:=missCollect;have a8:=missBuild;have a9:=hitBinary
 have hb:=cell_lt c0'
 have hcb:=hs.lt
 have hs:Aside (CkSt w cb l):=hs
 have hI:Aside (ItemC cb s w (x,c1)):=h1
 have hJ:Aside (ItemC cb s w (y,c2)):=h2
 have hsh:=h1.shape
 have hsh2:=h2.shape
 clear h1 h2
 rcases hsh with e | ⟨T1,d1,e⟩ <;> rcases hsh2 with e2 | ⟨T2,d2,e2⟩
 all_goals
  have e:x=_:=e
  have e2:y=_:=e2
  subst e
  subst e2
  go_enter Tryz.func73,Tryz.ntmps73
  go_wp2_with fail
  go_region_held3 (fun w'=>w'.cell? ⟨b,0,none⟩=w.cell? ⟨b,0,none⟩∧w'.cell? ⟨b,2,none⟩=w.cell? ⟨b,2,none⟩) (first | exact ⟨e0,e1⟩ | go_keep)
   (first | (go_at_call 40;refine (check2C (l:=l) (heap_newd2 w _) (by omega) (hs.out.below (below_alloc _ _).drew) (hI.out.on (KpC.of_below (below_alloc _ _).drew)) (hJ.out.on (KpC.of_below (below_alloc _ _).drew))).mono ?_;rintro e w1 ⟨rfl,k1,st1⟩;have e0:w1.cell? ⟨b,0,none⟩=w.cell? ⟨b,0,none⟩:=(k1.cell (o:=0) (by simp;omega) hbc).trans ((below_alloc w _).drew.cell (p:=⟨b,0,none⟩) hb);have e1:w1.cell? ⟨b,2,none⟩=w.cell? ⟨b,2,none⟩:=(k1.cell (o:=2) (by simp;omega) hbc).trans ((below_alloc w _).drew.cell (p:=⟨b,2,none⟩) hb)))
  go_wp2_with fail
  go_end0
  exact ⟨rfl,(KpC.of_below (below_alloc _ _).drew).trans k1,st1⟩
theorem oneC_Try (hs:CkSt w cb l) (hbc:b≠cb) (c0':w.cell? ⟨b,0,none⟩=some x) (c1':w.cell? ⟨b,1,none⟩=some y) (h1:ItemC cb s w (x,c1)) (h2:ItemC cb s w (y,c2)) :
  Calls Tryz.prog 73 #[.pointer (some ⟨cb,0,none⟩),.pointer s,.iface 178 (.pointer (some ⟨b,0,none⟩))] w (CkQ cb (lostF (lostF l c1) c2) w):=by
 have a0:=missVariable;have a1:=missBreak;have a2:=missCall;have a3:=missField;have a4:=missIndex;have a5:=missEach;have a6:=missOptional;have a7:=missCollect;have a8:=missBuild;have a9:=missBinary;have a10:=missMinus;have a11:=hitTry
 have hb:=cell_lt c0'
 have hcb:=hs.lt
 have hs:Aside (CkSt w cb l):=hs
 have hI:Aside (ItemC cb s w (x,c1)):=h1
 have hJ:Aside (ItemC cb s w (y,c2)):=h2
 have hsh:=h1.shape
 have hsh2:=h2.shape
 clear h1 h2
 rcases hsh with e | ⟨T1,d1,e⟩ <;> rcases hsh2 with e2 | ⟨T2,d2,e2⟩
 all_goals
  have e:x=_:=e
  have e2:y=_:=e2
  subst e
  subst e2
  go_enter Tryz.func73,Tryz.ntmps73
  go_wp2_with fail
  go_region_held3 (fun w'=>w'.cell? ⟨b,0,none⟩=w.cell? ⟨b,0,none⟩∧w'.cell? ⟨b,1,none⟩=w.cell? ⟨b,1,none⟩) (first | exact ⟨e0,e1⟩ | go_keep)
   (first | (go_at_call 40;refine (check2C (l:=l) (heap_newd2 w _) (by omega) (hs.out.below (below_alloc _ _).drew) (hI.out.on (KpC.of_below (below_alloc _ _).drew)) (hJ.out.on (KpC.of_below (below_alloc _ _).drew))).mono ?_;rintro e w1 ⟨rfl,k1,st1⟩;have e0:w1.cell? ⟨b,0,none⟩=w.cell? ⟨b,0,none⟩:=(k1.cell (o:=0) (by simp;omega) hbc).trans ((below_alloc w _).drew.cell (p:=⟨b,0,none⟩) hb);have e1:w1.cell? ⟨b,1,none⟩=w.cell? ⟨b,1,none⟩:=(k1.cell (o:=1) (by simp;omega) hbc).trans ((below_alloc w _).drew.cell (p:=⟨b,1,none⟩) hb)))
  go_wp2_with fail
  go_end0
  exact ⟨rfl,(KpC.of_below (below_alloc _ _).drew).trans k1,st1⟩
end
end Go.Proofs.Tryz
namespace Go.Proofs.Tryz
set_option maxHeartbeats 16000000
open Go.RowKit
set_option maxRecDepth 10000
def quT (l:Bs) (i:Nat):Bs:=34 :: (l.take i).flatMap escY
theorem quT_succ {l:Bs}{i:Nat}{c:UInt8} (h:l[i]? = some c):quT l (i+1)=quT l i ++ escY c:=by
 unfold quT
 rw [List.take_add_one,h,List.flatMap_append]
 simp
theorem quT_len (l:Bs) (i:Nat):(quT l i).length≤1+6 * i:=by
 unfold quT
 have h:∀ m:Bs,(m.flatMap escY).length≤6 * m.length:=fun m=>by
  induction m with
  | nil=>simp
  | cons c m ih =>
   have:=escY_len c
   rw [List.flatMap_cons,List.length_append,List.length_cons]
   omega
 have h1:=h (l.take i)
 rw [List.length_take] at h1
 rw [List.length_cons]
 omega
theorem hexE:∀ k:Fin 16,((⟨#[48,49,50,51,52,53,54,55,56,57,97,98,99,100,101,102]⟩:ByteArray).extract k.1 (k.1+1)).data.toList=[hexY k.1]:=by decide
theorem belowQ (w:World) (m:Nat):Below w.heap.size w (w.drewN m):=⟨rfl,rfl,rfl,Nat.le_refl _,fun _ _=>rfl⟩
theorem Quote_ok (s:ByteArray) (w:World) (hs:s.size≤2000):Calls Tryz.prog 32 #[.string s] w fun e w'=>e = .returned (.string ⟨(quoteY s.data.toList).toArray⟩)∧Below w.heap.size w w':=by
 go_enter Tryz.func32,Tryz.ntmps32
 go_wp2_with fail
 go_loopg [4,5] (s.size+1) (fun j t4 t5 wr=>Below w.heap.size w wr∧∃ (i:Nat) (q:ByteArray),i+j=s.size+1∧i≤s.size∧t5 = .int .i64 i∧t4 = .string q∧q.data.toList=quT s.data.toList i)
 case atStart=>exact ⟨Below.refl _ _,0,_,by omega,by omega,rfl,rfl,rfl⟩
 case round =>
  obtain ⟨hw,i,q,hij,hin,rfl,rfl,hq⟩:=hrel
  have hql:q.size≤1+6 * i:=by rw [← bsize,hq];exact quT_len _ _
  by_cases hi:i < s.size
  ·have hnx:=quT_succ (at_list s i hi)
   obtain ⟨c,hc⟩:∃ c,s[i]=c:=⟨_,rfl⟩
   rw [hc] at hnx
   have hnx:Aside (∀ r:ByteArray,r.data.toList=q.data.toList ++ escY c→r.data.toList=quT s.data.toList (i+1)):=fun r hr=>by rw [hr,hnx,hq]
   have hi':(i:Int) < (s.size:Int):=by omega
   have hi0:(0:Int)≤(i:Int):=by omega
   have hex:Aside ((s.extract i (i+1)).data.toList=[c]):=by
    show _=_
    rw [extract_list,List.drop_eq_getElem_cons (by rw [bsize];exact hi)]
    rw [show i+1 - i=1 by omega,List.take_succ_cons,List.take_zero,← hc]
    rfl
   have hexs:(s.extract i (i+1)).size=1:=by rw [← bsize,hex.out];rfl
   clear hq
   by_cases k32:32≤c.toNat∧c.toNat≠34∧c.toNat≠92
   ·obtain ⟨p1,p2,p3⟩:=k32
    have q1:((c.toNat:Int) == 34)=false:=by simp;omega
    have q2:((c.toNat:Int) == 92)=false:=by simp;omega
    have q3:((c.toNat:Int) == 8)=false:=by simp;omega
    have q4:((c.toNat:Int) == 9)=false:=by simp;omega
    have q5:((c.toNat:Int) == 10)=false:=by simp;omega
    have q6:((c.toNat:Int) == 12)=false:=by simp;omega
    have q7:((c.toNat:Int) == 13)=false:=by simp;omega
    have q8:¬ (c.toNat:Int) < 32:=by omega
    go_wp2_with fail
    go_roundg (s.size+1 - (i+1))
    case measure=>omega
    case rel =>
     refine ⟨hw,i+1,_,by omega,by omega,by go_num,rfl,hnx.out _ ?_⟩
     have he:escY c=[c]:=by
      unfold escY
      rw [if_neg (by rintro (e | e) <;> (rw [e] at p2 p3;simp at p2 p3)),if_neg (by intro e;rw [e] at p1;simp at p1),if_neg (by intro e;rw [e] at p1;simp at p1),if_neg (by intro e;rw [e] at p1;simp at p1),if_neg (by intro e;rw [e] at p1;simp at p1),if_neg (by intro e;rw [e] at p1;simp at p1),if_neg (by simp only [UInt8.lt_iff_toNat_lt];simp;omega)]
     rw [he,← hex.out]
     simp
   ·by_cases k34:c.toNat=34
    ·have hc34:c=34:=UInt8.toNat_inj.1 (by rw [k34];rfl)
     have hv:(c.toNat:Int)=34:=by omega
     have HC:Hid (c=34):=hc34
     clear hc34 k34 k32
     go_wp2_with fail
     go_roundg (s.size+1 - (i+1))
     case measure=>omega
     case rel =>
      refine ⟨hw,i+1,_,by omega,by omega,by go_num,rfl,hnx.out _ ?_⟩
      have he:escY c=[92] ++ [c]:=by rw [HC.out];decide
      rw [he,← hex.out]
      simp
    ·by_cases k92:c.toNat=92
     ·have hc92:c=92:=UInt8.toNat_inj.1 (by rw [k92];rfl)
      have hv:(c.toNat:Int)=92:=by omega
      have HC:Hid (c=92):=hc92
      clear hc92 k92 k32
      go_wp2_with fail
      go_roundg (s.size+1 - (i+1))
      case measure=>omega
      case rel =>
       refine ⟨hw,i+1,_,by omega,by omega,by go_num,rfl,hnx.out _ ?_⟩
       have he:escY c=[92] ++ [c]:=by rw [HC.out];decide
       rw [he,← hex.out]
       simp
     ·by_cases k8:c.toNat=8
      ·have hc8:c=8:=UInt8.toNat_inj.1 (by rw [k8];rfl)
       have hv:(c.toNat:Int)=8:=by omega
       have HC:Hid (c=8):=hc8
       clear hc8 k8 k32
       go_wp2_with fail
       go_roundg (s.size+1 - (i+1))
       case measure=>omega
       case rel =>
        refine ⟨hw,i+1,_,by omega,by omega,by go_num,rfl,hnx.out _ ?_⟩
        have he:escY c=[92,98]:=by rw [HC.out];decide
        rw [he]
        simp
      ·by_cases k9:c.toNat=9
       ·have hc9:c=9:=UInt8.toNat_inj.1 (by rw [k9];rfl)
        have hv:(c.toNat:Int)=9:=by omega
        have HC:Hid (c=9):=hc9
        clear hc9 k9 k32
        go_wp2_with fail
        go_roundg (s.size+1 - (i+1))
        case measure=>omega
        case rel =>
         refine ⟨hw,i+1,_,by omega,by omega,by go_num,rfl,hnx.out _ ?_⟩
         have he:escY c=[92,116]:=by rw [HC.out];decide
         rw [he]
         simp
       ·by_cases k10:c.toNat=10
        ·have hc10:c=10:=UInt8.toNat_inj.1 (by rw [k10];rfl)
         have hv:(c.toNat:Int)=10:=by omega
         have HC:Hid (c=10):=hc10
         clear hc10 k10 k32
         go_wp2_with fail
         go_roundg (s.size+1 - (i+1))
         case measure=>omega
         case rel =>
          refine ⟨hw,i+1,_,by omega,by omega,by go_num,rfl,hnx.out _ ?_⟩
          have he:escY c=[92,110]:=by rw [HC.out];decide
          rw [he]
          simp
        ·by_cases k12:c.toNat=12
         ·have hc12:c=12:=UInt8.toNat_inj.1 (by rw [k12];rfl)
          have hv:(c.toNat:Int)=12:=by omega
          have HC:Hid (c=12):=hc12
          clear hc12 k12 k32
          go_wp2_with fail
          go_roundg (s.size+1 - (i+1))
          case measure=>omega
          case rel =>
           refine ⟨hw,i+1,_,by omega,by omega,by go_num,rfl,hnx.out _ ?_⟩
           have he:escY c=[92,102]:=by rw [HC.out];decide
           rw [he]
           simp
         ·by_cases k13:c.toNat=13
          ·have hc13:c=13:=UInt8.toNat_inj.1 (by rw [k13];rfl)
           have hv:(c.toNat:Int)=13:=by omega
           have HC:Hid (c=13):=hc13
           clear hc13 k13 k32
           go_wp2_with fail
           go_roundg (s.size+1 - (i+1))
           case measure=>omega
           case rel =>
            refine ⟨hw,i+1,_,by omega,by omega,by go_num,rfl,hnx.out _ ?_⟩
            have he:escY c=[92,114]:=by rw [HC.out];decide
            rw [he]
            simp
          ·have hlow:c.toNat < 32:=by omega
           have q0:((c.toNat:Int) == 34)=false:=by simp;omega
           have q1:((c.toNat:Int) == 92)=false:=by simp;omega
           have q2:((c.toNat:Int) == 8)=false:=by simp;omega
           have q3:((c.toNat:Int) == 9)=false:=by simp;omega
           have q4:((c.toNat:Int) == 10)=false:=by simp;omega
           have q5:((c.toNat:Int) == 12)=false:=by simp;omega
           have q6:((c.toNat:Int) == 13)=false:=by simp;omega
           have q8:(c.toNat:Int) < 32:=by omega
           obtain ⟨hi2,hhi⟩:∃ hi,c.toNat / 16=hi:=⟨_,rfl⟩
           obtain ⟨lo,hlo⟩:∃ lo,c.toNat % 16=lo:=⟨_,rfl⟩
           have eh:(c.toNat:Int) / 16=(hi2:Int):=by omega
           have el:(c.toNat:Int) % 16=(lo:Int):=by omega
           have eh':(c.toNat:Int).tdiv 16=(hi2:Int):=by rw [Int.tdiv_eq_ediv_of_nonneg (by omega)];exact eh
           have el':(c.toNat:Int).tmod 16=(lo:Int):=by rw [Int.tmod_eq_emod_of_nonneg (by omega)];exact el
           have h1:hi2 < 2:=by omega
           have h2:lo < 16:=by omega
           go_wp2_with fail
           have g1:(0:Int)≤(hi2:Int):=by omega
           have g2:(hi2:Int)+1≤16:=by omega
           have g3:(0:Int)≤(lo:Int):=by omega
           have g4:(lo:Int)+1≤16:=by omega
           have g5:(hi2:Int)≤(hi2:Int)+1:=by omega
           have g6:(lo:Int)≤(lo:Int)+1:=by omega
           go_quiet (fail)
           go_wp2_with fail
           go_roundg (s.size+1 - (i+1))
           case measure=>omega
           case rel =>
            refine ⟨hw.trans ((belowQ _ _).mono hw.size),i+1,_,by omega,by omega,by go_num,rfl,hnx.out _ ?_⟩
            have he:escY c=[92,117,48,48] ++ ([hexY hi2] ++ [hexY lo]):=by
             unfold escY
             have n34:¬ (c=34∨c=92):=by rintro (e | e) <;> (rw [e] at hlow;simp at hlow)
             have n8:¬ c=8:=fun e=>k8 (by rw [e];rfl)
             have n9:¬ c=9:=fun e=>k9 (by rw [e];rfl)
             have n10:¬ c=10:=fun e=>k10 (by rw [e];rfl)
             have n12:¬ c=12:=fun e=>k12 (by rw [e];rfl)
             have n13:¬ c=13:=fun e=>k13 (by rw [e];rfl)
             rw [if_neg n34,if_neg n8,if_neg n9,if_neg n10,if_neg n12,if_neg n13,if_pos (by simp only [UInt8.lt_iff_toNat_lt];simp;omega),hhi,hlo]
             rfl
            rw [he,← hexE ⟨hi2,by omega⟩,← hexE ⟨lo,h2⟩]
            simp
  ·have hi':¬ (i:Int) < (s.size:Int):=by omega
   have z1:¬ 9223372036854775807 < q.size+1:=by omega
   have hfin:Hid ((q ++ ⟨#[34]⟩:ByteArray)=⟨(quoteY s.data.toList).toArray⟩):=ba_eq (by
    have e:s.data.toList.take i=s.data.toList:=List.take_of_length_le (by rw [bsize];omega)
    simp [hq,quT,quoteY,e])
   clear hq
   go_wp2_with fail
   go_ret
   exact ⟨by rw [← hfin.out];rfl,hw⟩
end Go.Proofs.Tryz
namespace Go.Proofs.Tryz
set_option maxHeartbeats 16000000
open Go.RowKit
set_option maxRecDepth 10000
section
variable {cb b g : Nat} {s : Option Addr} {w : World} {l c c1 c2 c3 c4 : Int} {x y z : Value} {env : Env} {n : ByteArray}
def withAllC (ps:List ByteArray) (env:Env):Env:=ps.foldl (fun e p=>(2,p,0) :: e) env
theorem withAllC_snoc (ps:List ByteArray) (p:ByteArray) (env:Env):withAllC (ps ++ [p]) env=(2,p,0) :: withAllC ps env:=by simp [withAllC]
theorem oneC_binder {T:Nat}{l':Int} (hT:T=122∨T=138∨T=172∨T=175∨T=125)
  (hc:Calls Tryz.prog 94 #[.pointer (some ⟨cb,0,none⟩),.pointer s,.iface T (.pointer (some ⟨b,0,none⟩))] w (CkQ cb l' w)) :
  Calls Tryz.prog 73 #[.pointer (some ⟨cb,0,none⟩),.pointer s,.iface T (.pointer (some ⟨b,0,none⟩))] w (CkQ cb l' w):=by
 have a0:=missVariable;have a1:=missBreak;have a2:=missCall;have a3:=missField;have a4:=missIndex;have a5:=missEach;have a6:=missOptional;have a7:=missCollect;have a8:=missBuild;have a9:=missBinary;have a10:=missMinus;have a11:=missTry;have a12:=missIf
 rcases hT with rfl | rfl | rfl | rfl | rfl
 all_goals
  go_enter Tryz.func73,Tryz.ntmps73
  go_wp2_with (go_at_call 94;refine hc.mono ?_;rintro e w1 ⟨rfl,k1,st1⟩)
  go_end0
  exact ⟨rfl,k1,st1⟩
end
end Go.Proofs.Tryz
namespace Go.Proofs.Tryz
set_option maxHeartbeats 16000000
open Go.RowKit
set_option maxRecDepth 10000
section
variable {cb b g : Nat} {s : Option Addr} {w : World} {l c c1 c2 c3 c4 : Int} {x y z : Value} {env : Env} {n : ByteArray}
theorem binderC_Def {a:Option Addr}{k cap T1 d1 T2 d2:Nat}{ps:List ByteArray} (hk:ps.length=k) (hk2:k≤100000) (hs:CkSt w cb l) (hbc:b≠cb) (q0:w.cell? ⟨b,0,none⟩=some (.string n)) (q1:w.cell? ⟨b,1,none⟩=some (.slice a k cap)) (q2:w.cell? ⟨b,2,none⟩=some (.iface T1 (.pointer (some ⟨d1,0,none⟩)))) (q3:w.cell? ⟨b,3,none⟩=some (.iface T2 (.pointer (some ⟨d2,0,none⟩))))
  (ha:0 < k→∃ d o,a=some ⟨d,o,none⟩∧d < w.heap.size∧∀ i p,ps[i]? = some p→w.cell? ⟨d,o+i,none⟩=some (.string p)) (hsc:Scope w (.pointer s) env)
  (h1:BodyC cb w (withAllC ps ((2,n,(k:Int)) :: env)) (.iface T1 (.pointer (some ⟨d1,0,none⟩)),c1)) (h2:BodyC cb w ((2,n,(k:Int)) :: env) (.iface T2 (.pointer (some ⟨d2,0,none⟩)),c2)) :
  Calls Tryz.prog 94 #[.pointer (some ⟨cb,0,none⟩),.pointer s,.iface 138 (.pointer (some ⟨b,0,none⟩))] w (CkQ cb (lostF (lostF l c1) c2) w):=by
 have a13:=missBind;have a14:=missLabel;have a15:=missReduce;have a16:=missForeach;have a17:=hitDef
 have hb:=cell_lt q0
 have hcb:=hs.lt
 have HK:Hid _:=hk
 have hs:Aside (CkSt w cb l):=hs
 have H1:Aside (BodyC cb w (withAllC ps ((2,n,(k:Int)) :: env)) (.iface T1 (.pointer (some ⟨d1,0,none⟩)),c1)):=h1
 have H2:Aside (BodyC cb w ((2,n,(k:Int)) :: env) (.iface T2 (.pointer (some ⟨d2,0,none⟩)),c2)):=h2
 have HA:Hid _:=ha
 have hsc:Aside (Scope w (.pointer s) env):=hsc
 clear hk h1 h2 ha
 go_enter Tryz.func94,Tryz.ntmps94
 go_wp2_with fail
 clear a13 a14 a15 a16 a17
 go_region_held3 (fun w'=>w'.cell? ⟨b,0,none⟩=w.cell? ⟨b,0,none⟩∧w'.cell? ⟨b,1,none⟩=w.cell? ⟨b,1,none⟩) (first | exact ⟨e0,e1⟩ | go_keep)
  (first | (go_at_call 113;refine (with_any _ env _ _ _ _ (hsc.out.below (Below.refl _ _).drew)).mono ?_;rintro e w1 ⟨bs,rfl,hs1,k1⟩;have kw1:Below w.heap.size w w1:=(Below.refl _ _).drew.trans k1;have e0:w1.cell? ⟨b,0,none⟩=w.cell? ⟨b,0,none⟩:=kw1.cell (p:=⟨b,0,none⟩) hb;have e1:w1.cell? ⟨b,1,none⟩=w.cell? ⟨b,1,none⟩:=kw1.cell (p:=⟨b,1,none⟩) hb))
 have e1':=e1.trans q1
 clear e0 e1
 go_wp2_with fail
 go_loopg [11,135] (k+1) (fun j v t wr=>∃ (i:Nat) (s':Option Addr),i+j=k+1∧i≤k∧t = .int .i64 i∧v = .pointer s'∧Below w.heap.size w wr∧Below w1.heap.size w1 wr∧Scope wr (.pointer s') (withAllC (ps.take i) ((2,n,(k:Int)) :: env)))
 case atStart=>exact ⟨0,_,by omega,by omega,rfl,rfl,kw1,Below.refl _ _,hs1⟩
 case round =>
  obtain ⟨i,s',hij,hik,rfl,rfl,hb2,hb3,hsc2⟩:=hrel
  by_cases hi:i < k
  ·have hil:i < ps.length:=by have:=HK.out;omega
   obtain ⟨d,o,rfl,hd,hp⟩:=HA.out (by omega)
   have hpi:=hp i _ (List.getElem?_eq_getElem hil)
   have cp:=(hb2.cell (p:=⟨d,o+i,none⟩) hd).trans hpi
   have hi':(i:Int) < (k:Int):=by omega
   have hi0:(0:Int)≤(i:Int):=by omega
   have htk:withAllC (ps.take (i+1)) ((2,n,(k:Int)) :: env)=(2,ps[i],0) :: withAllC (ps.take i) ((2,n,(k:Int)) :: env):=by
    rw [List.take_succ_eq_append_getElem hil,withAllC_snoc]
   have HT:Hid _:=htk
   clear htk hpi
   go_wp2_with (go_at_call 113;refine (with_any _ _ _ _ _ _ hsc2).mono ?_;rintro e w2 ⟨bs2,rfl,hs2,k2⟩)
   go_roundg (k+1 - (i+1))
   case measure=>omega
   case rel=>exact ⟨i+1,_,by omega,by omega,by go_num,rfl,hb2.trans (k2.mono hb2.size),hb3.trans (k2.mono hb3.size),by rw [HT.out];exact hs2⟩
  ·have hi':¬ (i:Int) < (k:Int):=by omega
   have hik2:i=k:=by omega
   have htk:ps.take i=ps:=List.take_of_length_le (by have:=HK.out;omega)
   rw [htk] at hsc2
   clear htk hik2
   have hbw:b < wr.heap.size:=Nat.lt_of_lt_of_le hb hb2.size
   have d2':=(hb2.cell (p:=⟨b,2,none⟩) hb).trans q2
   have hs1':=hs1.below hb3
   have hcbw:cb < wr.heap.size:=Nat.lt_of_lt_of_le hcb hb2.size
   have stw:Aside (CkSt wr cb l):=hs.out.below hb2
   have HX:Aside (ItemC cb s' wr (.iface T1 (.pointer (some ⟨d1,0,none⟩)),c1)):=H1.out s' wr _ (KpC.of_below hb2) stw.out hsc2
   have hs1':Aside (Scope wr (.pointer (some ⟨bs,0,none⟩)) ((2,n,(k:Int)) :: env)):=hs1'
   clear hsc2 H1
   go_wp2_with (first
    | (go_at_call 40;refine (check1C (l:=lostF l c1) (by exact heap_new w4 _) (by omega) (st4.below (below_alloc _ _)) (HY.out.on (KpC.of_below (below_alloc _ _)))).mono ?_;rintro e w5 ⟨rfl,k5,st5⟩)
    | (go_at_call 40;refine (check1C (l:=l) (by exact heap_new wr _) (by omega) (stw.out.below (below_alloc _ _)) (HX.out.on (KpC.of_below (below_alloc _ _)))).mono ?_;rintro e w4 ⟨rfl,k4,st4⟩;have kw4:KpC cb w w4:=(KpC.of_below (hb2.alloc hb2.size _)).trans k4;have hs4:=Scope.kept k4 (stw.out.below (below_alloc _ _)) (hs1'.out.below (below_alloc _ _));have HY:Aside (ItemC cb (some ⟨bs,0,none⟩) w4 (.iface T2 (.pointer (some ⟨d2,0,none⟩)),c2)):=H2.out _ w4 _ kw4 st4 hs4;have d3:=(kw4.cell3 (o:=3) hb hbc).trans q3;have hb4:b < w4.heap.size:=Nat.lt_of_lt_of_le hb kw4.size;have hcb4:=st4.lt))
   go_end0
   exact ⟨rfl,(kw4.trans (KpC.of_below (below_alloc _ _))).trans k5,st5⟩
end
end Go.Proofs.Tryz
namespace Go.Proofs.Tryz
set_option maxHeartbeats 16000000
open Go.RowKit
set_option maxRecDepth 10000
section
variable {cb b g : Nat} {s : Option Addr} {w : World} {l c c1 c2 c3 c4 : Int} {x y z : Value} {env : Env} {n : ByteArray}
structure Mc where
 nm:ByteArray
 br:Bool
 T1:Nat
 d1:Nat
 T2:Nat
 d2:Nat
 c1:Int
 c2:Int
def Mc.key (m:Mc):Value:=.iface m.T1 (.pointer (some ⟨m.d1,0,none⟩))
def Mc.val (m:Mc):Value:=.iface m.T2 (.pointer (some ⟨m.d2,0,none⟩))
def lostM (l:Int) (ms:List Mc):Int:=ms.foldl (fun l m=>lostF (lostF l m.c1) m.c2) l
theorem lostM_add (l:Int) {ms:List Mc}{i:Nat}{m:Mc} (h:ms[i]? = some m):lostM l (ms.take (i+1))=lostF (lostF (lostM l (ms.take i)) m.c1) m.c2:=by
 unfold lostM
 rw [List.take_add_one,h,List.foldl_append]
 rfl
theorem oneC_Build {a:Option Addr}{k cap:Nat}{ms:List Mc} (hk:ms.length=k) (hk2:k≤100000) (hs:CkSt w cb l) (hbc:b≠cb) (q0:w.cell? ⟨b,0,none⟩=some (.slice a k cap))
  (ha:0 < k→∃ d,a=some ⟨d,0,none⟩∧d < w.heap.size∧d≠cb∧∀ (i:Nat) (m:Mc),ms[i]? = some m→w.cell? ⟨d,i * 4,none⟩=some (.string m.nm)∧w.cell? ⟨d,i * 4+1,none⟩=some m.key∧w.cell? ⟨d,i * 4+2,none⟩=some (.bool m.br)∧w.cell? ⟨d,i * 4+3,none⟩=some m.val)
  (hm:∀ m∈ms,ItemC cb s w (m.key,m.c1)∧ItemC cb s w (m.val,m.c2)) :
  Calls Tryz.prog 73 #[.pointer (some ⟨cb,0,none⟩),.pointer s,.iface 115 (.pointer (some ⟨b,0,none⟩))] w (CkQ cb (lostM l ms) w):=by
 have a0:=missVariable;have a1:=missBreak;have a2:=missCall;have a3:=missField;have a4:=missIndex;have a5:=missEach;have a6:=missOptional;have a7:=missCollect;have a8:=hitBuild
 have hb:=cell_lt q0
 have HK:Hid _:=hk
 have hs:Aside (CkSt w cb l):=hs
 have HA:Hid _:=ha
 have HM:Hid _:=hm
 clear hk ha hm
 go_enter Tryz.func73,Tryz.ntmps73
 go_wp2_with fail
 clear a0 a1 a2 a3 a4 a5 a6 a7 a8
 go_loopg [167] (k+1) (fun j t wr=>∃ i:Nat,i+j=k+1∧i≤k∧t = .int .i64 i∧KpC cb w wr∧CkSt wr cb (lostM l (ms.take i)))
 case atStart=>exact ⟨0,by omega,by omega,rfl,KpC.refl _ _,hs.out⟩
 case round =>
  obtain ⟨i,hij,hik,rfl,hkp,hst⟩:=hrel
  have hcbw:=hst.lt
  by_cases hi:i < k
  ·have hil:i < ms.length:=by have:=HK.out;omega
   obtain ⟨d,rfl,hd,hdc,hp⟩:=HA.out (by omega)
   obtain ⟨m,hmi⟩:∃ m,ms[i]? = some m:=⟨_,List.getElem?_eq_getElem hil⟩
   obtain ⟨p0,p1,p2,p3⟩:=hp i m hmi
   have hit:=HM.out m (List.mem_of_getElem? hmi)
   have HL:Hid _:=lostM_add l hmi
   have hbk:=hkp.block d hd hdc
   have z0:=(World.cell?_of_block (w:=w) (a:=⟨d,i * 4,none⟩) hbk).trans p0
   have z1:=(World.cell?_of_block (w:=w) (a:=⟨d,i * 4+1,none⟩) hbk).trans p1
   have z2:=(World.cell?_of_block (w:=w) (a:=⟨d,i * 4+2,none⟩) hbk).trans p2
   have z3:=(World.cell?_of_block (w:=w) (a:=⟨d,i * 4+3,none⟩) hbk).trans p3
   have hi':(i:Int) < (k:Int):=by omega
   have hi0:(0:Int)≤(i:Int):=by omega
   have I1:Aside (ItemC cb s wr (m.key,m.c1)):=hit.1.on hkp
   have I2:Aside (ItemC cb s wr (m.val,m.c2)):=hit.2.on hkp
   have hst:Aside (CkSt wr cb (lostM l (ms.take i))):=hst
   clear hp p0 p1 p2 p3 hit hmi
   unfold Mc.key at z1 I1
   unfold Mc.val at z3 I2
   obtain ⟨nm,br,T1,d1,T2,d2,e1,e2⟩:=m
   go_wp2_with fail
   refine Calls.mono (check2C (g:=wr.heap.size+1) (l:=lostM l (ms.take i)) (heap_new2 wr _ _) (by omega) ((hst.out.below (below_alloc _ _)).below (below_alloc _ _)) ((I1.out.on (KpC.of_below (below_alloc _ _))).on (KpC.of_below (below_alloc _ _))) ((I2.out.on (KpC.of_below (below_alloc _ _))).on (KpC.of_below (below_alloc _ _)))) ?_
   rintro e w1 ⟨rfl,k1,st1⟩
   go_wp2_with fail
   go_roundg (k+1 - (i+1))
   case measure=>omega
   case rel=>exact ⟨i+1,by omega,by omega,by go_num,((hkp.trans (KpC.of_below (below_alloc _ _))).trans (KpC.of_below (below_alloc _ _))).trans k1,by rw [HL.out];exact st1⟩
  ·have hi':¬ (i:Int) < (k:Int):=by omega
   go_wp2_with fail
   go_end0
   refine ⟨rfl,hkp,?_⟩
   rw [List.take_of_length_le (by have:=HK.out;omega)] at hst
   exact hst
end
end Go.Proofs.Tryz
namespace Go.Proofs.Tryz
set_option maxHeartbeats 16000000
open Go.RowKit
def useK (b:Int):Int:=if b=118 then 0 else if b=108 then 1 else 2
def envK (K:List Kn):Env:=(K.map fun q=>(useK q.1,q.2.1,(q.2.2:Int))).reverse
theorem envK_add (K:List Kn) (b:Int) (x:ByteArray) (n:Nat):envK (K ++ [(b,x,n)])=(useK b,x,(n:Int)) :: envK K:=by
 simp [envK]
def GoodK (K:List Kn):Prop:=∀ q∈K,q.1=118∨q.1=108∨q.1=102
theorem use_inj {a b:Int} (ha:a=118∨a=108∨a=102) (hb:b=118∨b=108∨b=102):(useK a == useK b)=(a == b):=by
 rcases ha with rfl | rfl | rfl <;> rcases hb with rfl | rfl | rfl <;> decide
theorem has_same {K:List Kn} (hK:GoodK K) {b:Int} (hb:b=118∨b=108∨b=102) (x:ByteArray) (n:Nat):hasB (envK K) (useK b) x n=hasK K (b,x,n):=by
 unfold hasB envK hasK
 rw [List.any_reverse,List.any_map]
 induction K with
 | nil=>rfl
 | cons q K ih =>
  rw [List.any_cons,List.any_cons,ih (fun q hq=>hK q (.tail _ hq))]
  congr 1
  show (useK q.1 == useK b && (q.2.1.data.toList == x.data.toList && (q.2.2:Int) == (n:Int)))=(q.1 == b && (q.2.1.data.toList == x.data.toList && q.2.2 == n))
  rw [use_inj (hK q (.head _)) hb]
  congr 2
  rw [Bool.eq_iff_iff]
  simp
  omega
end Go.Proofs.Tryz
namespace Go.Proofs.Tryz
set_option maxHeartbeats 16000000
open Go.RowKit
set_option maxRecDepth 10000
def lostR (c:Nat→Int) (n:Nat) (l:Int):Int:=(List.range n).foldl (fun acc i=>lostF acc (c i)) l
theorem lostR_succ (c:Nat→Int) (n:Nat) (l:Int):lostR c (n+1) l=lostF (lostR c n l) (c n):=by
 unfold lostR
 rw [List.range_succ,List.foldl_append]
 rfl
theorem lostR_assoc (c:Nat→Int) (l a:Int):∀ n,lostF l (lostR c n a)=lostR c n (lostF l a)
 | 0=>rfl
 | n+1=>by rw [lostR_succ,lostR_succ,← lostF_assoc,lostR_assoc c l a n]
theorem lost_chk (s:String) (kind:Nat) (k:Nat→Tn) (K:List Kn) (l:Int):lostF l (chk (.ask s kind k) K)=lostR (fun i=>chk (k (i+1)) (kidK K kind (payN (k 0)) i)) (payN (k 0)).cnt (lostF l (ownAt K kind (payN (k 0)))) :=
 lostR_assoc _ _ _ _
theorem list_of {α:Type} (Φ:Nat→α→Prop):∀ n,(∀ i,i < n→∃ m,Φ i m)→∃ ms:List α,ms.length=n∧∀ i m,ms[i]? = some m→Φ i m
 | 0,_=>⟨[],rfl,fun i m h=>by simp at h⟩
 | n+1,h=>by
  obtain ⟨ms,hl,hm⟩:=list_of Φ n (fun i hi=>h i (by omega))
  obtain ⟨m,hn⟩:=h n (by omega)
  refine ⟨ms ++ [m],by simp [hl],fun i x hx=>?_⟩
  by_cases hi:i < n
  ·rw [List.getElem?_append_left (by omega)] at hx
   exact hm i x hx
  ·rw [List.getElem?_append_right (by omega),hl] at hx
   have:i - n=0:=by
    have:=(List.getElem?_eq_some_iff.1 hx).1
    simp at this
    omega
   rw [this] at hx
   simp at hx
   subst hx
   have:i=n:=by omega
   rw [this]
   exact hn
theorem row_of {w:World}{T s n:Nat}{r:Value}{vs:List Value} (h:w.ownsRow 0 T s r n vs):∃ a cap,r = .slice a n cap∧((a=none∧n=0)∨∃ d,a=some ⟨d,0,none⟩∧r.ownBlock=some d∧d < w.heap.size∧∀ j u,vs[j]? = some u→w.cell? ⟨d,j,none⟩=some u):=by
 have hc:=h
 rcases h.2 with ⟨rfl,rfl⟩ | ⟨g,cap,cur,rfl,_,_⟩
 ·exact ⟨none,0,rfl,.inl ⟨rfl,rfl⟩⟩
 ·refine ⟨_,cap,rfl,.inr ⟨g,rfl,rfl,(hc.lt g rfl).2,fun j u hu=>?_⟩⟩
  have hj:=(List.getElem?_eq_some_iff.1 hu).1
  exact (hc.cellAt j (by have:=hc.1;omega)).trans hu
theorem memsD_at:∀ (names:List ByteArray) (i0 i:Nat) (x:ByteArray),names[i]? = some x→∀ j,j < 4→(memsD i0 names)[4 * i+j]? = (memD (i0+i) x)[j]?
  | [],_,i,x,h,_,_=>by simp at h
  | y :: names,i0,0,x,h,j,hj=>by
    simp at h
    subst h
    rw [memsD,List.getElem?_append_left (by unfold memD;(repeat' split);all_goals (simp;omega))]
    simp
  | y :: names,i0,i+1,x,h,j,hj=>by
    have ih:=memsD_at names (i0+1) i x (by simpa using h) j hj
    have hl:(memD i0 y).length=4:=by unfold memD;(repeat' split);all_goals rfl
    rw [memsD,List.getElem?_append_right (by omega),hl,show 4 * (i+1)+j - 4=4 * i+j by omega,ih]
    congr 2
    omega
structure MemAt (p:Nat→Prop) (w:World) (k:Nat→Tn) (vs:List Value) (i:Nat) (x:ByteArray):Prop where
 nm:vs[4 * i]? = some (.string (if x.data.toList=[40]∨x.data.toList=[34] then ⟨#[]⟩ else x))
 br:vs[4 * i+2]? = some (.bool (x.data.toList == [40]))
 key:∃ u,vs[4 * i+1]? = some u∧Rf p w (k (2 * i+1)) u
 val:∃ u,vs[4 * i+3]? = some u∧Rf p w (k (2 * i+2)) u
theorem mem_at {p:Nat→Prop}{w:World}{k:Nat→Tn}{vs:List Value}{names:List ByteArray} (h:∀ (j:Nat) (d:Cd),(memsD 0 names)[j]? = some d→∃ x,vs[j]? = some x∧match d with
        | .error u=>x=u
        | .ok i=>Rf p w (k (i+1)) x) {i:Nat}{x:ByteArray} (hx:names[i]? = some x):MemAt p w k vs i x:=by
  have h0:=memsD_at names 0 i x hx 0 (by decide)
  have h1:=memsD_at names 0 i x hx 1 (by decide)
  have h2:=memsD_at names 0 i x hx 2 (by decide)
  have h3:=memsD_at names 0 i x hx 3 (by decide)
  rw [Nat.zero_add] at h0 h1 h2 h3
  unfold memD at h0 h1 h2 h3
  by_cases e1:x.data.toList=[40]
  · rw [if_pos e1] at h0 h1 h2 h3
    obtain ⟨u0,v0,rfl⟩:=h _ _ h0
    obtain ⟨u1,v1,r1⟩:=h _ _ h1
    obtain ⟨u2,v2,rfl⟩:=h _ _ h2
    obtain ⟨u3,v3,r3⟩:=h _ _ h3
    exact ⟨by rw [if_pos (.inl e1)];exact v0,by rw [e1];exact v2,⟨u1,v1,r1⟩,⟨u3,v3,r3⟩⟩
  · rw [if_neg e1] at h0 h1 h2 h3
    have hb:(x.data.toList == [40])=false:=by simpa using e1
    by_cases e2:x.data.toList=[34]
    · rw [if_pos e2] at h0 h1 h2 h3
      obtain ⟨u0,v0,rfl⟩:=h _ _ h0
      obtain ⟨u1,v1,r1⟩:=h _ _ h1
      obtain ⟨u2,v2,rfl⟩:=h _ _ h2
      obtain ⟨u3,v3,r3⟩:=h _ _ h3
      exact ⟨by rw [if_pos (.inr e2)];exact v0,by rw [hb];exact v2,⟨u1,v1,r1⟩,⟨u3,v3,r3⟩⟩
    · rw [if_neg e2] at h0 h1 h2 h3
      obtain ⟨u0,v0,rfl⟩:=h _ _ h0
      obtain ⟨u1,v1,r1⟩:=h _ _ h1
      obtain ⟨u2,v2,rfl⟩:=h _ _ h2
      obtain ⟨u3,v3,r3⟩:=h _ _ h3
      exact ⟨by rw [if_neg (by simp [e1,e2])];exact v0,by rw [hb];exact v2,⟨u1,v1,r1⟩,⟨u3,v3,r3⟩⟩
theorem Rf.shape {p:Nat→Prop}{w:World}:∀ {t:Tn}{v:Value},Rf p w t v→∃ b,v = .iface (typF (kindT t)) (.pointer (some ⟨b,0,none⟩))∧p b∧b < w.heap.size
 | .done _,_,h=>h.elim
 | .ask _ _ _,_,⟨b,e,hp,hl,_⟩=>⟨b,e,hp,hl⟩
theorem check0C {cb cap:Nat}{a s:Option Addr}{w:World}{l:Int} (hs:CkSt w cb l) :
  Calls Tryz.prog 40 #[.pointer (some ⟨cb,0,none⟩),.pointer s,.slice a 0 cap] w (CkQ cb l w):=by
 have hs:Aside (CkSt w cb l):=hs
 go_enter Tryz.func40,Tryz.ntmps40
 go_wp2_with fail
 go_loopg [10] 1 (fun j t wr=>j=1∧t = .int .i64 0∧wr=w)
 case atStart=>exact ⟨rfl,rfl,rfl⟩
 case round =>
  obtain ⟨hj,rfl,hw⟩:=hrel
  subst hw
  go_wp2_with fail
  go_end0
  exact ⟨rfl,KpC.refl _ _,hs.out⟩
theorem useK_v:useK 118=0:=by decide
theorem useK_l:useK 108=1:=by decide
theorem useK_f:useK 102=2:=by decide
theorem GoodK.add {K:List Kn} (h:GoodK K) {b:Int} (hb:b=118∨b=108∨b=102) (x:ByteArray) (n:Nat):GoodK (K ++ [(b,x,n)]):=fun q hq=>by
 rcases List.mem_append.1 hq with hq | hq
 ·exact h q hq
 ·rw [List.mem_singleton.1 hq];exact hb
theorem GoodK.adds {K:List Kn} (h:GoodK K) (ps:List ByteArray):GoodK (K ++ ps.map fun x=>(102,x,0)):=fun q hq=>by
 rcases List.mem_append.1 hq with hq | hq
 ·exact h q hq
 ·obtain ⟨x,_,rfl⟩:=List.mem_map.1 hq
  exact .inr (.inr rfl)
theorem envK_adds:∀ (ps:List ByteArray) (K:List Kn),envK (K ++ ps.map fun x=>(102,x,0))=withAllC ps (envK K)
 | [],K=>by simp [withAllC]
 | p :: ps,K=>by
  have:=envK_adds ps (K ++ [(102,p,0)])
  rw [envK_add,List.append_assoc] at this
  exact this
section
variable {cb : Nat} {p : Nat → Prop}
def OneC (cb:Nat) (p:Nat→Prop) (t:Tn):Prop:=∀ (w:World) (v:Value) (K:List Kn) (s:Option Addr) (l:Int),GoodK K→Rf p w t v→CkSt w cb l→Scope w (.pointer s) (envK K)→
 Calls Tryz.prog 73 #[.pointer (some ⟨cb,0,none⟩),.pointer s,v] w (CkQ cb (lostF l (chk t K)) w)
theorem OneC.item {t:Tn} (h:OneC cb p t) (hp:∀ b,p b→b≠cb) {w:World}{v:Value}{K:List Kn}{s:Option Addr}{l:Int} (hK:GoodK K) (hr:Rf p w t v) (hst:CkSt w cb l) (hsc:Scope w (.pointer s) (envK K)):ItemC cb s w (v,chk t K):=by
 obtain ⟨b,e,_,_⟩:=hr.shape
 exact .inr ⟨⟨_,b,e⟩,fun w' l' k st=>h _ _ _ _ _ hK (hr.keep (fun b hb _=>hb) k.size (fun b hb hl=>k.block b hl (hp b hb))) st (Scope.kept k hst hsc)⟩
theorem OneC.body {t:Tn} (h:OneC cb p t) (hp:∀ b,p b→b≠cb) {w:World}{v:Value}{K:List Kn} (hK:GoodK K) (hr:Rf p w t v):BodyC cb w (envK K) (v,chk t K) :=
 fun _ _ _ k st sc=>h.item hp hK (hr.keep (fun b hb _=>hb) k.size (fun b hb hl=>k.block b hl (hp b hb))) st sc
theorem args_c {n:Nat}{K:List Kn}{k:Nat→Tn} (hp:∀ b,p b→b≠cb) (hone:∀ i,i < n→OneC cb p (k (i+1))) (hK:GoodK K) {w:World}{s:Option Addr}{l:Int}{r:Value}{vs:List Value} (hn:n≤6000) (ow:w.ownsRow 0 31 1 r n vs) (hb:∀ g,r.ownBlock=some g→p g) (hv:∀ i,i < n→∃ x,vs[i]? = some x∧Rf p w (k (i+1)) x) (hst:CkSt w cb l) (hsc:Scope w (.pointer s) (envK K)) :
  ∃ a cap,r = .slice a n cap∧ArgsC cb s w a n cap (lostR (fun i=>chk (k (i+1)) K) n):=by
 obtain ⟨a,cap,rfl,h⟩:=row_of ow
 refine ⟨a,cap,rfl,fun w' l' kk st=>?_⟩
 rcases h with ⟨rfl,rfl⟩ | ⟨d,rfl,hd,hlt,hc⟩
 ·exact check0C st
 ·obtain ⟨qs,hl,hq⟩:=list_of (fun i (q:Value×Int)=>vs[i]? = some q.1∧q.2=chk (k (i+1)) K∧Rf p w (k (i+1)) q.1∧i < n) n (fun i hi=>by
   obtain ⟨x,hx,hr⟩:=hv i hi
   exact ⟨(x,_),hx,rfl,hr,hi⟩)
  have hdc:=hp d (hb d hd)
  have e:∀ l,qs.foldl (fun l q=>lostF l q.2) l=lostR (fun i=>chk (k (i+1)) K) n l:=by
   intro l
   have:∀ m,m≤n→(qs.take m).foldl (fun l q=>lostF l q.2) l=lostR (fun i=>chk (k (i+1)) K) m l:=by
    intro m
    induction m with
    | zero=>intro _;rfl
    | succ m ih =>
     intro hm
     have hml:m < qs.length:=by omega
     rw [lostR_succ,← ih (by omega),List.take_succ_eq_append_getElem hml,List.foldl_append]
     have:=hq m _ (List.getElem?_eq_getElem hml)
     show lostF _ _=_
     rw [this.2.1]
   have:=this n (Nat.le_refl _)
   rw [List.take_of_length_le (by omega)] at this
   exact this
  have:=check_c cb d 0 cap s qs w' l' (by omega) (Nat.lt_of_lt_of_le hlt kk.size) hdc (fun i q hi=>by
   rw [Nat.zero_add]
   exact (kk.cell hlt hdc).trans (hc i _ (hq i q hi).1)) st (fun q hm=>by
   obtain ⟨i,hi⟩:=List.mem_iff_getElem?.1 hm
   obtain ⟨h1,h2,h3,h4⟩:=hq i q hi
   have:=(hone i h4).item hp hK h3 hst hsc
   rw [← h2] at this
   exact ItemC.on this kk)
  rw [hl,e] at this
  exact this
end
end Go.Proofs.Tryz
