import Derived.Test.YtfocepfmpnpaiaaGreatDoorYs3
import Derived.Test.YtfocepfmpnpaiaaGreatDoorVal2
import Derived.Laws.BitsAllLaws
import Derived.Deep.RegionLaw
import Derived.Deep.AppendLies
import Derived.Deep.LoopGhost
import Derived.Lib.AppendIntMem
import Derived.Laws.IdiomStrings
set_option linter.all false
namespace Go.Proofs.Tryz
set_option maxHeartbeats 16000000
open Go.RowKit
set_option maxRecDepth 10000
theorem hexY_at {i:Nat} (h:i < 16) {h2}:(⟨#[48,49,50,51,52,53,54,55,56,57,97,98,99,100,101,102]⟩:ByteArray)[i]'h2=hexY i:=by
 have:∀ k:Fin 16,(⟨#[48,49,50,51,52,53,54,55,56,57,97,98,99,100,101,102]⟩:ByteArray)[k.1]'(k.2)=hexY k.1:=by decide
 exact this ⟨i,h⟩
def strY (s:ByteArray) (j:Nat):Bs:=34 :: (s.data.toList.take j).flatMap escY
theorem strY_step {s:ByteArray}{j:Nat} (h:j < s.size):strY s (j+1)=strY s j ++ escY s[j]:=by
 unfold strY
 have ht:s.data.toList.take (j+1)=s.data.toList.take j ++ [s[j]]:=by
  rw [List.take_succ,at_list s j h];rfl
 rw [ht,List.flatMap_append]
 simp
theorem appendString_y {w:World}{B:Nat}{sv:Value}{out:List UInt8} (s:ByteArray) (hs:s.size≤10000000000) (hown:w.ownsRow B 5 1 sv out.length (Lib.byteCells out)) (hB:B≤w.heap.size) (ho:out.length≤10000000000) :
  Calls Tryz.prog 97 #[sv,.string s] w fun e w'=>∃ v',e = .returned v'∧w'.ownsRow B 5 1 v' (out.length+(quoteY s.data.toList).length) (Lib.byteCells out ++ Lib.byteCells (quoteY s.data.toList))∧Below B w w'∧Lib.OthersKept 5 none w w':=by
 obtain ⟨i0,hi0,hz0,hz1,hz2⟩:=info_parts (show (Tryz.prog.info? 5).map (fun i=>(i.zero,i.size,i.bytes))=some (some (.int .u8 0),1,1) by kernel_rfl)
 obtain ⟨oa,ol,oc,rfl⟩:=owns_shape hown
 go_enter Tryz.func97,Tryz.ntmps97
 go_wp2_with (refine wpList_append_lies _ (by rfl) _ _ _ (by rfl) B 5 i0 _ 1 1 Tryz.underlying65 hi0 hz0 hz1 hz2 rfl (by omega) _ out.length (Lib.byteCells out) (by rfl) (hown.alloc _) ⟨w.heap.size,0,none⟩ 1 1 [.int .u8 34] (by rfl) (by rfl) (World.news_of_block (cs:=#[.int .u8 34]) (t:=5) (fr:=(0,0)) (heap_new w _)) (by simp [Value.oneCell']) (by omega) (by unfold maxLen;omega) (by omega) (by simp;omega) (w.heap.size+1) (by simp) ?_;intro g cap w2 hown2 hgrow2 hat2 hlt2)
 go_loopg [0,5,6,12] s.size (fun k v0 v5 v6 v12 wr=>∃ (j n:Nat),k+j=s.size∧v12 = .int .i64 j∧Below B w wr∧Aside (Lib.OthersKept 5 none w wr)∧Hid (n=out.length+(strY s j).length)∧n≤out.length+1+6 * j∧wr.ownsRow B 5 1 v0 n (Lib.byteCells out ++ Lib.byteCells (strY s j)))
 case atStart =>
  refine ⟨0,out.length+1,by omega,rfl,?_,((Lib.OthersKept.refl _ _ w).alloc _).grown hgrow2 (wown_kind (hown.alloc _)),rfl,by omega,?_⟩
  ·exact ((Below.refl B w).alloc hB _).grown hgrow2 (by simp;omega) (fun q hq=>(hown.lt q hq).1)
  ·simpa [Lib.byteCells,strY] using hown2
 case round =>
  clear hown2 hgrow2 hat2 hlt2
  obtain ⟨j,n,hj,rfl,hb,hok,hn,hn2,hown3⟩:=hrel
  obtain ⟨ra,rl,rc,rfl⟩:=owns_shape hown3
  have hbz:=hb.size
  by_cases hlt:j < s.size
  ·obtain ⟨k,rfl⟩:∃ k,gk=k+1:=⟨gk - 1,by omega⟩
   have hl':(j:Int) < (s.size:Int):=by omega
   have ha0:(0:Int)≤(j:Int):=by omega
   have hst:=strY_step hlt
   have hr:(s[j]).toNat < 256:=(s[j]).toNat_lt
   obtain ⟨c,hc⟩:∃ c,s[j]=c:=⟨_,rfl⟩
   rw [hc] at hst hr
   obtain ⟨cn,hcn⟩:∃ cn:Nat,c.toNat=cn:=⟨_,rfl⟩
   have HST:Hid _:=hst
   have HC:Hid _:=hc
   have hnext:∀ (more:Bs) (w4:World) (v4:Value),escY c=more→more.length≤6→w4.ownsRow B 5 1 v4 (n+more.length) (Lib.byteCells out ++ Lib.byteCells (strY s j) ++ Lib.byteCells more)→(n+more.length≤out.length+1+6 * (j+1))∧Hid (n+more.length=out.length+(strY s (j+1)).length)∧w4.ownsRow B 5 1 v4 (n+more.length) (Lib.byteCells out ++ Lib.byteCells (strY s (j+1))):=fun more w4 v4 e1 e2 e3=>by
    refine ⟨by omega,?_,?_⟩
    ·show _=_
     rw [HST.out,e1,List.length_append];have:=hn.out;omega
    ·rw [HST.out,e1,byteCells_append,← List.append_assoc];exact e3
   have HNX:Aside _:=hnext
   clear hst hc hnext
   have HCN:Hid (c.toNat=cn):=hcn
   have hv:((s[j].toNat:Nat):Int)=(cn:Int):=by rw [HC.out,hcn]
   have hcc:c=UInt8.ofNat cn:=by rw [← hcn];simp
   have HCC:Hid _:=hcc
   clear hcn hcc
   by_cases k32:32≤cn∧cn≠34∧cn≠92
   ·obtain ⟨p1,p2,p3⟩:=k32
    have q1:((cn:Int) == 34)=false:=by simp;omega
    have q2:((cn:Int) == 92)=false:=by simp;omega
    have q3:((cn:Int) == 8)=false:=by simp;omega
    have q4:((cn:Int) == 9)=false:=by simp;omega
    have q5:((cn:Int) == 10)=false:=by simp;omega
    have q6:((cn:Int) == 12)=false:=by simp;omega
    have q7:((cn:Int) == 13)=false:=by simp;omega
    have q8:¬ (cn:Int) < 32:=by omega
    go_wp2_with (refine wpList_append_lies _ (by rfl) _ _ _ (by rfl) B 5 i0 _ 1 1 Tryz.underlying65 hi0 hz0 hz1 hz2 rfl (by omega) _ n (Lib.byteCells out ++ Lib.byteCells (strY s j)) (by rfl) (hown3.alloc _) ⟨wr.heap.size,0,none⟩ 1 1 [.int .u8 (cn:Int)] (by rfl) (by rfl) (World.news_of_block (cs:=#[.int .u8 (cn:Int)]) (t:=5) (fr:=(0,0)) (heap_new wr _)) (by simp [Value.oneCell']) (by omega) (by unfold maxLen;omega) (by omega) (by simp;omega) (wr.heap.size+1) (by simp) ?_;intro g4 cap4 w4 hown4 hgrow4 hat4 hlt4)
    go_roundg k
    case measure=>omega
    case rel =>
     have he:escY c=[c]:=by
      have hcN:=HCN.out
      unfold escY
      rw [if_neg (by rintro (e | e) <;> (rw [e] at hcN;simp at hcN;omega)),if_neg (by intro e;rw [e] at hcN;simp at hcN;omega),if_neg (by intro e;rw [e] at hcN;simp at hcN;omega),if_neg (by intro e;rw [e] at hcN;simp at hcN;omega),if_neg (by intro e;rw [e] at hcN;simp at hcN;omega),if_neg (by intro e;rw [e] at hcN;simp at hcN;omega),if_neg (by simp only [UInt8.lt_iff_toNat_lt];rw [hcN];simp;omega)]
     obtain ⟨r1,r2,r3⟩:=HNX.out [c] w4 _ he (by simp) (by have:=HCN.out;simpa [Lib.byteCells,this] using hown4)
     exact ⟨j+1,_,by omega,by go_num,(hb.alloc (by omega) _).grown hgrow4 (by simp;omega) (fun q hq=>(hown3.lt q hq).1),Lib.OthersKept.grown (Lib.OthersKept.alloc hok.out _) hgrow4 (wown_kind (hown3.alloc _)),r2,r1,r3⟩
   ·by_cases k34:cn=34
    ·have hv2:((s[j].toNat:Nat):Int)=34:=by rw [hv,k34];rfl
     clear hv
     go_wp2_with (refine wpList_append_lies _ (by rfl) _ _ _ (by rfl) B 5 i0 _ 1 1 Tryz.underlying65 hi0 hz0 hz1 hz2 rfl (by omega) _ n (Lib.byteCells out ++ Lib.byteCells (strY s j)) (by rfl) (hown3.alloc _) ⟨wr.heap.size,0,none⟩ 2 2 [.int .u8 92,.int .u8 34] (by rfl) (by rfl) (World.news_of_block (cs:=#[.int .u8 92,.int .u8 34]) (t:=5) (fr:=(0,0)) (heap_new wr _)) (by simp [Value.oneCell']) (by omega) (by unfold maxLen;omega) (by omega) (by simp;omega) (wr.heap.size+1) (by simp) ?_;intro g4 cap4 w4 hown4 hgrow4 hat4 hlt4)
     go_roundg k
     case measure=>omega
     case rel =>
      obtain ⟨r1,r2,r3⟩:=HNX.out [92,34] w4 _ (by rw [HCC.out,k34];decide) (by decide) (by first | exact hown4 | simpa [Lib.byteCells] using hown4)
      exact ⟨j+1,_,by omega,by go_num,(hb.alloc (by omega) _).grown hgrow4 (by simp;omega) (fun q hq=>(hown3.lt q hq).1),Lib.OthersKept.grown (Lib.OthersKept.alloc hok.out _) hgrow4 (wown_kind (hown3.alloc _)),r2,r1,r3⟩
    ·by_cases k92:cn=92
     ·have hv2:((s[j].toNat:Nat):Int)=92:=by rw [hv,k92];rfl
      clear hv
      go_wp2_with (refine wpList_append_lies _ (by rfl) _ _ _ (by rfl) B 5 i0 _ 1 1 Tryz.underlying65 hi0 hz0 hz1 hz2 rfl (by omega) _ n (Lib.byteCells out ++ Lib.byteCells (strY s j)) (by rfl) (hown3.alloc _) ⟨wr.heap.size,0,none⟩ 2 2 [.int .u8 92,.int .u8 92] (by rfl) (by rfl) (World.news_of_block (cs:=#[.int .u8 92,.int .u8 92]) (t:=5) (fr:=(0,0)) (heap_new wr _)) (by simp [Value.oneCell']) (by omega) (by unfold maxLen;omega) (by omega) (by simp;omega) (wr.heap.size+1) (by simp) ?_;intro g4 cap4 w4 hown4 hgrow4 hat4 hlt4)
      go_roundg k
      case measure=>omega
      case rel =>
       obtain ⟨r1,r2,r3⟩:=HNX.out [92,92] w4 _ (by rw [HCC.out,k92];decide) (by decide) (by first | exact hown4 | simpa [Lib.byteCells] using hown4)
       exact ⟨j+1,_,by omega,by go_num,(hb.alloc (by omega) _).grown hgrow4 (by simp;omega) (fun q hq=>(hown3.lt q hq).1),Lib.OthersKept.grown (Lib.OthersKept.alloc hok.out _) hgrow4 (wown_kind (hown3.alloc _)),r2,r1,r3⟩
     ·by_cases k8:cn=8
      ·have hv2:((s[j].toNat:Nat):Int)=8:=by rw [hv,k8];rfl
       clear hv
       go_wp2_with (refine Lib.wpList_append_own_string _ (by rfl) _ _ 65 9 (by rfl) B 5 i0 Tryz.underlying65 Tryz.underlying9 hi0 hz0 hz1 hz2 _ n (Lib.byteCells out ++ Lib.byteCells (strY s j)) (by rfl) hown3 ⟨#[92,98]⟩ (by rfl) (by unfold maxLen;simp [ByteArray.size];omega) (by simp [ByteArray.size];omega) (by omega) ?_;intro v4 w4 hown4 hgrow4 _;obtain ⟨a4,l4,c4,rfl⟩:=owns_shape hown4)
       go_roundg k
       case measure=>omega
       case rel =>
        obtain ⟨r1,r2,r3⟩:=HNX.out [92,98] w4 _ (by rw [HCC.out,k8];decide) (by decide) (by first | exact hown4 | simpa [Lib.byteCells] using hown4)
        exact ⟨j+1,_,by omega,by go_num,hb.grown hgrow4 (by omega) (fun q hq=>(hown3.lt q hq).1),Lib.OthersKept.grown hok.out hgrow4 (wown_kind hown3),r2,r1,r3⟩
      ·by_cases k9:cn=9
       ·have hv2:((s[j].toNat:Nat):Int)=9:=by rw [hv,k9];rfl
        clear hv
        go_wp2_with (refine Lib.wpList_append_own_string _ (by rfl) _ _ 65 9 (by rfl) B 5 i0 Tryz.underlying65 Tryz.underlying9 hi0 hz0 hz1 hz2 _ n (Lib.byteCells out ++ Lib.byteCells (strY s j)) (by rfl) hown3 ⟨#[92,116]⟩ (by rfl) (by unfold maxLen;simp [ByteArray.size];omega) (by simp [ByteArray.size];omega) (by omega) ?_;intro v4 w4 hown4 hgrow4 _;obtain ⟨a4,l4,c4,rfl⟩:=owns_shape hown4)
        go_roundg k
        case measure=>omega
        case rel =>
         obtain ⟨r1,r2,r3⟩:=HNX.out [92,116] w4 _ (by rw [HCC.out,k9];decide) (by decide) (by first | exact hown4 | simpa [Lib.byteCells] using hown4)
         exact ⟨j+1,_,by omega,by go_num,hb.grown hgrow4 (by omega) (fun q hq=>(hown3.lt q hq).1),Lib.OthersKept.grown hok.out hgrow4 (wown_kind hown3),r2,r1,r3⟩
       ·by_cases k10:cn=10
        ·have hv2:((s[j].toNat:Nat):Int)=10:=by rw [hv,k10];rfl
         clear hv
         go_wp2_with (refine Lib.wpList_append_own_string _ (by rfl) _ _ 65 9 (by rfl) B 5 i0 Tryz.underlying65 Tryz.underlying9 hi0 hz0 hz1 hz2 _ n (Lib.byteCells out ++ Lib.byteCells (strY s j)) (by rfl) hown3 ⟨#[92,110]⟩ (by rfl) (by unfold maxLen;simp [ByteArray.size];omega) (by simp [ByteArray.size];omega) (by omega) ?_;intro v4 w4 hown4 hgrow4 _;obtain ⟨a4,l4,c4,rfl⟩:=owns_shape hown4)
         go_roundg k
         case measure=>omega
         case rel =>
          obtain ⟨r1,r2,r3⟩:=HNX.out [92,110] w4 _ (by rw [HCC.out,k10];decide) (by decide) (by first | exact hown4 | simpa [Lib.byteCells] using hown4)
          exact ⟨j+1,_,by omega,by go_num,hb.grown hgrow4 (by omega) (fun q hq=>(hown3.lt q hq).1),Lib.OthersKept.grown hok.out hgrow4 (wown_kind hown3),r2,r1,r3⟩
        ·by_cases k12:cn=12
         ·have hv2:((s[j].toNat:Nat):Int)=12:=by rw [hv,k12];rfl
          clear hv
          go_wp2_with (refine Lib.wpList_append_own_string _ (by rfl) _ _ 65 9 (by rfl) B 5 i0 Tryz.underlying65 Tryz.underlying9 hi0 hz0 hz1 hz2 _ n (Lib.byteCells out ++ Lib.byteCells (strY s j)) (by rfl) hown3 ⟨#[92,102]⟩ (by rfl) (by unfold maxLen;simp [ByteArray.size];omega) (by simp [ByteArray.size];omega) (by omega) ?_;intro v4 w4 hown4 hgrow4 _;obtain ⟨a4,l4,c4,rfl⟩:=owns_shape hown4)
          go_roundg k
          case measure=>omega
          case rel =>
           obtain ⟨r1,r2,r3⟩:=HNX.out [92,102] w4 _ (by rw [HCC.out,k12];decide) (by decide) (by first | exact hown4 | simpa [Lib.byteCells] using hown4)
           exact ⟨j+1,_,by omega,by go_num,hb.grown hgrow4 (by omega) (fun q hq=>(hown3.lt q hq).1),Lib.OthersKept.grown hok.out hgrow4 (wown_kind hown3),r2,r1,r3⟩
         ·by_cases k13:cn=13
          ·have hv2:((s[j].toNat:Nat):Int)=13:=by rw [hv,k13];rfl
           clear hv
           go_wp2_with (refine Lib.wpList_append_own_string _ (by rfl) _ _ 65 9 (by rfl) B 5 i0 Tryz.underlying65 Tryz.underlying9 hi0 hz0 hz1 hz2 _ n (Lib.byteCells out ++ Lib.byteCells (strY s j)) (by rfl) hown3 ⟨#[92,114]⟩ (by rfl) (by unfold maxLen;simp [ByteArray.size];omega) (by simp [ByteArray.size];omega) (by omega) ?_;intro v4 w4 hown4 hgrow4 _;obtain ⟨a4,l4,c4,rfl⟩:=owns_shape hown4)
           go_roundg k
           case measure=>omega
           case rel =>
            obtain ⟨r1,r2,r3⟩:=HNX.out [92,114] w4 _ (by rw [HCC.out,k13];decide) (by decide) (by first | exact hown4 | simpa [Lib.byteCells] using hown4)
            exact ⟨j+1,_,by omega,by go_num,hb.grown hgrow4 (by omega) (fun q hq=>(hown3.lt q hq).1),Lib.OthersKept.grown hok.out hgrow4 (wown_kind hown3),r2,r1,r3⟩
          ·have hlow:cn < 32:=by omega
           have q1:((cn:Int) == 34)=false:=by simp;omega
           have q2:((cn:Int) == 92)=false:=by simp;omega
           have q3:((cn:Int) == 8)=false:=by simp;omega
           have q4:((cn:Int) == 9)=false:=by simp;omega
           have q5:((cn:Int) == 10)=false:=by simp;omega
           have q6:((cn:Int) == 12)=false:=by simp;omega
           have q7:((cn:Int) == 13)=false:=by simp;omega
           have q8:(cn:Int) < 32:=by omega
           go_wp2_with (refine Lib.wpList_append_own_string _ (by rfl) _ _ 65 9 (by rfl) B 5 i0 Tryz.underlying65 Tryz.underlying9 hi0 hz0 hz1 hz2 _ n (Lib.byteCells out ++ Lib.byteCells (strY s j)) (by rfl) hown3 ⟨#[92,117,48,48]⟩ (by rfl) (by unfold maxLen;simp [ByteArray.size];omega) (by simp [ByteArray.size];omega) (by omega) ?_;intro v4 w4 hown4 hgrow4 _;obtain ⟨a4,l4,c4,rfl⟩:=owns_shape hown4)
           obtain ⟨hi,hhi⟩:∃ hi,cn / 16=hi:=⟨_,rfl⟩
           obtain ⟨lo,hlo⟩:∃ lo,cn % 16=lo:=⟨_,rfl⟩
           have eh:(cn:Int) / 16=(hi:Int):=by omega
           have el:bits .and .u8 (cn:Int) 15=(lo:Int):=by
            have:=u8_and_nat cn 15 (by omega) (by omega)
            rw [show (15:Nat)=2 ^ 4 - 1 from rfl,Nat.and_two_pow_sub_one_eq_mod] at this
            rw [← hlo];exact this
           have h1:(0:Int)≤(hi:Int):=by omega
           have h2:(hi:Int) < 16:=by omega
           have h3:(0:Int)≤(lo:Int):=by omega
           have h4:(lo:Int) < 16:=by omega
           have h2n:hi < 16:=by omega
           have h4n:lo < 16:=by omega
           have HHI:Hid _:=hhi
           have HLO:Hid _:=hlo
           clear hhi hlo
           have hw4:=hgrow4.size
           go_region_law
            ((refine step_append_lies _ (by rfl) _ _ _ (by rfl) B 5 i0 _ 1 1 Tryz.underlying65 hi0 hz0 hz1 hz2 rfl (by omega) (.slice a4 l4 c4) (n+4) (Lib.byteCells out ++ Lib.byteCells (strY s j) ++ Lib.byteCells [92,117,48,48]) (by rfl) (by first | exact World.ownsRow.alloc hown4 _ | exact (World.ownsRow.drew hown4).alloc _) ⟨w4.heap.size,0,none⟩ 2 2 [.int .u8 (((⟨#[48,49,50,51,52,53,54,55,56,57,97,98,99,100,101,102]⟩:ByteArray)[hi]'(by show hi < 16;exact h2n)).toNat:Int),.int .u8 (((⟨#[48,49,50,51,52,53,54,55,56,57,97,98,99,100,101,102]⟩:ByteArray)[lo]'(by show lo < 16;exact h4n)).toNat:Int)] (by rfl) (by rfl) (World.news_of_block (cs:=#[.int .u8 (((⟨#[48,49,50,51,52,53,54,55,56,57,97,98,99,100,101,102]⟩:ByteArray)[hi]'(by show hi < 16;exact h2n)).toNat:Int),.int .u8 (((⟨#[48,49,50,51,52,53,54,55,56,57,97,98,99,100,101,102]⟩:ByteArray)[lo]'(by show lo < 16;exact h4n)).toNat:Int)]) (t:=5) (fr:=(0,0)) (by first | exact heap_new _ _ | exact heap_alloc_new _ _)) (by simp [Value.oneCell']) (by omega) (by unfold maxLen;omega) (by omega) (by simp;omega) (w4.heap.size+1) (by simp) ?_;intro g5 cap5 w5 hown5 hgrow5 hat5 hlt5))
           all_goals
            go_wp2_with fail
            go_roundg k
            case measure=>omega
            case rel =>
             have he:escY c=[92,117,48,48,hexY hi,hexY lo]:=by
              have hcN:=HCN.out
              unfold escY
              rw [if_neg (by rintro (e | e) <;> (rw [e] at hcN;simp at hcN;omega)),if_neg (by intro e;rw [e] at hcN;simp at hcN;omega),if_neg (by intro e;rw [e] at hcN;simp at hcN;omega),if_neg (by intro e;rw [e] at hcN;simp at hcN;omega),if_neg (by intro e;rw [e] at hcN;simp at hcN;omega),if_neg (by intro e;rw [e] at hcN;simp at hcN;omega),if_pos (by simp only [UInt8.lt_iff_toNat_lt];rw [hcN];simpa using hlow),hcN,HHI.out,HLO.out]
             have hown5':=hown5
             rw [hexY_at h2n,hexY_at h4n] at hown5'
             obtain ⟨r1,r2,r3⟩:=HNX.out [92,117,48,48,hexY hi,hexY lo] w5 _ he (by simp) (by simpa [Lib.byteCells] using hown5')
             refine ⟨j+1,_,by omega,by go_num,?_,Lib.OthersKept.grown (Lib.OthersKept.drew (Lib.OthersKept.alloc (Lib.OthersKept.grown hok.out hgrow4 (wown_kind hown3)) _)) hgrow5 (wown_kind (World.ownsRow.drew (World.ownsRow.alloc hown4 _))),r2,r1,r3⟩
             have hb4:Below B w w4:=hb.grown hgrow4 (by omega) (fun q hq=>(hown3.lt q hq).1)
             exact ((hb4.alloc (by omega) _).trans (belowD _ _ 1)).grown hgrow5 (by simp;omega) (fun q hq=>(hown4.lt q hq).1)
  ·go_wp2_with (refine wpList_append_lies _ (by rfl) _ _ _ (by rfl) B 5 i0 _ 1 1 Tryz.underlying65 hi0 hz0 hz1 hz2 rfl (by omega) _ n (Lib.byteCells out ++ Lib.byteCells (strY s j)) (by rfl) (hown3.alloc _) ⟨wr.heap.size,0,none⟩ 1 1 [.int .u8 34] (by rfl) (by rfl) (World.news_of_block (cs:=#[.int .u8 34]) (t:=5) (fr:=(0,0)) (heap_new wr _)) (by simp [Value.oneCell']) (by omega) (by unfold maxLen;omega) (by omega) (by simp;omega) (wr.heap.size+1) (by simp) ?_;intro g3 cap3 w4 hown4 hgrow4 hat4 hlt4)
   go_ret
   have hjs:j=s.size:=by omega
   have ht:s.data.toList.take j=s.data.toList:=List.take_of_length_le (by rw [size_list];omega)
   have hq:quoteY s.data.toList=strY s j ++ [34]:=by unfold quoteY strY;rw [ht];simp
   refine ⟨_,rfl,?_,?_,Lib.OthersKept.grown (Lib.OthersKept.alloc hok.out _) hgrow4 (wown_kind (hown3.alloc _))⟩
   ·rw [hq,List.length_append,byteCells_append,← List.append_assoc]
    have:=hn.out
    rw [show out.length+((strY s j).length+([34]:List UInt8).length)=n+1 by simp;omega]
    exact hown4
   ·exact (hb.alloc (by omega) _).grown hgrow4 (by simp;omega) (fun q hq=>(hown3.lt q hq).1)
end Go.Proofs.Tryz
namespace Go.Proofs.Tryz
set_option maxHeartbeats 16000000
open Go.RowKit
set_option maxRecDepth 10000
def AppendsIntY:Prop:=∀ (B n:Nat) (i:Int) (sv:Value) (xs:List Value) (w:World),-9223372036854775808≤i→i≤9223372036854775807→w.ownsRow B 5 1 sv n xs→B≤w.heap.size→n+21≤140737488355328→Lib.TabBelow Tryz.prog B w "internal/strconv.uint64pow10" .u64 Lib.pow10Tab→
 Calls Tryz.prog 96 #[sv,.int .i64 i,.int .i64 10] w fun e w'=>∃ v',e = .returned v'∧w'.ownsRow B 5 1 v' (n+(Lib.itoa i).length) (xs ++ Lib.byteCells (Lib.itoa i))∧Below B w w'
def BegY (W:Nat) (out:Bs) (w:World) (e:Ending) (w':World):Prop:=e = .returned (.tuple #[])∧Below W w w'∧∃ ov,w'.heap[W]? = some (.cells #[ov,.slice none 0 0] 156 (0,0))∧w'.ownsRow (W+1) 5 1 ov out.length (Lib.byteCells out)
section
variable {w w1 : World} {W : Nat}
theorem begY {v':Value}{out:Bs} (hb:w.heap[W]? = some (.cells #[.slice none 0 0,.slice none 0 0] 156 (0,0))) (k1:Below (W+1) w w1) (hown1:w1.ownsRow (W+1) 5 1 v' out.length (Lib.byteCells out)) :
  BegY W out w (.returned (.tuple #[])) (w1.setCell ⟨W,0,none⟩ v'):=by
 have hb1:=(k1.block W (by omega)).trans hb
 refine ⟨rfl,⟨k1.os,k1.tape,k1.output,by simpa using k1.size,fun k hk=>?_⟩,v',wset hb1,?_⟩
 ·rw [Below.heap_setCell _ _ _ _ (by simp;omega)]
  exact k1.block k (by omega)
 ·exact owns_sameT hown1 (fun g e=>Below.heap_setCell _ _ _ _ (by have:=(hown1.lt g e).1;simp;omega))
theorem begY_str (s:ByteArray) (hs:s.size≤2000) (hb:w.heap[W]? = some (.cells #[.slice none 0 0,.slice none 0 0] 156 (0,0))) :
  Calls Tryz.prog 74 #[.pointer (some ⟨W,0,none⟩),.iface 201 (.string s)] w (BegY W (quoteY s.data.toList) w):=by
 obtain ⟨c0,c1,c2,c3,c4⟩:=wtwo hb
 have hown:w.ownsRow (W+1) 5 1 (.slice none 0 0) ([]:Bs).length (Lib.byteCells []):=World.ownsRow_nil _ _ _ _
 have m0:=missVNull;have m1:=missVNumber;have m2:=hitVString;have m3:=missVArray;have m4:=missVObject;have m5:=missVBool
 go_enter Tryz.func74,Tryz.ntmps74
 go_wp2_with (go_at_call 97;refine (appendString_y s (by omega) hown (by omega) (by simp)).mono ?_;rintro e w1 ⟨v',rfl,hown1,k1,hok⟩;obtain ⟨a',l',c',rfl⟩:=owns_shape hown1;obtain ⟨d0,d1,d2,d3,d4⟩:=wtwo ((k1.block W (by omega)).trans hb))
 go_end0
 exact begY hb k1 (by simpa [Lib.byteCells] using hown1)
theorem begY_num (hA:AppendsIntY) (n:Int) (h0 : -9223372036854775808≤n) (h1:n≤9223372036854775807) (hb:w.heap[W]? = some (.cells #[.slice none 0 0,.slice none 0 0] 156 (0,0))) (ht:Lib.TabBelow Tryz.prog (W+1) w "internal/strconv.uint64pow10" .u64 Lib.pow10Tab) :
  Calls Tryz.prog 74 #[.pointer (some ⟨W,0,none⟩),.iface 199 (.int .i64 n)] w (BegY W (Lib.itoa n) w):=by
 obtain ⟨c0,c1,c2,c3,c4⟩:=wtwo hb
 have hown:w.ownsRow (W+1) 5 1 (.slice none 0 0) 0 []:=World.ownsRow_nil _ _ _ _
 have m0:=missVNull;have m1:=hitVNumber;have m2:=missVString;have m3:=missVArray;have m4:=missVObject;have m5:=missVBool
 go_enter Tryz.func74,Tryz.ntmps74
 go_wp2_with (go_at_call 96;refine (hA (W+1) _ n _ _ _ h0 h1 hown (by omega) (by omega) ht).mono ?_;rintro e w1 ⟨v',rfl,hown1,k1⟩;obtain ⟨a',l',c',rfl⟩:=owns_shape hown1;obtain ⟨d0,d1,d2,d3,d4⟩:=wtwo ((k1.block W (by omega)).trans hb))
 go_end0
 exact begY hb k1 (by simpa using hown1)
def boolY (b:Bool):Bs:=if b then [116,114,117,101] else [102,97,108,115,101]
theorem iAppendBool_y (b:Bool) {B:Nat} (hB:B≤w.heap.size) :
  Calls Tryz.prog 114 #[.slice none 0 0,.bool b] w fun e w'=>∃ v',e = .returned v'∧w'.ownsRow B 5 1 v' (boolY b).length (Lib.byteCells (boolY b))∧Below B w w':=by
 obtain ⟨i0,hi0,hz0,hz1,hz2⟩:=info_parts (show (Tryz.prog.info? 5).map (fun i=>(i.zero,i.size,i.bytes))=some (some (.int .u8 0),1,1) by kernel_rfl)
 have hown:w.ownsRow B 5 1 (.slice none 0 0) 0 []:=World.ownsRow_nil _ _ _ _
 cases b with
 | true =>
  go_enter Tryz.func114,Tryz.ntmps114
  go_wp2_with (refine Lib.wpList_append_own_string _ (by rfl) _ _ 65 9 (by rfl) B 5 i0 Tryz.underlying65 Tryz.underlying9 hi0 hz0 hz1 hz2 _ 0 [] (by rfl) hown ⟨#[116,114,117,101]⟩ (by rfl) (by unfold maxLen;simp [ByteArray.size]) (by simp [ByteArray.size]) hB ?_;intro v' w1 hown1 hgrow1 _;obtain ⟨a',l',c',rfl⟩:=owns_shape hown1)
  go_ret
  exact ⟨_,rfl,hown1,(Below.refl B w).grown hgrow1 hB (fun q hq=>(hown.lt q hq).1)⟩
 | false =>
  go_enter Tryz.func114,Tryz.ntmps114
  go_wp2_with (refine Lib.wpList_append_own_string _ (by rfl) _ _ 65 9 (by rfl) B 5 i0 Tryz.underlying65 Tryz.underlying9 hi0 hz0 hz1 hz2 _ 0 [] (by rfl) hown ⟨#[102,97,108,115,101]⟩ (by rfl) (by unfold maxLen;simp [ByteArray.size]) (by simp [ByteArray.size]) hB ?_;intro v' w1 hown1 hgrow1 _;obtain ⟨a',l',c',rfl⟩:=owns_shape hown1)
  go_ret
  exact ⟨_,rfl,hown1,(Below.refl B w).grown hgrow1 hB (fun q hq=>(hown.lt q hq).1)⟩
theorem AppendBool_y (b:Bool) {B:Nat} (hB:B≤w.heap.size) :
  Calls Tryz.prog 95 #[.slice none 0 0,.bool b] w fun e w'=>∃ v',e = .returned v'∧w'.ownsRow B 5 1 v' (boolY b).length (Lib.byteCells (boolY b))∧Below B w w':=by
 go_enter Tryz.func95,Tryz.ntmps95
 go_wp2_with (go_at_call 114;refine (iAppendBool_y b hB).mono ?_;rintro e w1 ⟨v',rfl,hown1,k1⟩;obtain ⟨a',l',c',rfl⟩:=owns_shape hown1)
 go_ret
 exact ⟨_,rfl,hown1,k1⟩
theorem begY_bool (b:Bool) (hb:w.heap[W]? = some (.cells #[.slice none 0 0,.slice none 0 0] 156 (0,0))) :
  Calls Tryz.prog 74 #[.pointer (some ⟨W,0,none⟩),.iface 197 (.bool b)] w (BegY W (boolY b) w):=by
 obtain ⟨c0,c1,c2,c3,c4⟩:=wtwo hb
 have m0:=missVNull;have m1:=missVNumber;have m2:=missVString;have m3:=missVArray;have m4:=missVObject;have m5:=hitVBool
 go_enter Tryz.func74,Tryz.ntmps74
 go_wp2_with (go_at_call 95;refine (AppendBool_y (B:=W+1) b (by omega)).mono ?_;rintro e w1 ⟨v',rfl,hown1,k1⟩;obtain ⟨a',l',c',rfl⟩:=owns_shape hown1;obtain ⟨d0,d1,d2,d3,d4⟩:=wtwo ((k1.block W (by omega)).trans hb))
 go_end0
 exact begY hb k1 hown1
theorem begY_null (hb:w.heap[W]? = some (.cells #[.slice none 0 0,.slice none 0 0] 156 (0,0))) :
  Calls Tryz.prog 74 #[.pointer (some ⟨W,0,none⟩),.iface 196 (.agg #[])] w (BegY W [110,117,108,108] w):=by
 obtain ⟨i0,hi0,hz0,hz1,hz2⟩:=info_parts (show (Tryz.prog.info? 5).map (fun i=>(i.zero,i.size,i.bytes))=some (some (.int .u8 0),1,1) by kernel_rfl)
 obtain ⟨c0,c1,c2,c3,c4⟩:=wtwo hb
 have hle:W+1≤w.heap.size:=c4
 have hown:w.ownsRow (W+1) 5 1 (.slice none 0 0) 0 []:=World.ownsRow_nil _ _ _ _
 have m0:=hitVNull;have m1:=missVNumber;have m2:=missVString;have m3:=missVArray;have m4:=missVObject;have m5:=missVBool
 go_enter Tryz.func74,Tryz.ntmps74
 go_wp2_with (refine Lib.wpList_append_own_string _ (by rfl) _ _ 65 9 (by rfl) (W+1) 5 i0 Tryz.underlying65 Tryz.underlying9 hi0 hz0 hz1 hz2 _ 0 [] (by rfl) (by first | exact hown | exact hown.alloc _) ⟨#[110,117,108,108]⟩ (by rfl) (by unfold maxLen;simp [ByteArray.size]) (by simp [ByteArray.size]) (by first | exact hle | (simp;omega)) ?_;intro v' w1 hown1 hgrow1 _;obtain ⟨a',l',c',rfl⟩:=owns_shape hown1;have k1:Below (W+1) w w1:=(by first | exact (Below.refl (W+1) w).grown hgrow1 hle (fun q hq=>(hown.lt q hq).1) | exact ((Below.refl (W+1) w).alloc hle _).grown hgrow1 (by simp;omega) (fun q hq=>(hown.lt q hq).1));obtain ⟨d0,d1,d2,d3,d4⟩:=wtwo ((k1.block W (by omega)).trans hb))
 go_end0
 exact begY hb k1 hown1
theorem CanonY {T:Nat}{u:Value}{out:Bs} (hne:out≠[]) (hbe:Calls Tryz.prog 74 #[.pointer (some ⟨w.heap.size,0,none⟩),.iface T u] (w.alloc (.cells #[.slice none 0 0,.slice none 0 0] 156)) (BegY w.heap.size out (w.alloc (.cells #[.slice none 0 0,.slice none 0 0] 156)))) :
  Calls Tryz.prog 42 #[.iface T u] w fun e w'=>e = .returned (.string ⟨out.toArray⟩)∧Below w.heap.size w w':=by
 go_enter Tryz.func42,Tryz.ntmps42
 go_wp2_with (go_at_call 74;refine hbe.mono ?_;rintro e w1 ⟨rfl,hk,ov,hb,hown⟩;obtain ⟨c0,c1,c2,c3,c4⟩:=wtwo hb;obtain ⟨g,c,rfl,hc⟩:=owns_bytes hown hne;have hcv:=run_convert_bytes_back (P:=Tryz.prog) w1 65 9 5 ⟨g,0,none⟩ c out Tryz.underlying65 Tryz.underlying5 Tryz.underlying9 hc)
 refine wp_loop_rounds 1 ?_
 rw [rounds_succ]
 go_wp2_with fail
 go_ret
 exact ⟨rfl,(below_alloc w _).trans hk⟩
theorem itoaY_ne (n:Int):Lib.itoa n≠[]:=by
 unfold Lib.itoa
 split
 ·simp
 ·rw [Lib.decDigits]
  split <;> simp
theorem Canon_lit (hA:AppendsIntY) {v:Nat×Int×ByteArray} (hv:GVal v) (ht:Lib.TabBelow Tryz.prog w.heap.size w "internal/strconv.uint64pow10" .u64 Lib.pow10Tab) :
  Calls Tryz.prog 42 #[valV v] w fun e w'=>e = .returned (.string ⟨(litB v).toArray⟩)∧Below w.heap.size w w':=by
 obtain ⟨k,n,x⟩:=v
 obtain ⟨hk,hd,hs⟩:=hv
 have hk:k≤4:=hk
 have hb:(w.alloc (.cells #[.slice none 0 0,.slice none 0 0] 156)).heap[w.heap.size]? = some (.cells #[.slice none 0 0,.slice none 0 0] 156 (0,0)):=heap_new _ _
 match k,hk with
 | 0,_=>exact CanonY (out:=[110,117,108,108]) (by simp) (begY_null hb)
 | 1,_=>exact CanonY (out:=boolY false) (by simp [boolY]) (begY_bool false hb)
 | 2,_=>exact CanonY (out:=boolY true) (by simp [boolY]) (begY_bool true hb)
 | 3,_ =>
  have hr:0≤digN x∧digN x < 1000000000000000000:=digN_range (hd rfl).2.1 (hd rfl).2.2
  exact CanonY (itoaY_ne _) (begY_num hA (digN x) (by omega) (by omega) hb (fun w2 h2=>ht w2 ((below_alloc w _).trans (h2.mono (by omega)))))
 | 4,_=>exact CanonY (out:=quoteY x.data.toList) (by simp [quoteY]) (begY_str x (hs rfl) hb)
end
end Go.Proofs.Tryz
namespace Go.Proofs.Tryz
set_option maxHeartbeats 16000000
open Go.RowKit
set_option maxRecDepth 10000
theorem all1 {a:Tn} (h:Gdt a):∀ t∈[a],Gdt t:=fun t ht=>by rw [List.mem_singleton.1 ht];exact h
theorem all2 {a b:Tn} (h1:Gdt a) (h2:Gdt b):∀ t∈[a,b],Gdt t:=fun t ht=>by
 rcases List.mem_cons.1 ht with rfl | ht
 ·exact h1
 ·exact all1 h2 t ht
theorem all3 {a b c:Tn} (h1:Gdt a) (h2:Gdt b) (h3:Gdt c):∀ t∈[a,b,c],Gdt t:=fun t ht=>by
 rcases List.mem_cons.1 ht with rfl | ht
 ·exact h1
 ·exact all2 h2 h3 t ht
theorem all4 {a b c d:Tn} (h1:Gdt a) (h2:Gdt b) (h3:Gdt c) (h4:Gdt d):∀ t∈[a,b,c,d],Gdt t:=fun t ht=>by
 rcases List.mem_cons.1 ht with rfl | ht
 ·exact h1
 ·exact all3 h2 h3 h4 t ht
section
variable {P : Ps} {l l' : List Tok} {t : Tn}
theorem filter_good (hP:GoodP P) (hl:AG l) (h:filterS P l = .ok (t,l')):Stp l l' (lenL (toksT t))∧Gdt t:=by
 unfold filterS at h
 split at h
 ·rename_i l1 e
  have a0:=acc_stp hl e
  unfold defS at h
  obtain ⟨t1,l2,h1,h⟩:=thn_ok h
  obtain ⟨ps,l3,h2,h⟩:=thn_ok h
  obtain ⟨_,l4,h3,h⟩:=thn_ok h
  obtain ⟨b,l5,h4,h⟩:=thn_ok h
  obtain ⟨_,l6,h5,h⟩:=thn_ok h
  obtain ⟨r,l7,h6,h⟩:=thn_ok h
  obtain ⟨a1,hT,hk⟩:=exk_stp a0.ag h1
  obtain ⟨a2,hG,hN⟩:=params_stp a1.ag h2
  have a3:=exq_stp a2.ag h3
  obtain ⟨a4,g4⟩:=hP _ _ _ _ a3.ag h4
  have a5:=exq_stp a4.ag h5
  obtain ⟨a6,g6⟩:=hP _ _ _ _ a5.ag h6
  have:=a0.lt;have:=a0.le;have:=a1.lt;have:=a1.le;have:=a2.lt;have:=a2.le;have:=a3.lt;have:=a3.le;have:=a4.lt;have:=a4.le;have:=a5.lt;have:=a5.le;have:=a6.lt;have:=a6.le
  have hlen:=len20 { Pyl.none with name:=t1.text,names:=ps } b r
  have hlen:_≤lenL (toksT b)+lenL (toksT r)+t1.text.size+(lenL (ps.map fun n=>n.data.toList)+2 * ps.length+(if 0 < ps.length then 2 else 0))+13:=hlen
  have h3000:=hl.2
  cases h
  exact ⟨⟨a6.ag,by omega,by omega⟩,Gdt.mk ⟨rfl,by simp,by show ps.length≤3000;omega,Int.le_refl _,fun _=>hT.name (.inl hk),(fun e=>by cases e),fun _=>hG,(fun e=>by cases e),(fun e=>by cases e)⟩ (all2 g4 g6)⟩
 ·exact hP _ _ _ _ hl h
theorem source_good (hP:GoodP P) {x:Tn×ByteArray} (hl:AG l) (h:sourceS P l = .ok (x,l')):Stp l l' (lenL (toksT x.1)+6 * x.2.size+120)∧Gdt x.1∧GNm x.2:=by
 unfold sourceS at h
 obtain ⟨f,l2,h1,h⟩:=thn_ok h
 obtain ⟨_,l3,h2,h⟩:=thn_ok h
 obtain ⟨t1,l4,h3,h⟩:=thn_ok h
 obtain ⟨_,l5,h4,h⟩:=thn_ok h
 obtain ⟨a1,g1⟩:=hP _ _ _ _ hl h1
 have a2:=exq_stp a1.ag h2
 obtain ⟨a3,hT,hk⟩:=exk_stp a2.ag h3
 have a4:=exq_stp a3.ag h4
 have:=a1.lt;have:=a1.le;have:=a2.lt;have:=a2.le;have:=a3.lt;have:=a3.le;have:=a4.lt;have:=a4.le
 cases h
 exact ⟨⟨a4.ag,by omega,by show lenL (toksT f)+6 * t1.text.size+120+wL l'≤wL l;omega⟩,g1,hT.name (.inr hk)⟩
theorem minus_good (hP:GoodP P) (hl:AG l) (h:minusS P l = .ok (t,l')):Stp l l' (lenL (toksT t))∧Gdt t:=by
 unfold minusS at h
 split at h
 ·rename_i l1 e
  have a0:=acc_stp hl e
  obtain ⟨a,l2,h1,h⟩:=thn_ok h
  obtain ⟨a1,g1⟩:=hP _ _ _ _ a0.ag h1
  have:=a0.lt;have:=a0.le;have:=a1.lt;have:=a1.le
  have hlen:=len13 Pyl.none a
  cases h
  exact ⟨⟨a1.ag,by omega,by omega⟩,Gdt.mk (.plain rfl (by simp) (by simp [Pyl.none]) (Int.le_refl _) (by decide) (no_name (by decide))) (all1 g1)⟩
 ·unfold boundS at h
  split at h
  ·rename_i l1 e
   have a0:=acc_stp hl e
   unfold labelS at h
   obtain ⟨t1,l2,h1,h⟩:=thn_ok h
   obtain ⟨_,l3,h2,h⟩:=thn_ok h
   obtain ⟨b,l4,h3,h⟩:=thn_ok h
   obtain ⟨a1,hT,hk⟩:=exk_stp a0.ag h1
   have a2:=exq_stp a1.ag h2
   obtain ⟨a3,g3⟩:=hP _ _ _ _ a2.ag h3
   have:=a0.lt;have:=a0.le;have:=a1.lt;have:=a1.le;have:=a2.lt;have:=a2.le;have:=a3.lt;have:=a3.le
   have hlen:=len17 { Pyl.none with name:=t1.text } b
   have hlen:_≤lenL (toksT b)+t1.text.size+14:=hlen
   cases h
   exact ⟨⟨a3.ag,by omega,by omega⟩,Gdt.mk (.plain rfl (by simp) (by simp [Pyl.none]) (Int.le_refl _) (by decide) (fun _=>hT.name (.inr hk))) (all1 g3)⟩
  ·split at h
   ·rename_i l1 e
    have a0:=acc_stp hl e
    unfold tryS at h
    obtain ⟨b,l2,h1,h⟩:=thn_ok h
    obtain ⟨a1,g1⟩:=hP _ _ _ _ a0.ag h1
    have:=a0.lt;have:=a0.le;have:=a1.lt;have:=a1.le
    split at h
    ·have hlen:=len14 Pyl.none b
     cases h
     exact ⟨⟨a1.ag,by omega,by omega⟩,Gdt.mk (.plain (.inl rfl) (by simp) (by simp [Pyl.none]) (Int.le_refl _) (by decide) (no_name (by decide))) (all1 g1)⟩
    ·rename_i l3 e2
     have a2:=acc_stp a1.ag e2
     obtain ⟨c,l4,h3,h⟩:=thn_ok h
     obtain ⟨a3,g3⟩:=hP _ _ _ _ a2.ag h3
     have:=a2.lt;have:=a2.le;have:=a3.lt;have:=a3.le
     have hlen:=len14' Pyl.none b c
     cases h
     exact ⟨⟨a3.ag,by omega,by omega⟩,Gdt.mk (.plain (.inr rfl) (by simp) (by simp [Pyl.none]) (Int.le_refl _) (by decide) (no_name (by decide))) (all2 g1 g3)⟩
   ·split at h
    ·rename_i l1 e
     have a0:=acc_stp hl e
     unfold reduceS at h
     obtain ⟨x,l2,h1,h⟩:=thn_ok h
     obtain ⟨a,l3,h2,h⟩:=thn_ok h
     obtain ⟨_,l4,h3,h⟩:=thn_ok h
     obtain ⟨b,l5,h4,h⟩:=thn_ok h
     obtain ⟨_,l6,h5,h⟩:=thn_ok h
     obtain ⟨a1,g1,hN⟩:=source_good hP a0.ag h1
     obtain ⟨a2,g2⟩:=hP _ _ _ _ a1.ag h2
     have a3:=exq_stp a2.ag h3
     obtain ⟨a4,g4⟩:=hP _ _ _ _ a3.ag h4
     have a5:=exq_stp a4.ag h5
     have:=a0.lt;have:=a0.le;have:=a1.lt;have:=a1.le;have:=a2.lt;have:=a2.le;have:=a3.lt;have:=a3.le;have:=a4.lt;have:=a4.le;have:=a5.lt;have:=a5.le
     have hlen:=len18 { Pyl.none with name:=x.2 } x.1 a b
     have hlen:_≤lenL (toksT x.1)+lenL (toksT a)+lenL (toksT b)+x.2.size+24:=hlen
     cases h
     exact ⟨⟨a5.ag,by omega,by omega⟩,Gdt.mk (.plain rfl (by simp) (by simp [Pyl.none]) (Int.le_refl _) (by decide) (fun _=>hN)) (all3 g1 g2 g4)⟩
    ·split at h
     ·rename_i l1 e
      have a0:=acc_stp hl e
      unfold foreachS at h
      obtain ⟨x,l2,h1,h⟩:=thn_ok h
      obtain ⟨a,l3,h2,h⟩:=thn_ok h
      obtain ⟨_,l4,h3,h⟩:=thn_ok h
      obtain ⟨b,l5,h4,h⟩:=thn_ok h
      obtain ⟨_,l6,h5,h⟩:=thn_ok h
      obtain ⟨c,l7,h6,h⟩:=thn_ok h
      obtain ⟨_,l8,h7,h⟩:=thn_ok h
      obtain ⟨a1,g1,hN⟩:=source_good hP a0.ag h1
      obtain ⟨a2,g2⟩:=hP _ _ _ _ a1.ag h2
      have a3:=exq_stp a2.ag h3
      obtain ⟨a4,g4⟩:=hP _ _ _ _ a3.ag h4
      have a5:=exq_stp a4.ag h5
      obtain ⟨a6,g6⟩:=hP _ _ _ _ a5.ag h6
      have a7:=exq_stp a6.ag h7
      have:=a0.lt;have:=a0.le;have:=a1.lt;have:=a1.le;have:=a2.lt;have:=a2.le;have:=a3.lt;have:=a3.le;have:=a4.lt;have:=a4.le;have:=a5.lt;have:=a5.le;have:=a6.lt;have:=a6.le;have:=a7.lt;have:=a7.le
      have hlen:=len19 { Pyl.none with name:=x.2 } x.1 a b c
      have hlen:_≤lenL (toksT x.1)+lenL (toksT a)+lenL (toksT b)+lenL (toksT c)+x.2.size+28:=hlen
      cases h
      exact ⟨⟨a7.ag,by omega,by omega⟩,Gdt.mk (.plain rfl (by simp) (by simp [Pyl.none]) (Int.le_refl _) (by decide) (fun _=>hN)) (all4 g1 g2 g4 g6)⟩
     ·split at h
      ·rename_i l1 e
       have a0:=acc_stp hl e
       unfold ifS at h
       obtain ⟨a,l2,h1,h⟩:=thn_ok h
       obtain ⟨_,l3,h2,h⟩:=thn_ok h
       obtain ⟨b,l4,h3,h⟩:=thn_ok h
       obtain ⟨_,l5,h4,h⟩:=thn_ok h
       obtain ⟨c,l6,h5,h⟩:=thn_ok h
       obtain ⟨_,l7,h6,h⟩:=thn_ok h
       obtain ⟨a1,g1⟩:=hP _ _ _ _ a0.ag h1
       have a2:=exq_stp a1.ag h2
       obtain ⟨a3,g3⟩:=hP _ _ _ _ a2.ag h3
       have a4:=exq_stp a3.ag h4
       obtain ⟨a5,g5⟩:=hP _ _ _ _ a4.ag h5
       have a6:=exq_stp a5.ag h6
       have:=a0.lt;have:=a0.le;have:=a1.lt;have:=a1.le;have:=a2.lt;have:=a2.le;have:=a3.lt;have:=a3.le;have:=a4.lt;have:=a4.le;have:=a5.lt;have:=a5.le;have:=a6.lt;have:=a6.le
       have hlen:=len15 Pyl.none a b c
       cases h
       exact ⟨⟨a6.ag,by omega,by omega⟩,Gdt.mk (.plain rfl (by simp) (by simp [Pyl.none]) (Int.le_refl _) (by decide) (no_name (by decide))) (all3 g1 g3 g5)⟩
      ·unfold bindS at h
       obtain ⟨f,l2,h1,h⟩:=thn_ok h
       obtain ⟨a1,g1⟩:=hP _ _ _ _ hl h1
       have:=a1.lt;have:=a1.le
       split at h
       ·cases h
        exact ⟨a1,g1⟩
       ·rename_i l3 e2
        have a2:=acc_stp a1.ag e2
        obtain ⟨t1,l4,h3,h⟩:=thn_ok h
        obtain ⟨_,l5,h4,h⟩:=thn_ok h
        obtain ⟨b,l6,h5,h⟩:=thn_ok h
        obtain ⟨a3,hT,hk⟩:=exk_stp a2.ag h3
        have a4:=exq_stp a3.ag h4
        obtain ⟨a5,g5⟩:=hP _ _ _ _ a4.ag h5
        have:=a2.lt;have:=a2.le;have:=a3.lt;have:=a3.le;have:=a4.lt;have:=a4.le;have:=a5.lt;have:=a5.le
        have hlen:=len16 { Pyl.none with name:=t1.text } f b
        have hlen:_≤lenL (toksT f)+lenL (toksT b)+t1.text.size+15:=hlen
        cases h
        exact ⟨⟨a5.ag,by omega,by omega⟩,Gdt.mk (.plain rfl (by simp) (by simp [Pyl.none]) (Int.le_refl _) (by decide) (fun _=>hT.name (.inr hk))) (all2 g1 g5)⟩
theorem after_good (hP:GoodP P):∀ (m:Nat) (f:Tn) (l:List Tok) (t:Tn) (l':List Tok),AG l→Gdt f→afterS P m f l = .ok (t,l')→AG l'∧l'.length≤l.length∧lenL (toksT t)+wL l'≤wL l+lenL (toksT f)∧Gdt t
 | 0,f,l,t,l',_,_,h=>by cases h
 | m+1,f,l,t,l',hl,hf,h=>by
  rw [afterS] at h
  split at h
  ·rename_i l1 e
   have a0:=acc_stp hl e
   obtain ⟨t1,l2,h1,h⟩:=thn_ok h
   obtain ⟨a1,hT,hk⟩:=exk_stp a0.ag h1
   have:=a0.lt;have:=a0.le;have:=a1.lt;have:=a1.le
   have hlen:=len5 { Pyl.none with name:=t1.text } f
   have hlen:_≤lenL (toksT f)+t1.text.size+7:=hlen
   have hg:Gdt (nd 5 { Pyl.none with name:=t1.text } [f]):=Gdt.mk (.plain rfl (by simp) (by simp [Pyl.none]) (Int.le_refl _) (by decide) (fun _=>hT.name (.inl hk))) (all1 hf)
   obtain ⟨b1,b2,b3,b4⟩:=after_good hP m _ _ _ _ a1.ag hg h
   exact ⟨b1,by omega,by omega,b4⟩
  ·split at h
   ·rename_i l1 e
    have a0:=acc_stp hl e
    have:=a0.lt;have:=a0.le
    split at h
    ·rename_i l2 e2
     have a1:=acc_stp a0.ag e2
     have:=a1.lt;have:=a1.le
     have hlen:=len7 Pyl.none f
     have hg:Gdt (nd 7 Pyl.none [f]):=Gdt.mk (.plain rfl (by simp) (by simp [Pyl.none]) (Int.le_refl _) (by decide) (no_name (by decide))) (all1 hf)
     obtain ⟨b1,b2,b3,b4⟩:=after_good hP m _ _ _ _ a1.ag hg h
     exact ⟨b1,by omega,by omega,b4⟩
    ·obtain ⟨b,l2,h1,h⟩:=thn_ok h
     obtain ⟨_,l3,h2,h⟩:=thn_ok h
     obtain ⟨a1,g1⟩:=hP _ _ _ _ a0.ag h1
     have a2:=exq_stp a1.ag h2
     have:=a1.lt;have:=a1.le;have:=a2.lt;have:=a2.le
     have hlen:=len6 Pyl.none f b
     have hg:Gdt (nd 6 Pyl.none [f,b]):=Gdt.mk (.plain rfl (by simp) (by simp [Pyl.none]) (Int.le_refl _) (by decide) (no_name (by decide))) (all2 hf g1)
     obtain ⟨b1,b2,b3,b4⟩:=after_good hP m _ _ _ _ a2.ag hg h
     exact ⟨b1,by omega,by omega,b4⟩
   ·split at h
    ·rename_i l1 e
     have a0:=acc_stp hl e
     have:=a0.lt;have:=a0.le
     have hlen:=len8 Pyl.none f
     have hg:Gdt (nd 8 Pyl.none [f]):=Gdt.mk (.plain rfl (by simp) (by simp [Pyl.none]) (Int.le_refl _) (by decide) (no_name (by decide))) (all1 hf)
     obtain ⟨b1,b2,b3,b4⟩:=after_good hP m _ _ _ _ a0.ag hg h
     exact ⟨b1,by omega,by omega,b4⟩
    ·cases h
     exact ⟨hl,Nat.le_refl _,by omega,hf⟩
theorem postfix_good (hP:GoodP P) (hl:AG l) (h:postfixS P l = .ok (t,l')):Stp l l' (lenL (toksT t))∧Gdt t:=by
 unfold postfixS at h
 obtain ⟨f,l1,h1,h⟩:=thn_ok h
 obtain ⟨a1,g1⟩:=hP _ _ _ _ hl h1
 obtain ⟨b1,b2,b3,b4⟩:=after_good hP _ _ _ _ _ a1.ag g1 h
 have:=a1.lt;have:=a1.le
 exact ⟨⟨b1,by omega,by omega⟩,b4⟩
theorem args_good (hP:GoodP P):∀ (m:Nat) (l:List Tok) (x:List Tn) (l1:List Tok),AG l→argsS P m l = .ok (x,l1)→AG l1∧x.length+l1.length≤l.length∧sumK x+2 * x.length+wL l1≤wL l∧∀ t∈x,Gdt t
 | 0,l,x,l1,_,h=>by cases h
 | m+1,l,x,l1,hl,h=>by
  rw [argsS] at h
  split at h
  ·cases h
   exact ⟨hl,by simp,by simp [sumK],fun t ht=>by simp at ht⟩
  ·rename_i l2 e
   have a0:=acc_stp hl e
   obtain ⟨a,l3,h1,h⟩:=thn_ok h
   obtain ⟨az,l4,h2,h⟩:=thn_ok h
   obtain ⟨a1,g1⟩:=hP _ _ _ _ a0.ag h1
   obtain ⟨b1,b2,b3,b4⟩:=args_good hP m _ _ _ a1.ag h2
   have:=a0.lt;have:=a0.le;have:=a1.lt;have:=a1.le
   cases h
   have e2:sumK (a :: az)=lenL (toksT a)+sumK az:=by simp [sumK]
   refine ⟨b1,by simp only [List.length_cons];omega,by rw [e2];simp only [List.length_cons];omega,fun t ht=>?_⟩
   rcases List.mem_cons.1 ht with rfl | ht
   ·exact g1
   ·exact b4 t ht
theorem member_good (hP:GoodP P) {m:Mem} (hl:AG l) (h:memberS P l = .ok (m,l')):Stp l l' (costM m+40)∧MemOk m∧Gdt m.2.2.1∧Gdt m.2.2.2:=by
 unfold memberS at h
 obtain ⟨k,l2,h1,h⟩:=thn_ok h
 obtain ⟨_,l3,h2,h⟩:=thn_ok h
 obtain ⟨v,l4,h3,h⟩:=thn_ok h
 have a1:Stp l l2 (lenL (keyT (memNm (k.1,k.2.1,k.2.2,v)) (toksT k.2.2))+10)∧MemOk (k.1,k.2.1,k.2.2,v)∧Gdt k.2.2:=by
  unfold keyS at h1
  split at h1
  ·rename_i t1 u m
   have hT:=hl.1 _ (.head _)
   split at h1
   ·rename_i hk
    cases h1
    have hG:=hT.name (.inl hk)
    have e:keyT t1.text (toksT (litT (4,0,t1.text)))=[t1.text.data.toList]:=by
     have hn:=name_ne hG.2.1
     unfold keyT
     rw [if_neg hn.1,if_neg hn.2]
    refine ⟨⟨hl.tail,by simp,?_⟩,.inr (.inl ⟨rfl,hG,rfl⟩),(lit_good ⟨by show (4:Nat)≤4;decide,(fun e=>by cases e),fun _=>hT.ok.size⟩).1⟩
    show lenL (keyT t1.text (toksT (litT (4,0,t1.text))))+10+_≤_
    rw [e,wL_cons t1]
    simp only [lenL_cons,lenL_nil,bsize]
    omega
   ·split at h1
    ·cases h1
     have hG:GVal (4,0,t1.text):=⟨by show (4:Nat)≤4;decide,(fun e=>by cases e),fun _=>hT.ok.size⟩
     have hg:=lit_good hG
     refine ⟨⟨hl.tail,by simp,?_⟩,.inr (.inr ⟨rfl,rfl⟩),hg.1⟩
     show lenL (toksT (litT (4,0,t1.text)))+10+_≤_
     have:=hg.2
     have:lenL (toksT (litT (4,0,t1.text)))≤6 * t1.text.size+23:=this
     rw [wL_cons t1]
     omega
    ·obtain ⟨_,k1,b1,h1⟩:=thn_ok h1
     obtain ⟨f,k2,b2,h1⟩:=thn_ok h1
     obtain ⟨_,k3,b3,h1⟩:=thn_ok h1
     have c1:=exq_stp hl b1
     obtain ⟨c2,g2⟩:=hP _ _ _ _ c1.ag b2
     have c3:=exq_stp c2.ag b3
     have:=c1.lt;have:=c1.le;have:=c2.lt;have:=c2.le;have:=c3.lt;have:=c3.le
     cases h1
     refine ⟨⟨c3.ag,by omega,?_⟩,.inl rfl,g2⟩
     show lenL (brk (toksT f))+10+_≤_
     rw [lenL_brk]
     omega
  ·cases h1
 obtain ⟨a1,hM,g1⟩:=a1
 have a2:=exq_stp a1.ag h2
 obtain ⟨a3,g3⟩:=hP _ _ _ _ a2.ag h3
 have:=a1.lt;have:=a1.le;have:=a2.lt;have:=a2.le;have:=a3.lt;have:=a3.le
 cases h
 refine ⟨⟨a3.ag,by omega,?_⟩,hM,g1,g3⟩
 show lenL (keyT (memNm (k.1,k.2.1,k.2.2,v)) (toksT k.2.2))+lenL (toksT v)+4+40+_≤_
 omega
theorem members_good (hP:GoodP P):∀ (m:Nat) (l:List Tok) (x:List Mem) (l1:List Tok),AG l→membersS P m l = .ok (x,l1)→AG l1∧x.length+l1.length≤l.length∧(x.map costM).sum+wL l1≤wL l∧∀ m∈x,MemOk m∧Gdt m.2.2.1∧Gdt m.2.2.2
 | 0,l,x,l1,_,h=>by cases h
 | m+1,l,x,l1,hl,h=>by
  rw [membersS] at h
  split at h
  ·cases h
   exact ⟨hl,by simp,by simp,fun t ht=>by simp at ht⟩
  ·rename_i l2 e
   have a0:=acc_stp hl e
   obtain ⟨a,l3,h1,h⟩:=thn_ok h
   obtain ⟨az,l4,h2,h⟩:=thn_ok h
   obtain ⟨a1,g1⟩:=member_good hP a0.ag h1
   obtain ⟨b1,b2,b3,b4⟩:=members_good hP m _ _ _ a1.ag h2
   have:=a0.lt;have:=a0.le;have:=a1.lt;have:=a1.le
   cases h
   refine ⟨b1,by simp only [List.length_cons];omega,by simp only [List.map_cons,List.sum_cons];omega,fun t ht=>?_⟩
   rcases List.mem_cons.1 ht with rfl | ht
   ·exact g1
   ·exact b4 t ht
theorem litw_good {k:Nat} (hk:k≤2) {l l1:List Tok} (a:Stp l l1 40):Stp l l1 (lenL (toksT (litT (k,0,⟨#[]⟩))))∧Gdt (litT (k,0,⟨#[]⟩)):=by
 obtain ⟨h1,h2⟩:=lit_good (v:=(k,0,⟨#[]⟩)) ⟨by show k≤4;omega,(fun e=>by have e:k=3:=e;omega),fun _=>by show (⟨#[]⟩:ByteArray).size≤2000;decide⟩
 have h2:lenL (toksT (litT (k,0,⟨#[]⟩)))≤23:=h2
 have:=a.le
 exact ⟨⟨a.ag,a.lt,by omega⟩,h1⟩
theorem build_stp (hP:GoodP P) (hl:AG l) (h:buildS P l = .ok (t,l')):AG l'∧l'.length≤l.length∧lenL (toksT t)+wL l'≤wL l+4∧Gdt t:=by
 have h3000:=hl.2
 unfold buildS at h
 split at h
 ·rename_i l2 e2
  have a1:=acc_stp hl e2
  have:=a1.lt;have:=a1.le
  cases h
  obtain ⟨b1,b2⟩:=build_good (ms:=[]) (fun m hm=>by simp at hm) (by simp)
  simp only [List.map_nil,List.sum_nil] at b2
  exact ⟨a1.ag,by omega,by omega,b1⟩
 ·obtain ⟨a,l2,h1,h⟩:=thn_ok h
  obtain ⟨az,l3,h2,h⟩:=thn_ok h
  obtain ⟨_,l4,h3,h⟩:=thn_ok h
  obtain ⟨a1,g1⟩:=member_good hP hl h1
  obtain ⟨b1,b2,b3,b4⟩:=members_good hP _ _ _ _ a1.ag h2
  have a3:=exq_stp b1 h3
  have:=a1.lt;have:=a1.le;have:=a3.lt;have:=a3.le
  cases h
  obtain ⟨c1,c2⟩:=build_good (ms:=a :: az) (fun m hm=>by
   rcases List.mem_cons.1 hm with rfl | hm
   ·exact g1
   ·exact b4 m hm) (by simp only [List.length_cons];omega)
  simp only [List.map_cons,List.sum_cons] at c2
  exact ⟨a3.ag,by omega,by omega,c1⟩
theorem leaf_good {k:Nat}{y:Pyl} (h1:cntOk k 0 y.names.length) (h2:y.names.length≤3000) (h3:0≤y.num) (h4:k≠2∧k≠10∧k≠12∧k≠20) (h5:nameK k=true→GNm y.name):Gdt (nd k y []) :=
 Gdt.mk (.plain h1 (by simp) h2 h3 h4 h5) (fun t ht=>by simp at ht)
theorem ident_good:Gdt identT:=leaf_good rfl (by simp [Pyl.none]) (Int.le_refl _) (by decide) (no_name (by decide))
theorem wordy_good (hl:AG l) (h:wordyS l = .ok (t,l')):Stp l l' (lenL (toksT t))∧Gdt t:=by
 unfold wordyS at h
 split at h
 ·rename_i l1 e
  cases h
  exact litw_good (by decide) (acc_stp hl e)
 ·split at h
  ·rename_i l1 e
   cases h
   exact litw_good (by decide) (acc_stp hl e)
  ·split at h
   ·rename_i l1 e
    cases h
    exact litw_good (by decide) (acc_stp hl e)
   ·split at h
    ·rename_i l1 e
     have a0:=acc_stp hl e
     obtain ⟨t1,l2,h1,h⟩:=thn_ok h
     obtain ⟨a1,hT,hk⟩:=exk_stp a0.ag h1
     have:=a0.lt;have:=a0.le;have:=a1.lt;have:=a1.le
     cases h
     refine ⟨⟨a1.ag,by omega,?_⟩,leaf_good rfl (by simp [Pyl.none]) hT.ok.pos (by decide) (fun _=>hT.name (.inr hk))⟩
     show lenL [[98,114,101,97,107],36 :: t1.text.data.toList]+_≤_
     simp only [lenL_cons,lenL_nil,bsize,List.length_cons,List.length_nil]
     omega
    ·cases h
theorem signed_good (hP:GoodP P) (hl:AG l) (h:signedS P l = .ok (t,l')):Stp l l' (lenL (toksT t))∧Gdt t:=by
 have hid:lenL (toksT identT)=2:=rfl
 unfold signedS at h
 split at h
 ·rename_i l1 e
  have a0:=acc_stp hl e
  have:=a0.lt;have:=a0.le
  split at h
  ·rename_i t1 l2 e2
   obtain ⟨a1,hT,hk⟩:=exk_stp a0.ag e2
   have:=a1.lt;have:=a1.le
   have hlen:=len5 { Pyl.none with name:=t1.text } identT
   have hlen:_≤lenL (toksT identT)+t1.text.size+7:=hlen
   cases h
   exact ⟨⟨a1.ag,by omega,by omega⟩,Gdt.mk (.plain rfl (by simp) (by simp [Pyl.none]) (Int.le_refl _) (by decide) (fun _=>hT.name (.inl hk))) (all1 ident_good)⟩
  ·cases h
   exact ⟨⟨a0.ag,a0.lt,by omega⟩,ident_good⟩
 ·split at h
  ·rename_i l1 e
   have a0:=acc_stp hl e
   have:=a0.lt;have:=a0.le
   cases h
   refine ⟨⟨a0.ag,a0.lt,?_⟩,leaf_good rfl (by simp [Pyl.none]) (Int.le_refl _) (by decide) (no_name (by decide))⟩
   show lenL [[46,46]]+_≤_
   simp only [lenL_cons,lenL_nil,List.length_cons,List.length_nil]
   omega
  ·split at h
   ·rename_i l1 e
    have a0:=acc_stp hl e
    obtain ⟨f,l2,h1,h⟩:=thn_ok h
    obtain ⟨_,l3,h2,h⟩:=thn_ok h
    obtain ⟨a1,g1⟩:=hP _ _ _ _ a0.ag h1
    have a2:=exq_stp a1.ag h2
    have:=a0.lt;have:=a0.le;have:=a1.lt;have:=a1.le;have:=a2.lt;have:=a2.le
    cases h
    exact ⟨⟨a2.ag,by omega,by omega⟩,g1⟩
   ·split at h
    ·rename_i l1 e
     have a0:=acc_stp hl e
     have:=a0.lt;have:=a0.le
     split at h
     ·rename_i l2 e2
      have a1:=acc_stp a0.ag e2
      have:=a1.lt;have:=a1.le
      cases h
      refine ⟨⟨a1.ag,by omega,?_⟩,leaf_good (Nat.zero_le _) (by simp [Pyl.none]) (Int.le_refl _) (by decide) (no_name (by decide))⟩
      show lenL [[91],[93]]+_≤_
      simp only [lenL_cons,lenL_nil,List.length_cons,List.length_nil]
      omega
     ·obtain ⟨f,l2,h1,h⟩:=thn_ok h
      obtain ⟨_,l3,h2,h⟩:=thn_ok h
      obtain ⟨a1,g1⟩:=hP _ _ _ _ a0.ag h1
      have a2:=exq_stp a1.ag h2
      have:=a1.lt;have:=a1.le;have:=a2.lt;have:=a2.le
      cases h
      refine ⟨⟨a2.ag,by omega,?_⟩,Gdt.mk (.plain (Nat.le_refl 1) (by simp) (by simp [Pyl.none]) (Int.le_refl _) (by decide) (no_name (by decide))) (all1 g1)⟩
      show lenL ([91] :: (toksT f ++ [[93]]))+_≤_
      simp only [lenL_cons,lenL_app,lenL_nil,List.length_cons,List.length_nil]
      omega
    ·split at h
     ·rename_i l1 e
      have a0:=acc_stp hl e
      have:=a0.lt;have:=a0.le
      obtain ⟨b1,b2,b3,b4⟩:=build_stp hP a0.ag h
      exact ⟨⟨b1,by omega,by omega⟩,b4⟩
     ·cases h
theorem primary_good (hP:GoodP P) (hl:AG l) (h:primaryS P l = .ok (t,l')):Stp l l' (lenL (toksT t))∧Gdt t:=by
 unfold primaryS at h
 split at h
 ·rename_i t1 u m
  have hT:=hl.1 _ (.head _)
  have hst:Stp (t1 :: u :: m) (u :: m) (6 * t1.text.size+40):=⟨hl.tail,by simp,by rw [wL_cons t1];omega⟩
  have:=hst.lt;have:=hst.le
  have h3000:=hl.2
  split at h
  ·rename_i hk
   have hG:=hT.name (.inl hk)
   unfold callS at h
   split at h
   ·cases h
    have hlen:=len11 { Pyl.none with name:=t1.text,num:=t1.pos } []
    have e0:sumK []=0:=rfl
    have hlen:_≤sumK []+2 * 0+t1.text.size+5:=hlen
    exact ⟨⟨hst.ag,hst.lt,by omega⟩,leaf_good trivial (by simp [Pyl.none]) hT.ok.pos (by decide) (fun _=>hG)⟩
   ·rename_i l1 e
    have a0:=acc_stp hst.ag e
    obtain ⟨a,l2,h1,h⟩:=thn_ok h
    obtain ⟨az,l3,h2,h⟩:=thn_ok h
    obtain ⟨_,l4,h3,h⟩:=thn_ok h
    obtain ⟨a1,g1⟩:=hP _ _ _ _ a0.ag h1
    obtain ⟨b1,b2,b3,b4⟩:=args_good hP _ _ _ _ a1.ag h2
    have a3:=exq_stp b1 h3
    have:=a0.lt;have:=a0.le;have:=a1.lt;have:=a1.le;have:=a3.lt;have:=a3.le
    have hlen:=len11 { Pyl.none with name:=t1.text,num:=t1.pos } (a :: az)
    have e2:sumK (a :: az)=lenL (toksT a)+sumK az:=by simp [sumK]
    have hlen:_≤sumK (a :: az)+2 * (az.length+1)+t1.text.size+5:=hlen
    rw [e2] at hlen
    cases h
    refine ⟨⟨a3.ag,by omega,by omega⟩,Gdt.mk (.plain trivial (by simp only [List.length_cons];omega) (by simp [Pyl.none]) hT.ok.pos (by decide) (fun _=>hG)) (fun t ht=>?_)⟩
    rcases List.mem_cons.1 ht with rfl | ht
    ·exact g1
    ·exact b4 t ht
  ·split at h
   ·rename_i hk
    cases h
    refine ⟨⟨hst.ag,hst.lt,?_⟩,leaf_good rfl (by simp [Pyl.none]) hT.ok.pos (by decide) (fun _=>hT.name (.inr hk))⟩
    show lenL [36 :: t1.text.data.toList]+_≤_
    simp only [lenL_cons,lenL_nil,bsize,List.length_cons]
    omega
   ·split at h
    ·rename_i hk
     cases h
     obtain ⟨b1,b2⟩:=lit_good (v:=(3,0,t1.text)) ⟨by show (3:Nat)≤4;decide,fun _=>hT.num hk,(fun e=>by cases e)⟩
     have b2:_≤6 * t1.text.size+23:=b2
     exact ⟨⟨hst.ag,hst.lt,by omega⟩,b1⟩
    ·split at h
     ·cases h
      obtain ⟨b1,b2⟩:=lit_good (v:=(4,0,t1.text)) ⟨by show (4:Nat)≤4;decide,(fun e=>by cases e),fun _=>hT.ok.size⟩
      have b2:_≤6 * t1.text.size+23:=b2
      exact ⟨⟨hst.ag,hst.lt,by omega⟩,b1⟩
     ·split at h
      ·exact wordy_good hl h
      ·exact signed_good hP hl h
 ·cases h
def HfOk (h:Hf):Prop:=Gdt h.1∧h.2.1.data.toList∈opsL∧1≤h.2.2
def lenH (hs:List Hf):Nat:=(hs.map fun h=>lenL (toksT h.1)+h.2.1.size+5).sum
theorem bin_good {op:ByteArray}{a b:Tn} (ho:op.data.toList∈opsL) (ha:Gdt a) (hb:Gdt b):Gdt (binT op a b)∧lenL (toksT (binT op a b))≤lenL (toksT a)+lenL (toksT b)+op.size+5 :=
 ⟨Gdt.mk ⟨rfl,by simp,by simp [Pyl.none],Int.le_refl _,no_name (by decide),fun _=>ho,(fun e=>by cases e),(fun e=>by cases e),(fun e=>by cases e)⟩ (all2 ha hb),len12 { Pyl.none with name:=op } a b⟩
theorem foldH_good {r:Int} (hr:1≤r):∀ (hs:List Hf) (side:Tn) (next:Int),(∀ h∈hs,HfOk h)→Gdt side→(∀ h∈(foldH r hs side next).1.1,HfOk h)∧Gdt (foldH r hs side next).1.2∧lenH (foldH r hs side next).1.1+lenL (toksT (foldH r hs side next).1.2)≤lenH hs+lenL (toksT side)∧((foldH r hs side next).2=false→1≤next)
 | [],side,next,_,hg=>by
  rw [foldH]
  split
  ·exact ⟨fun h hh=>by simp at hh,hg,by simp,(fun e=>by cases e)⟩
  ·exact ⟨fun h hh=>by simp at hh,hg,by simp,fun _=>by omega⟩
 | h :: hs,side,next,hh,hg=>by
  rw [foldH]
  have h1:=hh h (.head _)
  split
  ·rename_i hw
   refine ⟨hh,hg,Nat.le_refl _,fun _=>?_⟩
   unfold waits at hw
   simp only [Bool.or_eq_true,decide_eq_true_eq,Bool.and_eq_true,beq_iff_eq] at hw
   have:=h1.2.2
   omega
  ·obtain ⟨b1,b2⟩:=bin_good h1.2.1 h1.1 hg
   obtain ⟨c1,c2,c3,c4⟩:=foldH_good hr hs (binT h.2.1 h.1 side) (if h.2.2 == next && once next then 0 else next) (fun h hm=>hh h (.tail _ hm)) b1
   refine ⟨c1,c2,?_,fun e=>?_⟩
   ·have e2:lenH (h :: hs)=lenL (toksT h.1)+h.2.1.size+5+lenH hs:=by simp [lenH]
    rw [e2]
    omega
   ·have:=c4 e
    split at this
    ·omega
    ·exact this
theorem op_mem {x:List UInt8} (h:1≤rowOf x):x∈opsL:=by
 unfold rowOf at h
 simp only [Bool.or_eq_true,beq_iff_eq] at h
 unfold opsL
 simp only [List.mem_cons,List.not_mem_nil,or_false]
 repeat' split at h
 all_goals first | omega | grind
theorem opAt_good {l:List Tok} (hl:AG l) (h:1≤opAt l):(txtAt l).data.toList∈opsL∧AG l.tail∧l.tail.length≤l.length∧(txtAt l).size+5+wL l.tail≤wL l:=by
 cases l with
 | nil=>exact absurd h (by decide)
 | cons t l =>
  have h:1≤opOf t:=h
  unfold opOf at h
  split at h
  ·refine ⟨op_mem h,hl.tail,by simp,?_⟩
   show t.text.size+5+wL l≤wL (t :: l)
   rw [wL_cons]
   omega
  ·omega
theorem oper_good (hP:GoodP P) {r:Int} (hr:1≤r):∀ (m:Nat) (hs:List Hf) (l:List Tok) (t:Tn) (l':List Tok),AG l→(∀ h∈hs,HfOk h)→operL P r m hs l = .ok (t,l')→AG l'∧l'.length < l.length∧lenL (toksT t)+wL l'≤wL l+lenH hs∧Gdt t
 | 0,_,_,_,_,_,_,h=>by cases h
 | m+1,hs,l,t,l',hl,hh,h=>by
  rw [operL] at h
  obtain ⟨side,l1,h1,h⟩:=thn_ok h
  obtain ⟨a1,g1⟩:=hP _ _ _ _ hl h1
  have:=a1.lt;have:=a1.le
  have hf:=foldH_good hr hs side (opAt l1) hh g1
  split at h
  ·rename_i hs' side' e
   rw [e] at hf
   obtain ⟨f1,f2,f3,f4⟩:=hf
   cases h
   exact ⟨a1.ag,a1.lt,by simp only at f3;omega,f2⟩
  ·rename_i hs' side' e
   rw [e] at hf
   obtain ⟨f1,f2,f3,f4⟩:=hf
   have h1':=f4 rfl
   obtain ⟨o1,o2,o3,o4⟩:=opAt_good a1.ag h1'
   obtain ⟨c1,c2,c3,c4⟩:=oper_good hP hr m _ _ _ _ o2 (fun h hm=>by
    rcases List.mem_cons.1 hm with rfl | hm
    ·exact ⟨f2,o1,h1'⟩
    ·exact f1 h hm) h
   have e2:lenH ((side',txtAt l1,opAt l1) :: hs')=lenL (toksT side')+(txtAt l1).size+5+lenH hs':=by simp [lenH]
   rw [e2] at c3
   simp only at f3
   exact ⟨c1,by omega,by omega,c4⟩
end
theorem read_good:∀ n,GoodP (readP n)
 | 0=>fun c l t l' _ h=>by cases h
 | n+1=>fun c l t l' hl h=>by
  have ih:=read_good n
  match c,h with
  | 0,h=>exact filter_good ih hl h
  | 1,h=>exact minus_good ih hl h
  | 3,h=>exact postfix_good ih hl h
  | 4,h=>exact primary_good ih hl h
  | 2,h=>cases h
  | c+5,h =>
   have h:(if 11≤c+5∧c+5≤19 then operS (readP n) (((c+5:Nat):Int) - 10) l else .error l) = .ok (t,l'):=h
   split at h
   ·obtain ⟨b1,b2,b3,b4⟩:=oper_good ih (by omega) _ _ _ _ _ hl (fun h hm=>by simp at hm) h
    exact ⟨⟨b1,b2,by simpa [lenH] using b3⟩,b4⟩
   ·cases h
end Go.Proofs.Tryz
