import Derived.Test.YtbhajhlhgbnhbaaGreatDoorFy11
import Derived.Test.YtbhajhlhgbnhbaaGreatDoorOb2
import Derived.Laws.BitsAllLaws
import Derived.Deep.RegionLaw
import Derived.Deep.AppendLies
import Derived.Lib.OthersKept
set_option linter.all false
namespace Go.Proofs.Tryz
set_option maxHeartbeats 16000000
open Go.RowKit
set_option maxRecDepth 10000
theorem esc_len (c:UInt8):1≤(escB c).length∧(escB c).length≤6:=by
 unfold escB
 repeat' split
 all_goals simp
theorem own_kind {w:World}{B e s n:Nat}{v:Value}{xs:List Value} (h:w.ownsRow B e s v n xs):∀ k,v.ownBlock=some k→∃ c fz,w.heap[k]? = some (.cells c e fz):=by
 intro k hk
 rcases h.2 with ⟨rfl,_⟩ | ⟨g,cap,cur,rfl,_,hb,_⟩
 ·cases hk
 ·cases hk
  exact ⟨cur,(0,0),hb⟩
theorem hexS_at {i:Nat} (h:i < 16) {h2}:(⟨#[48,49,50,51,52,53,54,55,56,57,97,98,99,100,101,102]⟩:ByteArray)[i]'h2=hexC i:=by
 have:∀ k:Fin 16,(⟨#[48,49,50,51,52,53,54,55,56,57,97,98,99,100,101,102]⟩:ByteArray)[k.1]'(k.2)=hexC k.1:=by decide
 exact this ⟨i,h⟩
def strO (s:ByteArray) (j:Nat):Bys:=34 :: (s.data.toList.take j).flatMap escB
theorem strO_step {s:ByteArray}{j:Nat} (h:j < s.size):strO s (j+1)=strO s j ++ escB s[j]:=by
 unfold strO
 have ht:s.data.toList.take (j+1)=s.data.toList.take j ++ [s[j]]:=by
  rw [List.take_succ,at_list s j h];rfl
 rw [ht,List.flatMap_append]
 simp
theorem appendString_any {w:World}{B:Nat}{sv:Value}{out:List UInt8} (s:ByteArray) (hs:s.size≤10000000000) (hown:w.ownsRow B 5 1 sv out.length (Lib.byteCells out)) (hB:B≤w.heap.size) (ho:out.length≤10000000000) :
  Calls Tryz.prog 33 #[sv,.string s] w fun e w'=>∃ v',e = .returned v'∧w'.ownsRow B 5 1 v' (out.length+(quoteL s.data.toList).length) (Lib.byteCells out ++ Lib.byteCells (quoteL s.data.toList))∧Below B w w'∧Lib.OthersKept 5 none w w':=by
 obtain ⟨i0,hi0,hz0,hz1,hz2⟩:=info_parts (show (Tryz.prog.info? 5).map (fun i=>(i.zero,i.size,i.bytes))=some (some (.int .u8 0),1,1) by kernel_rfl)
 obtain ⟨oa,ol,oc,rfl⟩:=owns_shape hown
 go_enter Tryz.func33,Tryz.ntmps33
 go_wp2_with (refine wpList_append_lies _ (by rfl) _ _ _ (by rfl) B 5 i0 _ 1 1 Tryz.underlying50 hi0 hz0 hz1 hz2 rfl (by omega) _ out.length (Lib.byteCells out) (by rfl) (hown.alloc _) ⟨w.heap.size,0,none⟩ 1 1 [.int .u8 34] (by rfl) (by rfl) (World.news_of_block (cs:=#[.int .u8 34]) (t:=5) (fr:=(0,0)) (heap_new w _)) (by simp [Value.oneCell']) (by omega) (by unfold maxLen;omega) (by omega) (by simp;omega) (w.heap.size+1) (by simp) ?_;intro g cap w2 hown2 hgrow2 hat2 hlt2)
 go_loopg [0,5,6,12] s.size (fun k v0 v5 v6 v12 wr=>∃ (j n:Nat),k+j=s.size∧v12 = .int .i64 j∧Below B w wr∧Aside (Lib.OthersKept 5 none w wr)∧Hid (n=out.length+(strO s j).length)∧n≤out.length+1+6 * j∧wr.ownsRow B 5 1 v0 n (Lib.byteCells out ++ Lib.byteCells (strO s j)))
 case atStart =>
  refine ⟨0,out.length+1,by omega,rfl,?_,((Lib.OthersKept.refl _ _ w).alloc _).grown hgrow2 (own_kind (hown.alloc _)),rfl,by omega,?_⟩
  ·exact ((Below.refl B w).alloc hB _).grown hgrow2 (by simp;omega) (fun q hq=>(hown.lt q hq).1)
  ·simpa [Lib.byteCells,strO] using hown2
 case round =>
  clear hown2 hgrow2 hat2 hlt2
  obtain ⟨j,n,hj,rfl,hb,hok,hn,hn2,hown3⟩:=hrel
  obtain ⟨ra,rl,rc,rfl⟩:=owns_shape hown3
  have hbz:=hb.size
  by_cases hlt:j < s.size
  ·obtain ⟨k,rfl⟩:∃ k,gk=k+1:=⟨gk - 1,by omega⟩
   have hl':(j:Int) < (s.size:Int):=by omega
   have ha0:(0:Int)≤(j:Int):=by omega
   have hst:=strO_step hlt
   have hr:(s[j]).toNat < 256:=(s[j]).toNat_lt
   obtain ⟨c,hc⟩:∃ c,s[j]=c:=⟨_,rfl⟩
   rw [hc] at hst hr
   obtain ⟨cn,hcn⟩:∃ cn:Nat,c.toNat=cn:=⟨_,rfl⟩
   have HST:Hid _:=hst
   have HC:Hid _:=hc
   have hnext:∀ (more:Bys) (w4:World) (v4:Value),escB c=more→more.length≤6→w4.ownsRow B 5 1 v4 (n+more.length) (Lib.byteCells out ++ Lib.byteCells (strO s j) ++ Lib.byteCells more)→(n+more.length≤out.length+1+6 * (j+1))∧Hid (n+more.length=out.length+(strO s (j+1)).length)∧w4.ownsRow B 5 1 v4 (n+more.length) (Lib.byteCells out ++ Lib.byteCells (strO s (j+1))):=fun more w4 v4 e1 e2 e3=>by
    refine ⟨by omega,?_,?_⟩
    ·show _=_
     rw [HST.out,e1,List.length_append];have:=hn.out;omega
    ·rw [HST.out,e1,byteCells_append,← List.append_assoc];exact e3
   have HNX:Aside _:=hnext
   clear hst hc hnext
   have HCN:Hid (c.toNat=cn):=hcn
   have hv:((s[j].toNat:Nat):Int)=(cn:Int):=by rw [HC.out,hcn]
   have hcc:c=UInt8.ofNat cn:=by rw [← hcn];simp
   have HCC:Hid _:=hcc
   clear hcn hcc
   by_cases k32:32≤cn∧cn≠34∧cn≠92
   ·obtain ⟨p1,p2,p3⟩:=k32
    have q1:((cn:Int) == 34)=false:=by simp;omega
    have q2:((cn:Int) == 92)=false:=by simp;omega
    have q3:((cn:Int) == 8)=false:=by simp;omega
    have q4:((cn:Int) == 9)=false:=by simp;omega
    have q5:((cn:Int) == 10)=false:=by simp;omega
    have q6:((cn:Int) == 12)=false:=by simp;omega
    have q7:((cn:Int) == 13)=false:=by simp;omega
    have q8:¬ (cn:Int) < 32:=by omega
    go_wp2_with (refine wpList_append_lies _ (by rfl) _ _ _ (by rfl) B 5 i0 _ 1 1 Tryz.underlying50 hi0 hz0 hz1 hz2 rfl (by omega) _ n (Lib.byteCells out ++ Lib.byteCells (strO s j)) (by rfl) (hown3.alloc _) ⟨wr.heap.size,0,none⟩ 1 1 [.int .u8 (cn:Int)] (by rfl) (by rfl) (World.news_of_block (cs:=#[.int .u8 (cn:Int)]) (t:=5) (fr:=(0,0)) (heap_new wr _)) (by simp [Value.oneCell']) (by omega) (by unfold maxLen;omega) (by omega) (by simp;omega) (wr.heap.size+1) (by simp) ?_;intro g4 cap4 w4 hown4 hgrow4 hat4 hlt4)
    go_roundg k
    case measure=>omega
    case rel =>
     have he:escB c=[c]:=by
      have hcN:=HCN.out
      unfold escB
      rw [if_neg (by rintro (e | e) <;> (rw [e] at hcN;simp at hcN;omega)),if_neg (by intro e;rw [e] at hcN;simp at hcN;omega),if_neg (by intro e;rw [e] at hcN;simp at hcN;omega),if_neg (by intro e;rw [e] at hcN;simp at hcN;omega),if_neg (by intro e;rw [e] at hcN;simp at hcN;omega),if_neg (by intro e;rw [e] at hcN;simp at hcN;omega),if_neg (by simp only [UInt8.lt_iff_toNat_lt];rw [hcN];simp;omega)]
     obtain ⟨r1,r2,r3⟩:=HNX.out [c] w4 _ he (by simp) (by have:=HCN.out;simpa [Lib.byteCells,this] using hown4)
     exact ⟨j+1,_,by omega,by go_num,(hb.alloc (by omega) _).grown hgrow4 (by simp;omega) (fun q hq=>(hown3.lt q hq).1),Lib.OthersKept.grown (Lib.OthersKept.alloc hok.out _) hgrow4 (own_kind (hown3.alloc _)),r2,r1,r3⟩
   ·by_cases k34:cn=34
    ·have hv2:((s[j].toNat:Nat):Int)=34:=by rw [hv,k34];rfl
     clear hv
     go_wp2_with (refine wpList_append_lies _ (by rfl) _ _ _ (by rfl) B 5 i0 _ 1 1 Tryz.underlying50 hi0 hz0 hz1 hz2 rfl (by omega) _ n (Lib.byteCells out ++ Lib.byteCells (strO s j)) (by rfl) (hown3.alloc _) ⟨wr.heap.size,0,none⟩ 2 2 [.int .u8 92,.int .u8 34] (by rfl) (by rfl) (World.news_of_block (cs:=#[.int .u8 92,.int .u8 34]) (t:=5) (fr:=(0,0)) (heap_new wr _)) (by simp [Value.oneCell']) (by omega) (by unfold maxLen;omega) (by omega) (by simp;omega) (wr.heap.size+1) (by simp) ?_;intro g4 cap4 w4 hown4 hgrow4 hat4 hlt4)
     go_roundg k
     case measure=>omega
     case rel =>
      obtain ⟨r1,r2,r3⟩:=HNX.out [92,34] w4 _ (by rw [HCC.out,k34];decide) (by decide) (by first | exact hown4 | simpa [Lib.byteCells] using hown4)
      exact ⟨j+1,_,by omega,by go_num,(hb.alloc (by omega) _).grown hgrow4 (by simp;omega) (fun q hq=>(hown3.lt q hq).1),Lib.OthersKept.grown (Lib.OthersKept.alloc hok.out _) hgrow4 (own_kind (hown3.alloc _)),r2,r1,r3⟩
    ·by_cases k92:cn=92
     ·have hv2:((s[j].toNat:Nat):Int)=92:=by rw [hv,k92];rfl
      clear hv
      go_wp2_with (refine wpList_append_lies _ (by rfl) _ _ _ (by rfl) B 5 i0 _ 1 1 Tryz.underlying50 hi0 hz0 hz1 hz2 rfl (by omega) _ n (Lib.byteCells out ++ Lib.byteCells (strO s j)) (by rfl) (hown3.alloc _) ⟨wr.heap.size,0,none⟩ 2 2 [.int .u8 92,.int .u8 92] (by rfl) (by rfl) (World.news_of_block (cs:=#[.int .u8 92,.int .u8 92]) (t:=5) (fr:=(0,0)) (heap_new wr _)) (by simp [Value.oneCell']) (by omega) (by unfold maxLen;omega) (by omega) (by simp;omega) (wr.heap.size+1) (by simp) ?_;intro g4 cap4 w4 hown4 hgrow4 hat4 hlt4)
      go_roundg k
      case measure=>omega
      case rel =>
       obtain ⟨r1,r2,r3⟩:=HNX.out [92,92] w4 _ (by rw [HCC.out,k92];decide) (by decide) (by first | exact hown4 | simpa [Lib.byteCells] using hown4)
       exact ⟨j+1,_,by omega,by go_num,(hb.alloc (by omega) _).grown hgrow4 (by simp;omega) (fun q hq=>(hown3.lt q hq).1),Lib.OthersKept.grown (Lib.OthersKept.alloc hok.out _) hgrow4 (own_kind (hown3.alloc _)),r2,r1,r3⟩
     ·by_cases k8:cn=8
      ·have hv2:((s[j].toNat:Nat):Int)=8:=by rw [hv,k8];rfl
       clear hv
       go_wp2_with (refine Lib.wpList_append_own_string _ (by rfl) _ _ 50 9 (by rfl) B 5 i0 Tryz.underlying50 Tryz.underlying9 hi0 hz0 hz1 hz2 _ n (Lib.byteCells out ++ Lib.byteCells (strO s j)) (by rfl) hown3 ⟨#[92,98]⟩ (by rfl) (by unfold maxLen;simp [ByteArray.size];omega) (by simp [ByteArray.size];omega) (by omega) ?_;intro v4 w4 hown4 hgrow4 _;obtain ⟨a4,l4,c4,rfl⟩:=owns_shape hown4)
       go_roundg k
       case measure=>omega
       case rel =>
        obtain ⟨r1,r2,r3⟩:=HNX.out [92,98] w4 _ (by rw [HCC.out,k8];decide) (by decide) (by first | exact hown4 | simpa [Lib.byteCells] using hown4)
        exact ⟨j+1,_,by omega,by go_num,hb.grown hgrow4 (by omega) (fun q hq=>(hown3.lt q hq).1),Lib.OthersKept.grown hok.out hgrow4 (own_kind hown3),r2,r1,r3⟩
      ·by_cases k9:cn=9
       ·have hv2:((s[j].toNat:Nat):Int)=9:=by rw [hv,k9];rfl
        clear hv
        go_wp2_with (refine Lib.wpList_append_own_string _ (by rfl) _ _ 50 9 (by rfl) B 5 i0 Tryz.underlying50 Tryz.underlying9 hi0 hz0 hz1 hz2 _ n (Lib.byteCells out ++ Lib.byteCells (strO s j)) (by rfl) hown3 ⟨#[92,116]⟩ (by rfl) (by unfold maxLen;simp [ByteArray.size];omega) (by simp [ByteArray.size];omega) (by omega) ?_;intro v4 w4 hown4 hgrow4 _;obtain ⟨a4,l4,c4,rfl⟩:=owns_shape hown4)
        go_roundg k
        case measure=>omega
        case rel =>
         obtain ⟨r1,r2,r3⟩:=HNX.out [92,116] w4 _ (by rw [HCC.out,k9];decide) (by decide) (by first | exact hown4 | simpa [Lib.byteCells] using hown4)
         exact ⟨j+1,_,by omega,by go_num,hb.grown hgrow4 (by omega) (fun q hq=>(hown3.lt q hq).1),Lib.OthersKept.grown hok.out hgrow4 (own_kind hown3),r2,r1,r3⟩
       ·by_cases k10:cn=10
        ·have hv2:((s[j].toNat:Nat):Int)=10:=by rw [hv,k10];rfl
         clear hv
         go_wp2_with (refine Lib.wpList_append_own_string _ (by rfl) _ _ 50 9 (by rfl) B 5 i0 Tryz.underlying50 Tryz.underlying9 hi0 hz0 hz1 hz2 _ n (Lib.byteCells out ++ Lib.byteCells (strO s j)) (by rfl) hown3 ⟨#[92,110]⟩ (by rfl) (by unfold maxLen;simp [ByteArray.size];omega) (by simp [ByteArray.size];omega) (by omega) ?_;intro v4 w4 hown4 hgrow4 _;obtain ⟨a4,l4,c4,rfl⟩:=owns_shape hown4)
         go_roundg k
         case measure=>omega
         case rel =>
          obtain ⟨r1,r2,r3⟩:=HNX.out [92,110] w4 _ (by rw [HCC.out,k10];decide) (by decide) (by first | exact hown4 | simpa [Lib.byteCells] using hown4)
          exact ⟨j+1,_,by omega,by go_num,hb.grown hgrow4 (by omega) (fun q hq=>(hown3.lt q hq).1),Lib.OthersKept.grown hok.out hgrow4 (own_kind hown3),r2,r1,r3⟩
        ·by_cases k12:cn=12
         ·have hv2:((s[j].toNat:Nat):Int)=12:=by rw [hv,k12];rfl
          clear hv
          go_wp2_with (refine Lib.wpList_append_own_string _ (by rfl) _ _ 50 9 (by rfl) B 5 i0 Tryz.underlying50 Tryz.underlying9 hi0 hz0 hz1 hz2 _ n (Lib.byteCells out ++ Lib.byteCells (strO s j)) (by rfl) hown3 ⟨#[92,102]⟩ (by rfl) (by unfold maxLen;simp [ByteArray.size];omega) (by simp [ByteArray.size];omega) (by omega) ?_;intro v4 w4 hown4 hgrow4 _;obtain ⟨a4,l4,c4,rfl⟩:=owns_shape hown4)
          go_roundg k
          case measure=>omega
          case rel =>
           obtain ⟨r1,r2,r3⟩:=HNX.out [92,102] w4 _ (by rw [HCC.out,k12];decide) (by decide) (by first | exact hown4 | simpa [Lib.byteCells] using hown4)
           exact ⟨j+1,_,by omega,by go_num,hb.grown hgrow4 (by omega) (fun q hq=>(hown3.lt q hq).1),Lib.OthersKept.grown hok.out hgrow4 (own_kind hown3),r2,r1,r3⟩
         ·by_cases k13:cn=13
          ·have hv2:((s[j].toNat:Nat):Int)=13:=by rw [hv,k13];rfl
           clear hv
           go_wp2_with (refine Lib.wpList_append_own_string _ (by rfl) _ _ 50 9 (by rfl) B 5 i0 Tryz.underlying50 Tryz.underlying9 hi0 hz0 hz1 hz2 _ n (Lib.byteCells out ++ Lib.byteCells (strO s j)) (by rfl) hown3 ⟨#[92,114]⟩ (by rfl) (by unfold maxLen;simp [ByteArray.size];omega) (by simp [ByteArray.size];omega) (by omega) ?_;intro v4 w4 hown4 hgrow4 _;obtain ⟨a4,l4,c4,rfl⟩:=owns_shape hown4)
           go_roundg k
           case measure=>omega
           case rel =>
            obtain ⟨r1,r2,r3⟩:=HNX.out [92,114] w4 _ (by rw [HCC.out,k13];decide) (by decide) (by first | exact hown4 | simpa [Lib.byteCells] using hown4)
            exact ⟨j+1,_,by omega,by go_num,hb.grown hgrow4 (by omega) (fun q hq=>(hown3.lt q hq).1),Lib.OthersKept.grown hok.out hgrow4 (own_kind hown3),r2,r1,r3⟩
          ·have hlow:cn < 32:=by omega
           have q1:((cn:Int) == 34)=false:=by simp;omega
           have q2:((cn:Int) == 92)=false:=by simp;omega
           have q3:((cn:Int) == 8)=false:=by simp;omega
           have q4:((cn:Int) == 9)=false:=by simp;omega
           have q5:((cn:Int) == 10)=false:=by simp;omega
           have q6:((cn:Int) == 12)=false:=by simp;omega
           have q7:((cn:Int) == 13)=false:=by simp;omega
           have q8:(cn:Int) < 32:=by omega
           go_wp2_with (refine Lib.wpList_append_own_string _ (by rfl) _ _ 50 9 (by rfl) B 5 i0 Tryz.underlying50 Tryz.underlying9 hi0 hz0 hz1 hz2 _ n (Lib.byteCells out ++ Lib.byteCells (strO s j)) (by rfl) hown3 ⟨#[92,117,48,48]⟩ (by rfl) (by unfold maxLen;simp [ByteArray.size];omega) (by simp [ByteArray.size];omega) (by omega) ?_;intro v4 w4 hown4 hgrow4 _;obtain ⟨a4,l4,c4,rfl⟩:=owns_shape hown4)
           obtain ⟨hi,hhi⟩:∃ hi,cn / 16=hi:=⟨_,rfl⟩
           obtain ⟨lo,hlo⟩:∃ lo,cn % 16=lo:=⟨_,rfl⟩
           have eh:(cn:Int) / 16=(hi:Int):=by omega
           have el:bits .and .u8 (cn:Int) 15=(lo:Int):=by
            have:=u8_and_nat cn 15 (by omega) (by omega)
            rw [show (15:Nat)=2 ^ 4 - 1 from rfl,Nat.and_two_pow_sub_one_eq_mod] at this
            rw [← hlo];exact this
           have h1:(0:Int)≤(hi:Int):=by omega
           have h2:(hi:Int) < 16:=by omega
           have h3:(0:Int)≤(lo:Int):=by omega
           have h4:(lo:Int) < 16:=by omega
           have h2n:hi < 16:=by omega
           have h4n:lo < 16:=by omega
           have HHI:Hid _:=hhi
           have HLO:Hid _:=hlo
           clear hhi hlo
           have hw4:=hgrow4.size
           go_region_law
            ((refine step_append_lies _ (by rfl) _ _ _ (by rfl) B 5 i0 _ 1 1 Tryz.underlying50 hi0 hz0 hz1 hz2 rfl (by omega) (.slice a4 l4 c4) (n+4) (Lib.byteCells out ++ Lib.byteCells (strO s j) ++ Lib.byteCells [92,117,48,48]) (by rfl) (by first | exact World.ownsRow.alloc hown4 _ | exact (World.ownsRow.drew hown4).alloc _) ⟨w4.heap.size,0,none⟩ 2 2 [.int .u8 (((⟨#[48,49,50,51,52,53,54,55,56,57,97,98,99,100,101,102]⟩:ByteArray)[hi]'(by show hi < 16;exact h2n)).toNat:Int),.int .u8 (((⟨#[48,49,50,51,52,53,54,55,56,57,97,98,99,100,101,102]⟩:ByteArray)[lo]'(by show lo < 16;exact h4n)).toNat:Int)] (by rfl) (by rfl) (World.news_of_block (cs:=#[.int .u8 (((⟨#[48,49,50,51,52,53,54,55,56,57,97,98,99,100,101,102]⟩:ByteArray)[hi]'(by show hi < 16;exact h2n)).toNat:Int),.int .u8 (((⟨#[48,49,50,51,52,53,54,55,56,57,97,98,99,100,101,102]⟩:ByteArray)[lo]'(by show lo < 16;exact h4n)).toNat:Int)]) (t:=5) (fr:=(0,0)) (by first | exact heap_new _ _ | exact heap_alloc_new _ _)) (by simp [Value.oneCell']) (by omega) (by unfold maxLen;omega) (by omega) (by simp;omega) (w4.heap.size+1) (by simp) ?_;intro g5 cap5 w5 hown5 hgrow5 hat5 hlt5))
           all_goals
            go_wp2_with fail
            go_roundg k
            case measure=>omega
            case rel =>
             have he:escB c=[92,117,48,48,hexC hi,hexC lo]:=by
              have hcN:=HCN.out
              unfold escB
              rw [if_neg (by rintro (e | e) <;> (rw [e] at hcN;simp at hcN;omega)),if_neg (by intro e;rw [e] at hcN;simp at hcN;omega),if_neg (by intro e;rw [e] at hcN;simp at hcN;omega),if_neg (by intro e;rw [e] at hcN;simp at hcN;omega),if_neg (by intro e;rw [e] at hcN;simp at hcN;omega),if_neg (by intro e;rw [e] at hcN;simp at hcN;omega),if_pos (by simp only [UInt8.lt_iff_toNat_lt];rw [hcN];simpa using hlow),hcN,HHI.out,HLO.out]
             have hown5':=hown5
             rw [hexS_at h2n,hexS_at h4n] at hown5'
             obtain ⟨r1,r2,r3⟩:=HNX.out [92,117,48,48,hexC hi,hexC lo] w5 _ he (by simp) (by simpa [Lib.byteCells] using hown5')
             refine ⟨j+1,_,by omega,by go_num,?_,Lib.OthersKept.grown (Lib.OthersKept.drew (Lib.OthersKept.alloc (Lib.OthersKept.grown hok.out hgrow4 (own_kind hown3)) _)) hgrow5 (own_kind (World.ownsRow.drew (World.ownsRow.alloc hown4 _))),r2,r1,r3⟩
             have hb4:Below B w w4:=hb.grown hgrow4 (by omega) (fun q hq=>(hown3.lt q hq).1)
             exact ((hb4.alloc (by omega) _).trans (belowD _ _ 1)).grown hgrow5 (by simp;omega) (fun q hq=>(hown4.lt q hq).1)
  ·go_wp2_with (refine wpList_append_lies _ (by rfl) _ _ _ (by rfl) B 5 i0 _ 1 1 Tryz.underlying50 hi0 hz0 hz1 hz2 rfl (by omega) _ n (Lib.byteCells out ++ Lib.byteCells (strO s j)) (by rfl) (hown3.alloc _) ⟨wr.heap.size,0,none⟩ 1 1 [.int .u8 34] (by rfl) (by rfl) (World.news_of_block (cs:=#[.int .u8 34]) (t:=5) (fr:=(0,0)) (heap_new wr _)) (by simp [Value.oneCell']) (by omega) (by unfold maxLen;omega) (by omega) (by simp;omega) (wr.heap.size+1) (by simp) ?_;intro g3 cap3 w4 hown4 hgrow4 hat4 hlt4)
   go_ret
   have hjs:j=s.size:=by omega
   have ht:s.data.toList.take j=s.data.toList:=List.take_of_length_le (by rw [size_list];omega)
   have hq:quoteL s.data.toList=strO s j ++ [34]:=by unfold quoteL strO;rw [ht];simp
   refine ⟨_,rfl,?_,?_,Lib.OthersKept.grown (Lib.OthersKept.alloc hok.out _) hgrow4 (own_kind (hown3.alloc _))⟩
   ·rw [hq,List.length_append,byteCells_append,← List.append_assoc]
    have:=hn.out
    rw [show out.length+((strO s j).length+([34]:List UInt8).length)=n+1 by simp;omega]
    exact hown4
   ·exact (hb.alloc (by omega) _).grown hgrow4 (by simp;omega) (fun q hq=>(hown3.lt q hq).1)
def KeptV (w w':World):Prop:=∀ (b:Nat) (c:Array Value) (fz:Nat×Nat),(w.heap[b]? = some (.cells c 32 fz)∨w.heap[b]? = some (.cells c 107 fz))→w'.heap[b]? = w.heap[b]?
theorem KeptV.of_below {w w':World} (h:Below w.heap.size w w'):KeptV w w':=fun b c fz e=>h.block b (by
 rcases e with e | e <;> exact lt_of_block e)
theorem KeptV.of_others {w w':World}{T:Nat} (h:Lib.OthersKept T none w w') (h1:T≠32) (h2:T≠107):KeptV w w':=fun b c fz e=>by
 rcases e with e | e
 ·rw [e];exact h b _ e (by simp) (fun c' fz' e'=>by cases e';exact h1 rfl)
 ·rw [e];exact h b _ e (by simp) (fun c' fz' e'=>by cases e';exact h2 rfl)
theorem KeptV.rowV {w w':World} (h:KeptV w w') {N n:Nat}{v:Value}{xs:List Value} (o:w.ownsRow N 32 1 v n xs):w'.ownsRow N 32 1 v n xs :=
 owns_same o (fun k hk=>by
  obtain ⟨c,fz,e⟩:=own_kind o k hk
  exact h k c fz (.inl e))
theorem KeptV.rowM {w w':World} (h:KeptV w w') {N n:Nat}{v:Value}{xs:List Value} (o:w.ownsRow N 107 2 v n xs):w'.ownsRow N 107 2 v n xs :=
 owns_same o (fun k hk=>by
  obtain ⟨c,fz,e⟩:=own_kind o k hk
  exact h k c fz (.inr e))
def Sl (w:World) (v:Value) (xs:List IV):Prop:=∃ p cap,v = .slice p xs.length cap∧xs.length≤cap∧cap≤9223372036854775807∧(xs=[]∨∃ a off c,p=some ⟨a,off,none⟩∧w.heap[a]? = some (.cells c 32 (0,0))∧∀ i x,xs[i]? = some x→c[off+i]? = some (iv x))
theorem Sl.keep {w w':World} (h:KeptV w w') {v:Value}{xs:List IV} (s:Sl w v xs):Sl w' v xs:=by
 obtain ⟨p,cap,e,h1,h2,h3⟩:=s
 refine ⟨p,cap,e,h1,h2,?_⟩
 rcases h3 with h3 | ⟨a,off,c,e1,e2,e3⟩
 ·exact .inl h3
 ·exact .inr ⟨a,off,c,e1,(h a c _ (.inl e2)).trans e2,e3⟩
theorem Sl.of_row {w:World}{N:Nat}{v:Value}{xs:List IV} (h:w.ownsRow N 32 1 v xs.length (xs.map iv)):Sl w v xs:=by
 rcases h.2 with ⟨e,h0⟩ | ⟨g,cap,cur,e,_,hb,hn,hm,hs,ht⟩
 ·have:xs=[]:=List.eq_nil_of_length_eq_zero h0
  subst this
  exact ⟨none,0,e,by simp,by omega,.inl rfl⟩
 ·refine ⟨_,cap,e,hn,by simpa [maxLen] using hm,.inr ⟨g,0,cur,rfl,hb,fun i x hx=>?_⟩⟩
  have hi:=(List.getElem?_eq_some_iff.1 hx).1
  have h2:cur.toList[i]? = some (iv x):=by
   rw [← List.getElem?_take_of_lt (show i < xs.length * 1 by omega),ht,List.getElem?_map,hx];rfl
  rw [Nat.zero_add]
  simpa using h2
end Go.Proofs.Tryz
