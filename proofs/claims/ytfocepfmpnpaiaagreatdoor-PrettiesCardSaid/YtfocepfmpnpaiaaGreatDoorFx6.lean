import Derived.Test.YtfocepfmpnpaiaaGreatDoorValB
import Derived.Test.YtfocepfmpnpaiaaGreatDoorLexS
import Derived.Laws.BitsLemmas
import Derived.WalkMore
import Derived.Lib.RuneBytes
set_option linter.all false
namespace Go.Proofs.Tryz
set_option maxHeartbeats 16000000
open Go.RowKit
set_option maxRecDepth 10000
def hexV (c:Int):Option Int :=
 if 48≤c∧c≤57 then some (c - 48) else if 97≤c∧c≤102 then some (c - 97+10) else if 65≤c∧c≤70 then some (c - 65+10) else none
theorem hexV_range {c v:Int} (h:hexV c=some v):0≤v∧v≤15:=by
 unfold hexV at h
 split at h
 ·cases h;omega
 ·split at h
  ·cases h;omega
  ·split at h
   ·cases h;omega
   ·cases h
theorem hexDigit_ok (c:Int) (h0:0≤c) (h1:c≤255) (w:World) :
  Calls Tryz.prog 125 #[.int .u8 c] w fun e w'=>e = .returned (.tuple #[.int .i32 ((hexV c).getD 0),.bool (hexV c).isSome])∧∃ n,w'=w.drewN n:=by
 by_cases hd:48≤c∧c≤57
 ·rw [show hexV c=some (c - 48) by simp only [hexV,if_pos hd]]
  have e1:(decide (48≤c) && decide (c≤57))=true:=by simpa using hd
  go_enter Tryz.func125,Tryz.ntmps125
  go_wp2_with (go_at_call 135;refine (vIsDigit_any c _).mono ?_;rintro e w1 ⟨rfl,rfl⟩;rw [e1])
  go_ret2
  exact ⟨rfl,0,rfl⟩
 ·have e1:(decide (48≤c) && decide (c≤57))=false:=by
   rw [Bool.and_eq_false_iff]
   simp only [decide_eq_false_iff_not]
   omega
  by_cases hl:97≤c∧c≤102
  ·rw [show hexV c=some (c - 97+10) by simp only [hexV,if_neg hd,if_pos hl]]
   obtain ⟨l0,l1⟩:=hl
   go_enter Tryz.func125,Tryz.ntmps125
   go_wp2_with (go_at_call 135;refine (vIsDigit_any c _).mono ?_;rintro e w1 ⟨rfl,rfl⟩;rw [e1])
   go_ret2
   exact ⟨rfl,0,rfl⟩
  ·by_cases hu:65≤c∧c≤70
   ·rw [show hexV c=some (c - 65+10) by simp only [hexV,if_neg hd,if_neg hl,if_pos hu]]
    obtain ⟨u0,u1⟩:=hu
    have l0:¬ 97≤c:=by omega
    go_enter Tryz.func125,Tryz.ntmps125
    go_wp2_with (go_at_call 135;refine (vIsDigit_any c _).mono ?_;rintro e w1 ⟨rfl,rfl⟩;rw [e1])
    go_ret2
    exact ⟨rfl,0,rfl⟩
   ·rw [show hexV c=none by simp only [hexV,if_neg hd,if_neg hl,if_neg hu]]
    by_cases l0:97≤c
    ·have l1:¬ c≤102:=by omega
     have u0:65≤c:=by omega
     have u1:¬ c≤70:=by omega
     go_enter Tryz.func125,Tryz.ntmps125
     go_wp2_with (go_at_call 135;refine (vIsDigit_any c _).mono ?_;rintro e w1 ⟨rfl,rfl⟩;rw [e1])
     go_ret2
     exact ⟨rfl,0,rfl⟩
    ·by_cases u0:65≤c
     ·have u1:¬ c≤70:=by omega
      go_enter Tryz.func125,Tryz.ntmps125
      go_wp2_with (go_at_call 135;refine (vIsDigit_any c _).mono ?_;rintro e w1 ⟨rfl,rfl⟩;rw [e1])
      go_ret2
      exact ⟨rfl,0,rfl⟩
     ·skip
      go_enter Tryz.func125,Tryz.ntmps125
      go_wp2_with (go_at_call 135;refine (vIsDigit_any c _).mono ?_;rintro e w1 ⟨rfl,rfl⟩;rw [e1])
      go_ret2
      exact ⟨rfl,0,rfl⟩
end Go.Proofs.Tryz
namespace Go.Proofs.Tryz
set_option maxHeartbeats 16000000
open Go.RowKit
set_option maxRecDepth 10000
def followV (c:Int):Int×Int×Int :=
 if c < 128 then (0,0,0) else if c < 194 then (0,0,-1) else if 244 < c then (0,0,-1) else if c < 224 then (128,191,1) else if c=224 then (160,191,2) else if c=237 then (128,159,2) else if c < 240 then (128,191,2) else if c=240 then (144,191,3) else if c=244 then (128,143,3) else (128,191,3)
theorem following_ok (c:Int) (b0:0≤c) (b1:c≤255) (w:World) :
  Calls Tryz.prog 86 #[.int .u8 c] w fun e w'=>e = .returned (.tuple #[.int .u8 (followV c).1,.int .u8 (followV c).2.1,.int .i64 (followV c).2.2])∧w'=w:=by
 by_cases n0:c < 128
 ·rw [show followV c=(0,0,0) by simp only [followV,if_pos n0]]
  go_enter Tryz.func86,Tryz.ntmps86
  go_wp2
  go_ret3
  exact ⟨rfl,rfl⟩
 ·skip
  by_cases n1:c < 194
  ·rw [show followV c=(0,0,-1) by simp only [followV,if_neg n0,if_pos n1]]
   go_enter Tryz.func86,Tryz.ntmps86
   go_wp2
   go_ret3
   exact ⟨rfl,rfl⟩
  ·skip
   by_cases n2:244 < c
   ·rw [show followV c=(0,0,-1) by simp only [followV,if_neg n0,if_neg n1,if_pos n2]]
    go_enter Tryz.func86,Tryz.ntmps86
    go_wp2
    go_ret3
    exact ⟨rfl,rfl⟩
   ·skip
    by_cases n3:c < 224
    ·rw [show followV c=(128,191,1) by simp only [followV,if_neg n0,if_neg n1,if_neg n2,if_pos n3]]
     go_enter Tryz.func86,Tryz.ntmps86
     go_wp2
     go_ret3
     exact ⟨rfl,rfl⟩
    ·skip
     by_cases n4:c=224
     ·rw [show followV c=(160,191,2) by simp only [followV,if_neg n0,if_neg n1,if_neg n2,if_neg n3,if_pos n4]]
      subst n4
      go_enter Tryz.func86,Tryz.ntmps86
      go_wp2
      go_ret3
      exact ⟨rfl,rfl⟩
     ·skip
      by_cases n5:c=237
      ·rw [show followV c=(128,159,2) by simp only [followV,if_neg n0,if_neg n1,if_neg n2,if_neg n3,if_neg n4,if_pos n5]]
       subst n5
       go_enter Tryz.func86,Tryz.ntmps86
       go_wp2
       go_ret3
       exact ⟨rfl,rfl⟩
      ·skip
       by_cases n6:c < 240
       ·rw [show followV c=(128,191,2) by simp only [followV,if_neg n0,if_neg n1,if_neg n2,if_neg n3,if_neg n4,if_neg n5,if_pos n6]]
        go_enter Tryz.func86,Tryz.ntmps86
        go_wp2
        go_ret3
        exact ⟨rfl,rfl⟩
       ·skip
        by_cases n7:c=240
        ·rw [show followV c=(144,191,3) by simp only [followV,if_neg n0,if_neg n1,if_neg n2,if_neg n3,if_neg n4,if_neg n5,if_neg n6,if_pos n7]]
         subst n7
         go_enter Tryz.func86,Tryz.ntmps86
         go_wp2
         go_ret3
         exact ⟨rfl,rfl⟩
        ·skip
         by_cases n8:c=244
         ·rw [show followV c=(128,143,3) by simp only [followV,if_neg n0,if_neg n1,if_neg n2,if_neg n3,if_neg n4,if_neg n5,if_neg n6,if_neg n7,if_pos n8]]
          subst n8
          go_enter Tryz.func86,Tryz.ntmps86
          go_wp2
          go_ret3
          exact ⟨rfl,rfl⟩
         ·skip
          rw [show followV c=(128,191,3) by simp only [followV,if_neg n0,if_neg n1,if_neg n2,if_neg n3,if_neg n4,if_neg n5,if_neg n6,if_neg n7,if_neg n8]]
          go_enter Tryz.func86,Tryz.ntmps86
          go_wp2
          go_ret3
          exact ⟨rfl,rfl⟩
def halfB (d:Int):Nat→Bool
 | 0=>decide (13≤d) && decide (d≤13)
 | 1=>decide (220≤d) && decide (d≤223)
 | 2=>decide (3520≤d) && decide (d≤3583)
 | _=>decide (56320≤d) && decide (d≤57343)
theorem begins_ok (d:Int) (i:Nat) (hi:i < 4) (w:World) :
  Calls Tryz.prog 126 #[.int .i32 d,.int .i64 i] w fun e w'=>e = .returned (.bool (halfB d i))∧∃ n,w'=w.drewN n:=by
 match i,hi with
 | 0,_ =>
  by_cases l0:13≤d
  ·by_cases l1:d≤13
   ·rw [show halfB d 0=true by simp [halfB,l0,l1]]
    go_enter Tryz.func126,Tryz.ntmps126
    go_wp2
    go_ret
    exact ⟨rfl,0,rfl⟩
   ·rw [show halfB d 0=false by simp [halfB,l1]]
    go_enter Tryz.func126,Tryz.ntmps126
    go_wp2
    go_ret
    exact ⟨rfl,0,rfl⟩
  ·rw [show halfB d 0=false by simp [halfB,l0]]
   go_enter Tryz.func126,Tryz.ntmps126
   go_wp2
   go_ret
   exact ⟨rfl,0,rfl⟩
 | 1,_ =>
  by_cases l0:220≤d
  ·by_cases l1:d≤223
   ·rw [show halfB d 1=true by simp [halfB,l0,l1]]
    go_enter Tryz.func126,Tryz.ntmps126
    go_wp2
    go_ret
    exact ⟨rfl,0,rfl⟩
   ·rw [show halfB d 1=false by simp [halfB,l1]]
    go_enter Tryz.func126,Tryz.ntmps126
    go_wp2
    go_ret
    exact ⟨rfl,0,rfl⟩
  ·rw [show halfB d 1=false by simp [halfB,l0]]
   go_enter Tryz.func126,Tryz.ntmps126
   go_wp2
   go_ret
   exact ⟨rfl,0,rfl⟩
 | 2,_ =>
  by_cases l0:3520≤d
  ·by_cases l1:d≤3583
   ·rw [show halfB d 2=true by simp [halfB,l0,l1]]
    go_enter Tryz.func126,Tryz.ntmps126
    go_wp2
    go_ret
    exact ⟨rfl,0,rfl⟩
   ·rw [show halfB d 2=false by simp [halfB,l1]]
    go_enter Tryz.func126,Tryz.ntmps126
    go_wp2
    go_ret
    exact ⟨rfl,0,rfl⟩
  ·rw [show halfB d 2=false by simp [halfB,l0]]
   go_enter Tryz.func126,Tryz.ntmps126
   go_wp2
   go_ret
   exact ⟨rfl,0,rfl⟩
 | 3,_ =>
  by_cases l0:56320≤d
  ·by_cases l1:d≤57343
   ·rw [show halfB d 3=true by simp [halfB,l0,l1]]
    go_enter Tryz.func126,Tryz.ntmps126
    go_wp2
    go_ret
    exact ⟨rfl,0,rfl⟩
   ·rw [show halfB d 3=false by simp [halfB,l1]]
    go_enter Tryz.func126,Tryz.ntmps126
    go_wp2
    go_ret
    exact ⟨rfl,0,rfl⟩
  ·rw [show halfB d 3=false by simp [halfB,l0]]
   go_enter Tryz.func126,Tryz.ntmps126
   go_wp2
   go_ret
   exact ⟨rfl,0,rfl⟩
end Go.Proofs.Tryz
namespace Go.Proofs.Tryz
set_option maxHeartbeats 16000000
open Go.RowKit
set_option maxRecDepth 10000
def halfL (s:ByteArray) (start:Nat) (first:Int):Nat→Nat→Int→Int×Int×Bool
 | 0,_,sec=>(65536+(first - 55296) * 1024+(sec - 56320),start+12,true)
 | k+1,i,sec =>
  if start+6+i=s.size then (0,start+6+i,false)
  else if i=0 then if byteAt s (start+6+i)=92 then halfL s start first k (i+1) sec else (0,start,false)
  else if i=1 then if byteAt s (start+6+i)=117 then halfL s start first k (i+1) sec else (0,start,false)
  else match hexV (byteAt s (start+6+i)) with
   | some d=>if halfB (sec * 16+d) (i - 2) then halfL s start first k (i+1) (sec * 16+d) else (0,start,false)
   | none=>(0,start,false)
def upTo (sec:Int):Nat→Prop
 | 0=>sec=0
 | 1=>sec=0
 | 2=>sec=0
 | n+3=>halfB sec n=true
theorem byte_range (s:ByteArray) (a:Nat):0≤byteAt s a∧byteAt s a≤255:=by
 unfold byteAt
 split
 ·rename_i c _
  have:=c.toNat_lt
  omega
 ·omega
theorem byte_at {s:ByteArray}{a:Nat} (h:a < s.size):byteAt s a=(s[a].toNat:Int):=by simp only [byteAt,at_list s a h]
theorem or16 (x d:Int) (x0:0≤x) (x1:x≤100000000) (d0:0≤d) (d1:d≤15):bits .or .i32 (x * 16) d=x * 16+d:=by
 exact bits_join .i32 31 (by decide) (fun n a b=>by simp [IntKind.wrap,IntKind.bits,IntKind.signed];omega) 4 (x * 16) d (by omega) (by omega) (by omega) d0 (by omega) (by omega)
theorem second_ok (s:ByteArray) (start:Nat) (first:Int) (h:start+6≤s.size) (hm:s.size≤1000000000000) (f0:55296≤first) (f1:first≤56319) (w:World) :
  Calls Tryz.prog 127 #[.string s,.int .i64 start,.int .i32 first] w fun e w'=>e = .returned (.tuple #[.int .i32 (halfL s start first 6 0 0).1,.int .i64 (halfL s start first 6 0 0).2.1,.bool (halfL s start first 6 0 0).2.2])∧∃ n,w'=w.drewN n:=by
 obtain ⟨R,hR⟩:∃ R,halfL s start first 6 0 0=R:=⟨_,rfl⟩
 rw [hR]
 have HR:Hid _:=hR
 clear hR
 go_enter Tryz.func127,Tryz.ntmps127
 go_wp2_with fail
 go_loopg [9,16] 6 (fun k v t wr=>∃ (i:Nat) (sec:Int),i+k=6∧start+6+i≤s.size∧t = .int .i64 i∧v = .int .i32 sec∧upTo sec i∧(∃ n,wr=w.drewN n)∧halfL s start first k i sec=R)
 case atStart=>exact ⟨0,0,rfl,h,rfl,rfl,rfl,⟨0,rfl⟩,HR.out⟩
 case round =>
  obtain ⟨i,sec,hik,hle,rfl,rfl,hu,⟨n,rfl⟩,hr⟩:=hrel
  match gk,hik,hr with
  | 0,hik,hr =>
   obtain rfl:i=6:=by omega
   have hu':(decide (56320≤sec) && decide (sec≤57343))=true:=hu
   simp only [Bool.and_eq_true,decide_eq_true_eq] at hu'
   obtain ⟨u0,u1⟩:=hu'
   have HR2:Hid _:=hr
   clear hr hu
   go_wp2_with fail
   go_ret3
   rw [← HR2.out]
   exact ⟨rfl,n,rfl⟩
  | k+1,hik,hr =>
   have i6:(i:Int) < 6:=by omega
   have i0:(0:Int)≤(i:Int):=by omega
   obtain ⟨p,hp⟩:∃ p:Nat,p=start+6+i:=⟨_,rfl⟩
   have hpi:(start:Int)+6+(i:Int)=(p:Int):=by omega
   rw [halfL,← hp] at hr
   have HP:Hid _:=hp
   clear hp
   by_cases hz:p=s.size
   ·rw [if_pos hz] at hr
    have hz':(p:Int)=(s.size:Int):=by omega
    clear hz
    have HR2:Hid _:=hr
    clear hr hu
    go_wp2_with fail
    go_ret3
    rw [← HR2.out,show (start:Int)+6+(i:Int)=(s.size:Int) by omega]
    exact ⟨rfl,n,rfl⟩
   ·have hlt:p < s.size:=by have:=HP.out;omega
    have hz':¬ (p:Int)=(s.size:Int):=by omega
    have hl':(p:Int) < (s.size:Int):=by omega
    have p0:(0:Int)≤(p:Int):=by omega
    rw [if_neg hz] at hr
    clear hz
    obtain ⟨b0,b1⟩:=byte_range s p
    have eb:=byte_at hlt
    obtain ⟨c,hc⟩:∃ c,byteAt s p=c:=⟨_,rfl⟩
    rw [hc] at eb hr b0 b1
    clear hc
    have ec:(s[p].toNat:Int)=c:=eb.symm
    clear eb
    by_cases z0:i=0
    ·rw [if_pos z0] at hr
     have t0:((i:Int) == 0)=true:=by simp;omega
     have HZ:Hid _:=z0
     have hu':sec=0:=by subst z0;exact hu
     clear hu z0
     by_cases hc:c=92
     ·rw [if_pos hc] at hr
      have t1:((s[p].toNat:Int) == 92)=true:=by simp;omega
      have HR2:Hid _:=hr
      clear hr hc ec
      subst hu'
      go_wp2_with fail
      go_roundg k
      case measure=>omega
      case rel=>exact ⟨i+1,0,by omega,by have:=HP.out;omega,by go_num,rfl,by rw [HZ.out];rfl,⟨n,rfl⟩,HR2.out⟩
     ·rw [if_neg hc] at hr
      have t1:((s[p].toNat:Int) == 92)=false:=by simp;omega
      have HR2:Hid _:=hr
      clear hr hc ec
      go_wp2_with fail
      go_ret3
      rw [← HR2.out]
      exact ⟨rfl,n,rfl⟩
    ·rw [if_neg z0] at hr
     have t0:((i:Int) == 0)=false:=by simp;omega
     by_cases z1:i=1
     ·rw [if_pos z1] at hr
      have t2:((i:Int) == 1)=true:=by simp;omega
      have HZ:Hid _:=z1
      have hu':sec=0:=by subst z1;exact hu
      clear hu z0 z1
      by_cases hc:c=117
      ·rw [if_pos hc] at hr
       have t1:((s[p].toNat:Int) == 117)=true:=by simp;omega
       have HR2:Hid _:=hr
       clear hr hc ec
       subst hu'
       go_wp2_with fail
       go_roundg k
       case measure=>omega
       case rel=>exact ⟨i+1,0,by omega,by have:=HP.out;omega,by go_num,rfl,by rw [HZ.out];rfl,⟨n,rfl⟩,HR2.out⟩
      ·rw [if_neg hc] at hr
       have t1:((s[p].toNat:Int) == 117)=false:=by simp;omega
       have HR2:Hid _:=hr
       clear hr hc ec
       go_wp2_with fail
       go_ret3
       rw [← HR2.out]
       exact ⟨rfl,n,rfl⟩
     ·rw [if_neg z1] at hr
      have t2:((i:Int) == 1)=false:=by simp;omega
      obtain ⟨j,hj⟩:∃ j:Nat,i=j+2:=⟨i - 2,by omega⟩
      have hij:(i:Int) - 2=(j:Int):=by omega
      have hj4:j < 4:=by omega
      have sb:0≤sec∧sec≤3583:=by
       subst hj
       match j,hj4,hu with
       | 0,_,hu=>have:sec=0:=hu;omega
       | 1,_,hu=>have:(decide (13≤sec) && decide (sec≤13))=true:=hu;simp at this;omega
       | 2,_,hu=>have:(decide (220≤sec) && decide (sec≤223))=true:=hu;simp at this;omega
       | 3,_,hu=>have:(decide (3520≤sec) && decide (sec≤3583))=true:=hu;simp at this;omega
      obtain ⟨s0,s1⟩:=sb
      have hj2:i - 2=j:=by omega
      rw [hj2] at hr
      have HJ:Hid _:=hj
      clear hu z0 z1 hj hj2
      subst ec
      cases hx:hexV (s[p].toNat:Int) with
      | none =>
       rw [hx] at hr
       have HR2:Hid _:=hr
       clear hr
       have eo:bits .or .i32 (sec * 16) 0=sec * 16:=by have:=or16 sec 0 s0 (by omega) (by omega) (by omega);simpa using this
       go_wp2_with (go_at_call 125;refine (hexDigit_ok _ b0 b1 _).mono ?_;rintro e w1 ⟨rfl,m,rfl⟩;rw [hx])
       go_ret3
       rw [← HR2.out]
       exact ⟨rfl,_,rfl⟩
      | some d =>
       rw [hx] at hr
       obtain ⟨d0,d1⟩:=hexV_range hx
       have eo:bits .or .i32 (sec * 16) d=sec * 16+d:=or16 sec d s0 (by omega) d0 d1
       cases hb:halfB (sec * 16+d) j with
       | true =>
        simp only [hb,if_true] at hr
        have HR2:Hid _:=hr
        clear hr
        have hw:Hid (upTo (sec * 16+d) (i+1)):=by rw [HJ.out];exact hb
        go_wp2_with (first
         | (go_at_call 125;refine (hexDigit_ok _ b0 b1 _).mono ?_;rintro e w1 ⟨rfl,m,rfl⟩;rw [hx])
         | (go_at_call 126;refine (begins_ok _ j hj4 _).mono ?_;rintro e w1 ⟨rfl,m2,rfl⟩;rw [hb]))
        go_roundg k
        case measure=>omega
        case rel=>exact ⟨i+1,sec * 16+d,by omega,by have:=HP.out;omega,by go_num,rfl,hw.out,⟨_,rfl⟩,HR2.out⟩
       | false =>
        simp only [hb] at hr
        have HR2:Hid _:=hr
        clear hr
        go_wp2_with (first
         | (go_at_call 125;refine (hexDigit_ok _ b0 b1 _).mono ?_;rintro e w1 ⟨rfl,m,rfl⟩;rw [hx])
         | (go_at_call 126;refine (begins_ok _ j hj4 _).mono ?_;rintro e w1 ⟨rfl,m2,rfl⟩;rw [hb]))
        go_ret3
        rw [← HR2.out]
        exact ⟨rfl,_,rfl⟩
end Go.Proofs.Tryz
namespace Go.Proofs.Tryz
set_option maxHeartbeats 16000000
open Go.RowKit
set_option maxRecDepth 10000
def uniL (s:ByteArray) (start:Nat):Nat→Nat→Int→Int×Int×Bool
 | 0,_,ch=>if ch < 55296 then (ch,start+6,true) else if 57343 < ch then (ch,start+6,true) else halfL s start ch 6 0 0
 | k+1,i,ch =>
  if start+2+i=s.size then (0,start+2+i,false)
  else match hexV (byteAt s (start+2+i)) with
   | none=>(0,start+2+i,false)
   | some d=>if i=1 then if halfB (ch * 16+d) 1 then (0,start,false) else uniL s start k (i+1) (ch * 16+d) else uniL s start k (i+1) (ch * 16+d)
def uniUp (ch:Int):Nat→Prop
 | 0=>ch=0
 | 1=>0≤ch∧ch≤15
 | 2=>0≤ch∧ch≤255∧¬ (220≤ch∧ch≤223)
 | 3=>0≤ch∧ch≤4095∧¬ (3520≤ch∧ch≤3583)
 | _=>0≤ch∧ch≤65535∧¬ (56320≤ch∧ch≤57343)
theorem uniUp_step {ch d:Int}{i:Nat} (h:uniUp ch i) (hi:i < 4) (d0:0≤d) (d1:d≤15) (hb:i=1→halfB (ch * 16+d) 1=false):uniUp (ch * 16+d) (i+1):=by
 match i,hi,h,hb with
 | 0,_,h,_=>have h:ch=0:=h;subst h;exact ⟨by omega,by omega⟩
 | 1,_,h,hb =>
  obtain ⟨a,b⟩:=h
  have hb:=hb rfl
  have hb:(decide (220≤ch * 16+d) && decide (ch * 16+d≤223))=false:=hb
  refine ⟨by omega,by omega,fun ⟨x,y⟩=>?_⟩
  simp [x,y] at hb
 | 2,_,h,_=>obtain ⟨a,b,c⟩:=h;exact ⟨by omega,by omega,by omega⟩
 | 3,_,h,_=>obtain ⟨a,b,c⟩:=h;exact ⟨by omega,by omega,by omega⟩
theorem uniUp_range {ch:Int}{i:Nat} (h:uniUp ch i):0≤ch∧ch≤65535:=by
 match i,h with
 | 0,h=>have h:ch=0:=h;omega
 | 1,h=>obtain ⟨a,b⟩:=h;omega
 | 2,h=>obtain ⟨a,b,c⟩:=h;omega
 | 3,h=>obtain ⟨a,b,c⟩:=h;omega
 | _+4,h=>obtain ⟨a,b,c⟩:=h;omega
theorem unicode_ok (s:ByteArray) (start:Nat) (h:start+2≤s.size) (hm:s.size≤1000000000000) (w:World) :
  Calls Tryz.prog 107 #[.string s,.int .i64 start] w fun e w'=>e = .returned (.tuple #[.int .i32 (uniL s start 4 0 0).1,.int .i64 (uniL s start 4 0 0).2.1,.bool (uniL s start 4 0 0).2.2])∧∃ n,w'=w.drewN n:=by
 obtain ⟨R,hR⟩:∃ R,uniL s start 4 0 0=R:=⟨_,rfl⟩
 rw [hR]
 have HR:Hid _:=hR
 clear hR
 go_enter Tryz.func107,Tryz.ntmps107
 go_wp2_with fail
 go_loopg [7,12] 4 (fun k v t wr=>∃ (i:Nat) (ch:Int),i+k=4∧start+2+i≤s.size∧t = .int .i64 i∧v = .int .i32 ch∧uniUp ch i∧(∃ n,wr=w.drewN n)∧uniL s start k i ch=R)
 case atStart=>exact ⟨0,0,rfl,h,rfl,rfl,rfl,⟨0,rfl⟩,HR.out⟩
 case round =>
  obtain ⟨i,ch,hik,hle,rfl,rfl,hu,⟨n,rfl⟩,hr⟩:=hrel
  obtain ⟨r0,r1⟩:=uniUp_range hu
  match gk,hik,hr with
  | 0,hik,hr =>
   obtain rfl:i=4:=by omega
   obtain ⟨_,_,u2⟩:=hu
   rw [uniL] at hr
   by_cases c0:ch < 55296
   ·rw [if_pos c0] at hr
    have HR2:Hid _:=hr
    clear hr u2
    go_wp2_with fail
    go_ret3
    rw [← HR2.out]
    exact ⟨rfl,n,rfl⟩
   ·rw [if_neg c0] at hr
    by_cases c1:57343 < ch
    ·rw [if_pos c1] at hr
     have HR2:Hid _:=hr
     clear hr u2
     go_wp2_with fail
     go_ret3
     rw [← HR2.out]
     exact ⟨rfl,n,rfl⟩
    ·rw [if_neg c1] at hr
     have g0:55296≤ch:=by omega
     have g1:ch≤56319:=by omega
     have hs6:start+6≤s.size:=by omega
     have HR2:Hid _:=hr
     clear hr u2
     go_wp2_with (go_at_call 127;refine (second_ok s start ch hs6 hm g0 g1 _).mono ?_;rintro e w1 ⟨rfl,m,rfl⟩;rw [HR2.out])
     go_ret3
     exact ⟨rfl,_,rfl⟩
  | k+1,hik,hr =>
   have i4:(i:Int) < 4:=by omega
   have i0:(0:Int)≤(i:Int):=by omega
   have hi4:i < 4:=by omega
   obtain ⟨p,hp⟩:∃ p:Nat,p=start+2+i:=⟨_,rfl⟩
   have hpi:(start:Int)+2+(i:Int)=(p:Int):=by omega
   rw [uniL,← hp] at hr
   have HP:Hid _:=hp
   clear hp
   by_cases hz:p=s.size
   ·rw [if_pos hz] at hr
    have hz':(p:Int)=(s.size:Int):=by omega
    clear hz
    have HR2:Hid _:=hr
    clear hr hu
    go_wp2_with fail
    go_ret3
    rw [← HR2.out,show (start:Int)+2+(i:Int)=(s.size:Int) by omega]
    exact ⟨rfl,n,rfl⟩
   ·have hlt:p < s.size:=by have:=HP.out;omega
    have hz':¬ (p:Int)=(s.size:Int):=by omega
    have hl':(p:Int) < (s.size:Int):=by omega
    have p0:(0:Int)≤(p:Int):=by omega
    rw [if_neg hz] at hr
    clear hz
    obtain ⟨b0,b1⟩:=byte_range s p
    have eb:=byte_at hlt
    rw [eb] at hr b0 b1
    clear eb
    cases hx:hexV (s[p].toNat:Int) with
    | none =>
     rw [hx] at hr
     have HR2:Hid _:=hr
     clear hr hu
     go_wp2_with (go_at_call 125;refine (hexDigit_ok _ b0 b1 _).mono ?_;rintro e w1 ⟨rfl,m,rfl⟩;rw [hx])
     go_ret3
     rw [← HR2.out,show (start:Int)+2+(i:Int)=(p:Int) by omega]
     exact ⟨rfl,_,rfl⟩
    | some d =>
     rw [hx] at hr
     obtain ⟨d0,d1⟩:=hexV_range hx
     have eo:bits .or .i32 (ch * 16) d=ch * 16+d:=or16 ch d r0 (by omega) d0 d1
     by_cases z1:i=1
     ·have t2:((i:Int) == 1)=true:=by simp;omega
      have hh:halfB (ch * 16+d) 1=halfB (ch * 16+d) i:=by rw [z1]
      simp only [if_pos z1,hh] at hr
      cases hb:halfB (ch * 16+d) i with
      | true =>
       simp only [hb,if_true] at hr
       have HR2:Hid _:=hr
       clear hr hu hh z1
       go_wp2_with (first
        | (go_at_call 125;refine (hexDigit_ok _ b0 b1 _).mono ?_;rintro e w1 ⟨rfl,m,rfl⟩;rw [hx])
        | (go_at_call 126;refine (begins_ok _ i hi4 _).mono ?_;rintro e w1 ⟨rfl,m2,rfl⟩;rw [hb]))
       go_ret3
       rw [← HR2.out]
       exact ⟨rfl,_,rfl⟩
      | false =>
       simp only [hb] at hr
       have HU:Hid (uniUp (ch * 16+d) (i+1)):=uniUp_step hu hi4 d0 d1 (fun _=>by rw [hh];exact hb)
       have HR2:Hid _:=hr
       clear hr hu hh z1
       go_wp2_with (first
        | (go_at_call 125;refine (hexDigit_ok _ b0 b1 _).mono ?_;rintro e w1 ⟨rfl,m,rfl⟩;rw [hx])
        | (go_at_call 126;refine (begins_ok _ i hi4 _).mono ?_;rintro e w1 ⟨rfl,m2,rfl⟩;rw [hb]))
       go_roundg k
       case measure=>omega
       case rel=>exact ⟨i+1,ch * 16+d,by omega,by have:=HP.out;omega,by go_num,rfl,HU.out,⟨_,rfl⟩,by simpa using HR2.out⟩
     ·have t2:((i:Int) == 1)=false:=by simp;omega
      simp only [if_neg z1] at hr
      have HU:Hid (uniUp (ch * 16+d) (i+1)):=uniUp_step hu hi4 d0 d1 (fun e=>absurd e z1)
      have HR2:Hid _:=hr
      clear hr hu z1
      go_wp2_with (go_at_call 125;refine (hexDigit_ok _ b0 b1 _).mono ?_;rintro e w1 ⟨rfl,m,rfl⟩;rw [hx])
      go_roundg k
      case measure=>omega
      case rel=>exact ⟨i+1,ch * 16+d,by omega,by have:=HP.out;omega,by go_num,rfl,HU.out,⟨_,rfl⟩,HR2.out⟩
end Go.Proofs.Tryz
namespace Go.Proofs.Tryz
set_option maxHeartbeats 16000000
open Go.RowKit
set_option maxRecDepth 10000
def escC (s:ByteArray) (at_:Nat) (c:Int):Int×Int×Bool :=
 if c=34 then (34,at_+2,true) else if c=92 then (92,at_+2,true) else if c=47 then (47,at_+2,true) else if c=98 then (8,at_+2,true) else if c=102 then (12,at_+2,true) else if c=110 then (10,at_+2,true) else if c=114 then (13,at_+2,true) else if c=116 then (9,at_+2,true) else if c=117 then uniL s at_ 4 0 0 else (0,at_+1,false)
def escV (s:ByteArray) (at_:Nat):Int×Int×Bool :=
 if at_+1=s.size then (0,s.size,false) else escC s at_ (byteAt s (at_+1))
theorem escape_ok (s:ByteArray) (a:Nat) (h:a < s.size) (hm:s.size≤1000000000000) (w:World) :
  Calls Tryz.prog 84 #[.string s,.int .i64 a] w fun e w'=>e = .returned (.tuple #[.int .i32 (escV s a).1,.int .i64 (escV s a).2.1,.bool (escV s a).2.2])∧∃ n,w'=w.drewN n:=by
 unfold escV
 by_cases hz:a+1=s.size
 ·rw [if_pos hz]
  have hz':(a:Int)+1=(s.size:Int):=by omega
  clear hz
  go_enter Tryz.func84,Tryz.ntmps84
  go_wp2_with fail
  go_ret3
  exact ⟨rfl,0,rfl⟩
 ·rw [if_neg hz]
  obtain ⟨p,hp⟩:∃ p:Nat,p=a+1:=⟨_,rfl⟩
  have hpi:(a:Int)+1=(p:Int):=by omega
  have hlt:p < s.size:=by omega
  have hz':¬ (p:Int)=(s.size:Int):=by omega
  have hl':(p:Int) < (s.size:Int):=by omega
  have p0:(0:Int)≤(p:Int):=by omega
  have h2:a+2≤s.size:=by omega
  rw [← hp]
  have HP:Hid _:=hp
  clear hp hz
  obtain ⟨b0,b1⟩:=byte_range s p
  have eb:=byte_at hlt
  rw [eb] at b0 b1 ⊢
  clear eb
  obtain ⟨R,hR⟩:∃ R,escC s a (s[p].toNat:Int)=R:=⟨_,rfl⟩
  rw [hR]
  by_cases n0:(s[p].toNat:Int)=34
  ·rw [escC,if_pos n0] at hR
   have t0:((s[p].toNat:Int) == 34)=true:=by simpa using n0
   have HR:Hid _:=hR
   have HN:Hid _:=n0
   clear hR n0
   go_enter Tryz.func84,Tryz.ntmps84
   go_wp2_with fail
   go_ret3
   rw [← HR.out]
   rw [show ((34:Int))=(s[p].toNat:Int) from HN.out.symm]
   exact ⟨rfl,0,rfl⟩
  ·skip
   by_cases n1:(s[p].toNat:Int)=92
   ·rw [escC,if_neg n0,if_pos n1] at hR
    have t0:((s[p].toNat:Int) == 34)=false:=by simpa using n0
    have t1:((s[p].toNat:Int) == 92)=true:=by simpa using n1
    have HR:Hid _:=hR
    have HN:Hid _:=n1
    clear hR n0 n1
    go_enter Tryz.func84,Tryz.ntmps84
    go_wp2_with fail
    go_ret3
    rw [← HR.out]
    rw [show ((92:Int))=(s[p].toNat:Int) from HN.out.symm]
    exact ⟨rfl,0,rfl⟩
   ·skip
    by_cases n2:(s[p].toNat:Int)=47
    ·rw [escC,if_neg n0,if_neg n1,if_pos n2] at hR
     have t0:((s[p].toNat:Int) == 34)=false:=by simpa using n0
     have t1:((s[p].toNat:Int) == 92)=false:=by simpa using n1
     have t2:((s[p].toNat:Int) == 47)=true:=by simpa using n2
     have HR:Hid _:=hR
     have HN:Hid _:=n2
     clear hR n0 n1 n2
     go_enter Tryz.func84,Tryz.ntmps84
     go_wp2_with fail
     go_ret3
     rw [← HR.out]
     rw [show ((47:Int))=(s[p].toNat:Int) from HN.out.symm]
     exact ⟨rfl,0,rfl⟩
    ·skip
     by_cases n3:(s[p].toNat:Int)=98
     ·rw [escC,if_neg n0,if_neg n1,if_neg n2,if_pos n3] at hR
      have t0:((s[p].toNat:Int) == 34)=false:=by simpa using n0
      have t1:((s[p].toNat:Int) == 92)=false:=by simpa using n1
      have t2:((s[p].toNat:Int) == 47)=false:=by simpa using n2
      have t3:((s[p].toNat:Int) == 98)=true:=by simpa using n3
      have HR:Hid _:=hR
      have HN:Hid _:=n3
      clear hR n0 n1 n2 n3
      go_enter Tryz.func84,Tryz.ntmps84
      go_wp2_with fail
      go_ret3
      rw [← HR.out]
      exact ⟨rfl,0,rfl⟩
     ·skip
      by_cases n4:(s[p].toNat:Int)=102
      ·rw [escC,if_neg n0,if_neg n1,if_neg n2,if_neg n3,if_pos n4] at hR
       have t0:((s[p].toNat:Int) == 34)=false:=by simpa using n0
       have t1:((s[p].toNat:Int) == 92)=false:=by simpa using n1
       have t2:((s[p].toNat:Int) == 47)=false:=by simpa using n2
       have t3:((s[p].toNat:Int) == 98)=false:=by simpa using n3
       have t4:((s[p].toNat:Int) == 102)=true:=by simpa using n4
       have HR:Hid _:=hR
       have HN:Hid _:=n4
       clear hR n0 n1 n2 n3 n4
       go_enter Tryz.func84,Tryz.ntmps84
       go_wp2_with fail
       go_ret3
       rw [← HR.out]
       exact ⟨rfl,0,rfl⟩
      ·skip
       by_cases n5:(s[p].toNat:Int)=110
       ·rw [escC,if_neg n0,if_neg n1,if_neg n2,if_neg n3,if_neg n4,if_pos n5] at hR
        have t0:((s[p].toNat:Int) == 34)=false:=by simpa using n0
        have t1:((s[p].toNat:Int) == 92)=false:=by simpa using n1
        have t2:((s[p].toNat:Int) == 47)=false:=by simpa using n2
        have t3:((s[p].toNat:Int) == 98)=false:=by simpa using n3
        have t4:((s[p].toNat:Int) == 102)=false:=by simpa using n4
        have t5:((s[p].toNat:Int) == 110)=true:=by simpa using n5
        have HR:Hid _:=hR
        have HN:Hid _:=n5
        clear hR n0 n1 n2 n3 n4 n5
        go_enter Tryz.func84,Tryz.ntmps84
        go_wp2_with fail
        go_ret3
        rw [← HR.out]
        exact ⟨rfl,0,rfl⟩
       ·skip
        by_cases n6:(s[p].toNat:Int)=114
        ·rw [escC,if_neg n0,if_neg n1,if_neg n2,if_neg n3,if_neg n4,if_neg n5,if_pos n6] at hR
         have t0:((s[p].toNat:Int) == 34)=false:=by simpa using n0
         have t1:((s[p].toNat:Int) == 92)=false:=by simpa using n1
         have t2:((s[p].toNat:Int) == 47)=false:=by simpa using n2
         have t3:((s[p].toNat:Int) == 98)=false:=by simpa using n3
         have t4:((s[p].toNat:Int) == 102)=false:=by simpa using n4
         have t5:((s[p].toNat:Int) == 110)=false:=by simpa using n5
         have t6:((s[p].toNat:Int) == 114)=true:=by simpa using n6
         have HR:Hid _:=hR
         have HN:Hid _:=n6
         clear hR n0 n1 n2 n3 n4 n5 n6
         go_enter Tryz.func84,Tryz.ntmps84
         go_wp2_with fail
         go_ret3
         rw [← HR.out]
         exact ⟨rfl,0,rfl⟩
        ·skip
         by_cases n7:(s[p].toNat:Int)=116
         ·rw [escC,if_neg n0,if_neg n1,if_neg n2,if_neg n3,if_neg n4,if_neg n5,if_neg n6,if_pos n7] at hR
          have t0:((s[p].toNat:Int) == 34)=false:=by simpa using n0
          have t1:((s[p].toNat:Int) == 92)=false:=by simpa using n1
          have t2:((s[p].toNat:Int) == 47)=false:=by simpa using n2
          have t3:((s[p].toNat:Int) == 98)=false:=by simpa using n3
          have t4:((s[p].toNat:Int) == 102)=false:=by simpa using n4
          have t5:((s[p].toNat:Int) == 110)=false:=by simpa using n5
          have t6:((s[p].toNat:Int) == 114)=false:=by simpa using n6
          have t7:((s[p].toNat:Int) == 116)=true:=by simpa using n7
          have HR:Hid _:=hR
          have HN:Hid _:=n7
          clear hR n0 n1 n2 n3 n4 n5 n6 n7
          go_enter Tryz.func84,Tryz.ntmps84
          go_wp2_with fail
          go_ret3
          rw [← HR.out]
          exact ⟨rfl,0,rfl⟩
         ·skip
          by_cases n8:(s[p].toNat:Int)=117
          ·rw [escC,if_neg n0,if_neg n1,if_neg n2,if_neg n3,if_neg n4,if_neg n5,if_neg n6,if_neg n7,if_pos n8] at hR
           have t0:((s[p].toNat:Int) == 34)=false:=by simpa using n0
           have t1:((s[p].toNat:Int) == 92)=false:=by simpa using n1
           have t2:((s[p].toNat:Int) == 47)=false:=by simpa using n2
           have t3:((s[p].toNat:Int) == 98)=false:=by simpa using n3
           have t4:((s[p].toNat:Int) == 102)=false:=by simpa using n4
           have t5:((s[p].toNat:Int) == 110)=false:=by simpa using n5
           have t6:((s[p].toNat:Int) == 114)=false:=by simpa using n6
           have t7:((s[p].toNat:Int) == 116)=false:=by simpa using n7
           have t8:((s[p].toNat:Int) == 117)=true:=by simpa using n8
           have HR:Hid _:=hR
           have HN:Hid _:=n8
           clear hR n0 n1 n2 n3 n4 n5 n6 n7 n8
           go_enter Tryz.func84,Tryz.ntmps84
           go_wp2_with (go_at_call 107;refine (unicode_ok s a h2 hm _).mono ?_;rintro e w1 ⟨rfl,m,rfl⟩;rw [HR.out])
           go_ret3
           exact ⟨rfl,_,rfl⟩
          ·skip
           rw [escC,if_neg n0,if_neg n1,if_neg n2,if_neg n3,if_neg n4,if_neg n5,if_neg n6,if_neg n7,if_neg n8] at hR
           have t0:((s[p].toNat:Int) == 34)=false:=by simpa using n0
           have t1:((s[p].toNat:Int) == 92)=false:=by simpa using n1
           have t2:((s[p].toNat:Int) == 47)=false:=by simpa using n2
           have t3:((s[p].toNat:Int) == 98)=false:=by simpa using n3
           have t4:((s[p].toNat:Int) == 102)=false:=by simpa using n4
           have t5:((s[p].toNat:Int) == 110)=false:=by simpa using n5
           have t6:((s[p].toNat:Int) == 114)=false:=by simpa using n6
           have t7:((s[p].toNat:Int) == 116)=false:=by simpa using n7
           have t8:((s[p].toNat:Int) == 117)=false:=by simpa using n8
           have HR:Hid _:=hR
           clear hR n0 n1 n2 n3 n4 n5 n6 n7 n8
           go_enter Tryz.func84,Tryz.ntmps84
           go_wp2_with fail
           go_ret3
           rw [← HR.out,hpi]
           exact ⟨rfl,0,rfl⟩
end Go.Proofs.Tryz
namespace Go.Proofs.Tryz
set_option maxHeartbeats 16000000
open Go.RowKit
set_option maxRecDepth 10000
def Good3 (s:ByteArray) (a:Nat) (r:Int×Int×Bool):Prop:=r.2.2=true→0≤r.1∧r.1≤1114111∧∃ q:Nat,r.2.1=q∧a < q∧q≤s.size
theorem half_good {s:ByteArray}{start:Nat}{first:Int} (f0:55296≤first) (f1:first≤56319):∀ (k i:Nat) (sec:Int),i+k=6→start+6+i≤s.size→upTo sec i→Good3 s start (halfL s start first k i sec)
 | 0,i,sec,hik,hle,hu=>by
  obtain rfl:i=6:=by omega
  have hu':(decide (56320≤sec) && decide (sec≤57343))=true:=hu
  simp only [Bool.and_eq_true,decide_eq_true_eq] at hu'
  intro _
  exact ⟨by simp only [halfL];omega,by simp only [halfL];omega,start+12,by simp only [halfL];omega,by omega,by omega⟩
 | k+1,i,sec,hik,hle,hu=>by
  rw [halfL]
  split
  ·intro h;cases h
  ·rename_i hz
   split
   ·rename_i z0
    split
    ·exact half_good f0 f1 k (i+1) sec (by omega) (by omega) (by subst z0;exact hu)
    ·intro h;cases h
   ·split
    ·rename_i z1
     split
     ·exact half_good f0 f1 k (i+1) sec (by omega) (by omega) (by subst z1;exact hu)
     ·intro h;cases h
    ·rename_i z0 z1
     split
     ·rename_i d hd
      split
      ·rename_i hb
       obtain ⟨j,rfl⟩:∃ j,i=j+2:=⟨i - 2,by omega⟩
       exact half_good f0 f1 k (j+2+1) _ (by omega) (by omega) hb
      ·intro h;cases h
     ·intro h;cases h
theorem uni_good {s:ByteArray}{start:Nat}:∀ (k i:Nat) (ch:Int),i+k=4→start+2+i≤s.size→uniUp ch i→Good3 s start (uniL s start k i ch)
 | 0,i,ch,hik,hle,hu=>by
  obtain rfl:i=4:=by omega
  obtain ⟨u0,u1,u2⟩:=hu
  rw [uniL]
  split
  ·intro _;exact ⟨u0,by simp only;omega,start+6,by simp only;omega,by omega,by omega⟩
  ·split
   ·intro _;exact ⟨u0,by simp only;omega,start+6,by simp only;omega,by omega,by omega⟩
   ·exact half_good (by omega) (by omega) 6 0 0 rfl (by omega) rfl
 | k+1,i,ch,hik,hle,hu=>by
  rw [uniL]
  split
  ·intro h;cases h
  ·rename_i hz
   split
   ·intro h;cases h
   ·rename_i d hd
    obtain ⟨d0,d1⟩:=hexV_range hd
    split
    ·rename_i z1
     split
     ·intro h;cases h
     ·rename_i hb
      exact uni_good k (i+1) _ (by omega) (by omega) (uniUp_step hu (by omega) d0 d1 (fun _=>by simpa using hb))
    ·rename_i z1
     exact uni_good k (i+1) _ (by omega) (by omega) (uniUp_step hu (by omega) d0 d1 (fun e=>absurd e z1))
theorem esc_good {s:ByteArray}{a:Nat} (h:a < s.size):Good3 s a (escV s a):=by
 unfold escV
 split
 ·intro h;cases h
 ·rename_i hz
  unfold escC
  repeat' split
  all_goals first
   | exact uni_good 4 0 0 rfl (by omega) rfl
   | (intro h;cases h;done)
   | (intro _;exact ⟨by simp only;omega,by simp only;omega,a+2,by simp only;omega,by omega,by omega⟩)
end Go.Proofs.Tryz
namespace Go.Proofs.Tryz
set_option maxHeartbeats 16000000
open Go.RowKit
set_option maxRecDepth 10000
def tailL (s:ByteArray):Nat→Nat→Int→Int→Nat×Bool
 | 0,a,_,_=>(a,true)
 | k+1,a,lo,hi=>if a=s.size then (a,false) else if byteAt s a < lo then (a,false) else if hi < byteAt s a then (a,false) else tailL s k (a+1) 128 191
def strL (s:ByteArray):Nat→Nat→List UInt8→List UInt8×Int×Bool
 | 0,a,_=>([],a,false)
 | k+1,a,cs =>
  if s.size≤a then ([],a,false)
  else if byteAt s a=34 then (cs,a+1,true)
  else if byteAt s a < 32 then ([],a,false)
  else if byteAt s a=92 then (if (escV s a).2.2 then strL s k (escV s a).2.1.toNat (cs ++ Lib.encodeRune (escV s a).1) else ([],(escV s a).2.1,false))
  else if (followV (byteAt s a)).2.2 < 0 then ([],a,false)
  else if (tailL s (followV (byteAt s a)).2.2.toNat (a+1) (followV (byteAt s a)).1 (followV (byteAt s a)).2.1).2 then
   strL s k (tailL s (followV (byteAt s a)).2.2.toNat (a+1) (followV (byteAt s a)).1 (followV (byteAt s a)).2.1).1 (cs ++ ((s.data.toList.drop a).take ((tailL s (followV (byteAt s a)).2.2.toNat (a+1) (followV (byteAt s a)).1 (followV (byteAt s a)).2.1).1 - a)))
  else ([],(tailL s (followV (byteAt s a)).2.2.toNat (a+1) (followV (byteAt s a)).1 (followV (byteAt s a)).2.1).1,false)
def AppendsRune:Prop:=∀ (B n:Nat) (r:Int) (sv:Value) (xs:List Value) (w:World),-2147483648≤r→r≤2147483647→w.ownsRow B 5 1 sv n xs→B≤w.heap.size→n+4≤140737488355328→
 Calls Tryz.prog 85 #[sv,.int .i32 r] w fun e w'=>∃ v',e = .returned v'∧w'.ownsRow B 5 1 v' (n+(Lib.runeCells r).length) (xs ++ Lib.runeCells r)∧Below B w w'
theorem conv_nil (w:World):Sem.run Tryz.prog (Go.convert 65 9 (.slice none 0 0)) w = .ok (.string ⟨#[]⟩) w:=by kernel_rfl
theorem follow_range (c:Int):(followV c).2.2 = -1∨∃ m:Nat,m≤3∧(followV c).2.2=m:=by
 unfold followV
 repeat' split
 all_goals first
  | exact .inl rfl
  | exact .inr ⟨0,by omega,rfl⟩
  | exact .inr ⟨1,by omega,rfl⟩
  | exact .inr ⟨2,by omega,rfl⟩
  | exact .inr ⟨3,by omega,rfl⟩
theorem take_one (s:ByteArray) (a j:Nat) (h:a+j < s.size):(s.data.toList.drop a).take (j+1)=(s.data.toList.drop a).take j ++ [s[a+j]]:=by
 rw [List.take_succ,List.getElem?_drop,at_list s (a+j) h]
 rfl
theorem belowD (B:Nat) (w:World) (m:Nat):Below B w (w.drewN m):=⟨rfl,rfl,rfl,Nat.le_refl _,fun _ _=>rfl⟩
theorem rune_len (r:Int):(Lib.runeCells r).length≤4:=by
 unfold Lib.runeCells Lib.encodeRuneZ
 rw [List.length_map]
 repeat' split
 all_goals simp
theorem string_ok (hA:AppendsRune) (s:ByteArray) (a0:Nat) (h:a0 < s.size) (hm:s.size≤10000000) (w:World) :
  Calls Tryz.prog 65 #[.string s,.int .i64 a0] w fun e w'=>Below w.heap.size w w'∧∃ t,e = .returned (.tuple #[.string t,.int .i64 (strL s (s.size+1) (a0+1) []).2.1,.bool (strL s (s.size+1) (a0+1) []).2.2])∧t.data.toList=(strL s (s.size+1) (a0+1) []).1:=by
 obtain ⟨R,hR⟩:∃ R,strL s (s.size+1) (a0+1) []=R:=⟨_,rfl⟩
 rw [hR]
 have HR:Hid _:=hR
 clear hR
 obtain ⟨i0,hi0,hz0,hz1,hz2⟩:=info_parts (show (Tryz.prog.info? 5).map (fun i=>(i.zero,i.size,i.bytes))=some (some (.int .u8 0),1,1) by kernel_rfl)
 go_enter Tryz.func65,Tryz.ntmps65
 go_wp2_with fail
 go_step3
 go_wp2_with fail
 go_step3
 go_wp2_with fail
 go_loopg [1,7] (s.size+1) (fun k v t wr=>∃ (a:Nat) (cs:List UInt8),a≤s.size∧s.size+1≤a+k∧v = .int .i64 a∧Below w.heap.size w wr∧wr.ownsRow w.heap.size 5 1 t cs.length (Lib.byteCells cs)∧cs.length+4 * k≤100000000∧strL s k a cs=R)
 case atStart=>exact ⟨a0+1,[],by omega,by omega,rfl,Below.refl _ _,World.ownsRow_nil _ _ _ _,by simp;omega,HR.out⟩
 case round =>
  obtain ⟨a,cs,ha,hk,rfl,hb,hown,hlen,hr⟩:=hrel
  match gk,hk,hr,hlen with
  | 0,hk,hr,hlen=>omega
  | k+1,hk,hr,hlen =>
   rw [strL] at hr
   by_cases hz:s.size≤a
   ·rw [if_pos hz] at hr
    have hz':¬ (a:Int) < (s.size:Int):=by omega
    have HR2:Hid _:=hr
    clear hr hz
    go_wp2_with fail
    go_ret3
    rw [← HR2.out]
    exact ⟨hb,_,rfl,rfl⟩
   ·rw [if_neg hz] at hr
    have hl':(a:Int) < (s.size:Int):=by omega
    have p0:(0:Int)≤(a:Int):=by omega
    have hlt:a < s.size:=by omega
    clear hz
    obtain ⟨b0,b1⟩:=byte_range s a
    have eb:=byte_at hlt
    rw [eb] at hr b0 b1
    clear eb
    by_cases n0:(s[a].toNat:Int)=34
    ·rw [if_pos n0] at hr
     have t0:((s[a].toNat:Int) == 34)=true:=by simpa using n0
     have HR2:Hid _:=hr
     clear hr n0
     by_cases hne:cs=[]
     ·subst hne
      rcases hown.2 with ⟨rfl,_⟩ | ⟨g,cap,cur,rfl,hg,hbb,hn,hmm,hss,htt⟩
      ·have hcv:=conv_nil wr
       go_wp2_with fail
       try simp only [Exit.noGoto]
       go_ret3
       rw [← HR2.out]
       exact ⟨hb,_,rfl,rfl⟩
      ·have hcv:=run_convert_bytes_back (P:=Tryz.prog) wr 65 9 5 ⟨g,0,none⟩ cap [] Tryz.underlying65 Tryz.underlying5 Tryz.underlying9 (fun j hj=>absurd hj (by simp))
       simp only [List.length_nil] at hcv ⊢
       go_wp2_with fail
       try simp only [Exit.noGoto]
       go_ret3
       rw [← HR2.out]
       exact ⟨hb,_,rfl,rfl⟩
     ·obtain ⟨g,c,rfl,hc⟩:=owns_bytes hown hne
      have hcv:=run_convert_bytes_back (P:=Tryz.prog) wr 65 9 5 ⟨g,0,none⟩ c cs Tryz.underlying65 Tryz.underlying5 Tryz.underlying9 hc
      go_wp2_with fail
      try simp only [Exit.noGoto]
      go_ret3
      rw [← HR2.out]
      exact ⟨hb,_,rfl,rfl⟩
    ·rw [if_neg n0] at hr
     have t0:((s[a].toNat:Int) == 34)=false:=by simpa using n0
     clear n0
     by_cases n1:(s[a].toNat:Int) < 32
     ·rw [if_pos n1] at hr
      have HR2:Hid _:=hr
      clear hr
      go_wp2_with fail
      simp only [Exit.noGoto]
      go_ret3
      rw [← HR2.out]
      exact ⟨hb,_,rfl,rfl⟩
     ·rw [if_neg n1] at hr
      by_cases n2:(s[a].toNat:Int)=92
      ·rw [if_pos n2] at hr
       have t2:((s[a].toNat:Int) == 92)=true:=by simpa using n2
       clear n2
       have hE:=escape_ok s a hlt (by omega)
       obtain ⟨E,hEe⟩:∃ E,escV s a=E:=⟨_,rfl⟩
       rw [hEe] at hr
       simp only [hEe] at hE
       have HE:Hid _:=hEe
       clear hEe
       obtain ⟨r,q,ok⟩:=E
       cases ok with
       | false =>
        have HR2:Hid _:=hr
        clear hr
        go_wp2_with (go_at_call 84;refine (hE _).mono ?_;rintro e w1 ⟨rfl,m,rfl⟩)
        simp only [Exit.noGoto]
        go_ret3
        rw [← HR2.out]
        exact ⟨hb.trans (belowD _ _ _),_,rfl,rfl⟩
       | true =>
        obtain ⟨g0,g1,q',hq,hq1,hq2⟩:=(HE.out ▸ esc_good hlt) rfl
        simp only at g0 g1 hq
        subst hq
        simp only [if_true,Int.toNat_natCast] at hr
        have HR2:Hid _:=hr
        clear hr
        obtain ⟨ra,rl,rc,rfl⟩:=owns_shape hown
        go_wp2_with (first
         | (go_at_call 84;refine (hE _).mono ?_;rintro e w1 ⟨rfl,m,rfl⟩)
         | (go_at_call 85;refine (hA w.heap.size cs.length r _ (Lib.byteCells cs) _ (by omega) (by omega) (by exact hown) (by exact hb.size) (by omega)).mono ?_;rintro e w2 ⟨v2,rfl,hown2,hb2⟩))
        go_roundg k
        case measure=>omega
        case rel=>exact ⟨q',cs ++ Lib.encodeRune r,hq2,by omega,rfl,(hb.trans (belowD _ _ m)).trans hb2,by rw [List.length_append,← Lib.runeCells_length,show Lib.byteCells (cs ++ Lib.encodeRune r)=Lib.byteCells cs ++ Lib.runeCells r by rw [← Lib.byteCells_encodeRune];simp [Lib.byteCells]];exact hown2,by have:=(Lib.runeCells_le r).2;rw [List.length_append,← Lib.runeCells_length];omega,HR2.out⟩
      ·rw [if_neg n2] at hr
       have t2:((s[a].toNat:Int) == 92)=false:=by simpa using n2
       clear n2
       have hF:=following_ok (s[a].toNat:Int) b0 b1
       have hFr:=follow_range (s[a].toNat:Int)
       obtain ⟨F,hFe⟩:∃ F,followV (s[a].toNat:Int)=F:=⟨_,rfl⟩
       rw [hFe] at hr hFr
       simp only [hFe] at hF
       clear hFe
       obtain ⟨lo,hi,more⟩:=F
       simp only at hFr hF hr
       rcases hFr with rfl | ⟨m,hm3,rfl⟩
       ·rw [if_pos (by omega)] at hr
        have HR2:Hid _:=hr
        clear hr
        go_wp2_with (go_at_call 86;refine (hF _).mono ?_;rintro e w1 ⟨rfl,hw⟩;subst w1)
        simp only [Exit.noGoto]
        go_ret3
        rw [← HR2.out]
        exact ⟨hb,_,rfl,rfl⟩
       ·rw [if_neg (by omega)] at hr
        simp only [Int.toNat_natCast] at hr
        obtain ⟨T,hT⟩:∃ T,tailL s m (a+1) lo hi=T:=⟨_,rfl⟩
        rw [hT] at hr
        have HT:Hid _:=hT
        have HR2:Hid _:=hr
        clear hT hr
        have hm0:¬ (m:Int) < 0:=by omega
        obtain ⟨ra,rl,rc,rfl⟩:=owns_shape hown
        go_wp2_with (first
         | (go_at_call 86;refine (hF _).mono ?_;rintro e w1 ⟨rfl,hw⟩;subst w1)
         | (refine wpList_append_lies _ (by rfl) _ _ _ (by rfl) w.heap.size 5 i0 _ 1 1 Tryz.underlying65 hi0 hz0 hz1 hz2 rfl (by omega) _ cs.length (Lib.byteCells cs) (by rfl) (hown.alloc _) ⟨wr.heap.size,0,none⟩ 1 1 [.int .u8 (s[a].toNat:Int)] (by rfl) (by rfl) (World.news_of_block (cs:=#[.int .u8 (s[a].toNat:Int)]) (t:=5) (fr:=(0,0)) (heap_new wr _)) (by simp [Value.oneCell']) (by omega) (by unfold maxLen;omega) (by omega) (by have:=hb.size;simp;omega) (wr.heap.size+1) (by simp) ?_;intro g4 cap4 w4 hown4 hgrow4 hat4 hlt4))
        have hb4:Below w.heap.size w w4:=(hb.alloc (by have:=hb.size;omega) _).grown hgrow4 (by have:=hb.size;simp;omega) (fun q hq=>(hown.lt q hq).1)
        go_loopg [1,7,12,13,39] m (fun kk v1 v7 v12 v13 v39 wr2=>∃ (j p:Nat) (lo2 hi2:Int),j+kk=m∧p=a+1+j∧p≤s.size∧v1 = .int .i64 p∧v39 = .int .i64 j∧v12 = .int .u8 lo2∧v13 = .int .u8 hi2∧Below w.heap.size w wr2∧wr2.ownsRow w.heap.size 5 1 v7 (cs.length+(j+1)) (Lib.byteCells (cs ++ (s.data.toList.drop a).take (j+1)))∧tailL s kk p lo2 hi2=T)
        case atStart =>
         refine ⟨0,a+1,lo,hi,by omega,rfl,by omega,by go_num,rfl,rfl,rfl,hb4,?_,HT.out⟩
         have e1:=take_one s a 0 (by omega)
         rw [e1]
         simpa [Lib.byteCells] using hown4
        case round =>
         clear hown4 hgrow4 hat4 hlt4 hb4 hown hb
         obtain ⟨j,p,lo2,hi2,hjm,hp,hps,rfl,rfl,rfl,rfl,hb,hown,hT⟩:=hrel
         have HP:Hid _:=hp
         clear hp
         match gk,hjm,hT with
         | 0,hjm,hT =>
          obtain rfl:j=m:=by omega
          have hjj:¬ (j:Int) < (j:Int):=by omega
          have hT:(p,true)=T:=hT
          have HT2:Hid _:=hT
          clear hT
          go_wp2_with fail
          go_roundg k
          case measure=>omega
          case rel =>
           have hr:=HR2.out
           rw [← HT2.out] at hr
           simp only [if_true] at hr
           have hpe:p - a=j+1:=by have:=HP.out;omega
           rw [hpe] at hr
           have hl:(cs ++ (s.data.toList.drop a).take (j+1)).length=cs.length+(j+1):=by
            simp only [List.length_append,List.length_take,List.length_drop,size_list]
            have:=HP.out
            omega
           exact ⟨p,_,hps,by have:=HP.out;omega,rfl,hb,by rw [hl];exact hown,by rw [hl];omega,hr⟩
         | kk+1,hjm,hT =>
          rw [tailL] at hT
          have hjm':(j:Int) < (m:Int):=by omega
          by_cases hz:p=s.size
          ·rw [if_pos hz] at hT
           have hz':(p:Int)=(s.size:Int):=by omega
           have HT2:Hid _:=hT
           have HZ:Hid _:=hz
           clear hT hz
           go_wp2_with fail
           simp only [Exit.noGoto]
           go_ret3
           have hr:=HR2.out
           rw [← HT2.out] at hr
           simp only [Bool.false_eq_true,if_false] at hr
           rw [← hr]
           exact ⟨hb,_,by rw [HZ.out];rfl,rfl⟩
          ·rw [if_neg hz] at hT
           have hz':¬ (p:Int)=(s.size:Int):=by omega
           have hl2:(p:Int) < (s.size:Int):=by omega
           have hp0:(0:Int)≤(p:Int):=by omega
           have hplt:p < s.size:=by omega
           clear hz
           rw [byte_at hplt] at hT
           by_cases m0:(s[p].toNat:Int) < lo2
           ·rw [if_pos m0] at hT
            have HT2:Hid _:=hT
            clear hT
            go_wp2_with fail
            simp only [Exit.noGoto]
            go_ret3
            have hr:=HR2.out
            rw [← HT2.out] at hr
            simp only [Bool.false_eq_true,if_false] at hr
            rw [← hr]
            exact ⟨hb,_,rfl,rfl⟩
           ·rw [if_neg m0] at hT
            by_cases m1:hi2 < (s[p].toNat:Int)
            ·rw [if_pos m1] at hT
             have HT2:Hid _:=hT
             clear hT
             go_wp2_with fail
             try simp only [Exit.noGoto]
             go_ret3
             have hr:=HR2.out
             rw [← HT2.out] at hr
             simp only [Bool.false_eq_true,if_false] at hr
             rw [← hr]
             exact ⟨hb,_,rfl,rfl⟩
            ·rw [if_neg m1] at hT
             have HT2:Hid _:=hT
             clear hT
             obtain ⟨sa,sl,sc,rfl⟩:=owns_shape hown
             go_wp2_with (refine wpList_append_lies _ (by rfl) _ _ _ (by rfl) w.heap.size 5 i0 _ 1 1 Tryz.underlying65 hi0 hz0 hz1 hz2 rfl (by omega) _ (cs.length+(j+1)) (Lib.byteCells (cs ++ (s.data.toList.drop a).take (j+1))) (by rfl) (hown.alloc _) ⟨wr.heap.size,0,none⟩ 1 1 [.int .u8 (s[p].toNat:Int)] (by rfl) (by rfl) (World.news_of_block (cs:=#[.int .u8 (s[p].toNat:Int)]) (t:=5) (fr:=(0,0)) (heap_new wr _)) (by simp [Value.oneCell']) (by omega) (by unfold maxLen;omega) (by omega) (by have:=hb.size;simp;omega) (wr.heap.size+1) (by simp) ?_;intro g4 cap4 w4 hown4 hgrow4 hat4 hlt4)
             go_roundg kk
             case measure=>omega
             case rel =>
              refine ⟨j+1,p+1,128,191,by omega,by have:=HP.out;omega,by omega,by go_num,by go_num,rfl,rfl,?_,?_,HT2.out⟩
              ·exact (hb.alloc (by have:=hb.size;omega) _).grown hgrow4 (by have:=hb.size;simp;omega) (fun q hq=>(hown.lt q hq).1)
              ·have hpa:a+(j+1)=p:=by have:=HP.out;omega
               have e1:=take_one s a (j+1) (by omega)
               rw [e1]
               have e2:s[a+(j+1)]'(by omega)=s[p]:=by simp only [hpa]
               rw [e2]
               simpa [Lib.byteCells,Nat.add_assoc] using hown4
end Go.Proofs.Tryz
namespace Go.Proofs.Tryz
set_option maxHeartbeats 16000000
open Go.RowKit
set_option maxRecDepth 10000
def hexD (c:Int):Int:=(hexV c).getD (-1)
theorem digitOf_ok (c:Int) (h0:0≤c) (h1:c≤255) (w:World) :
    Calls Tryz.prog 116 #[.int .u8 c] w fun e w'=>e = .returned (.int .i64 (hexD c))∧w'=w:=by
  unfold hexD
  by_cases hd:48≤c∧c≤57
  · rw [show hexV c=some (c - 48) by simp only [hexV,if_pos hd]]
    obtain ⟨d1,d2⟩:=hd
    go_enter Tryz.func116,Tryz.ntmps116
    go_wp2_with fail
    go_ret
    exact ⟨rfl,rfl⟩
  · by_cases hl:97≤c∧c≤102
    · rw [show hexV c=some (c - 97+10) by simp only [hexV,if_neg hd,if_pos hl]]
      obtain ⟨d1,d2⟩:=hl
      have n1:(decide (48≤c) && decide (c≤57))=false:=by simp;omega
      have n2:¬ c≤57:=by omega
      have n3:48≤c:=by omega
      clear hd
      go_enter Tryz.func116,Tryz.ntmps116
      go_wp2_with fail
      go_ret
      exact ⟨rfl,rfl⟩
    · by_cases hu:65≤c∧c≤70
      · rw [show hexV c=some (c - 65+10) by simp only [hexV,if_neg hd,if_neg hl,if_pos hu]]
        obtain ⟨d1,d2⟩:=hu
        have n2:¬ c≤57:=by omega
        have n3:48≤c:=by omega
        have n4:¬ 97≤c:=by omega
        clear hd hl
        go_enter Tryz.func116,Tryz.ntmps116
        go_wp2_with fail
        go_ret
        exact ⟨rfl,rfl⟩
      · rw [show hexV c=none by simp only [hexV,if_neg hd,if_neg hl,if_neg hu]]
        have hd:(decide (48≤c) && decide (c≤57))=false:=by simp;omega
        have hl:(decide (97≤c) && decide (c≤102))=false:=by simp;omega
        have hu:(decide (65≤c) && decide (c≤70))=false:=by simp;omega
        have g1:48≤c→¬ c≤57:=by simp at hd;omega
        have g2:97≤c→¬ c≤102:=by simp at hl;omega
        have g3:65≤c→¬ c≤70:=by simp at hu;omega
        clear hd hl hu
        by_cases a1:48≤c <;> by_cases a2:97≤c <;> by_cases a3:65≤c
        all_goals first
          | omega
          | (first | have b1:=g1 a1 | skip
             first | have b2:=g2 a2 | skip
             first | have b3:=g3 a3 | skip
             clear g1 g2 g3
             go_enter Tryz.func116,Tryz.ntmps116
             go_wp2_with fail
             go_ret
             exact ⟨rfl,rfl⟩)
def fourL (s:ByteArray):Nat→Nat→Int→Option Int
 | 0,_,v=>some v
 | k+1,i,v=>if s.size≤i then none else match hexV (byteAt s i) with
  | none=>none
  | some d=>fourL s k (i+1) (16 * v+d)
theorem u8_range (c:UInt8):(0:Int)≤(c.toNat:Int)∧(c.toNat:Int)≤255:=by
 have:=UInt8.toNat_lt c
 omega
def FourP (R:Option Int) (a:Nat) (w:World) (e:Ending) (w':World):Prop:=∃ v p,e = .returned (.tuple #[.int .i64 v,.int .i64 p,.bool R.isSome])∧(∀ x,R=some x→v=x∧p=(a:Int)+4)∧w'=w
theorem four_ok (s:ByteArray) (a:Nat) (hs:s.size≤100000) (ha:a≤s.size) (w:World) :
  Calls Tryz.prog 98 #[.string s,.int .i64 a] w (FourP (fourL s 4 a 0) a w):=by
 obtain ⟨R,hR⟩:∃ R,fourL s 4 a 0=R:=⟨_,rfl⟩
 rw [hR]
 have HR:Hid _:=hR
 clear hR
 go_enter Tryz.func98,Tryz.ntmps98
 go_wp2_with fail
 go_loop [7,8] (fun v t=>∃ (k:Nat) (x:Int),k≤4∧t = .int .i64 k∧v = .int .i64 x∧0≤x∧x < 65536∧(k < 4→x < 4096)∧(k < 3→x < 256)∧(k < 2→x < 16)∧(k < 1→x < 1)∧fourL s (4 - k) (a+k) x=R) (fun _ t=>4 - (intOf t).toNat)
 case atStart=>exact ⟨0,0,by omega,rfl,rfl,by omega,by omega,by omega,by omega,by omega,by omega,HR.out⟩
 case round =>
  obtain ⟨k,x,hk,rfl,rfl,b0,b1,b2,b3,b4,b5,hr⟩:=hrel
  by_cases hk4:k < 4
  ·have hk':(k:Int) < 4:=by omega
   rw [show 4 - k=(3 - k)+1 by omega,fourL] at hr
   by_cases hz:s.size≤a+k
   ·rw [if_pos hz] at hr
    subst hr
    have hz':(s.size:Int)≤(a:Int)+(k:Int):=by omega
    go_wp2_with fail
    go_ret3
    exact ⟨_,_,rfl,fun x h=>(by cases h),rfl⟩
   ·rw [if_neg hz] at hr
    have hz':¬ (s.size:Int)≤(a:Int)+(k:Int):=by omega
    have hl':(a:Int)+(k:Int) < (s.size:Int):=by omega
    obtain ⟨p,hp⟩:∃ p:Nat,p=a+k:=⟨_,rfl⟩
    have hlt:p < s.size:=by omega
    have hpi:(a:Int)+(k:Int)=(p:Int):=by omega
    rw [← hp,byte_at hlt] at hr
    have hu:=u8_range s[p]
    have hz2:¬ (s.size:Int)≤(p:Int):=by omega
    have hl2:(p:Int) < (s.size:Int):=by omega
    have HP:Hid _:=hp
    clear hp hz' hl' hz
    have hD:=digitOf_ok (s[p].toNat:Int) hu.1 hu.2
    unfold hexD at hD
    cases hx:hexV (s[p].toNat:Int) with
    | none =>
     rw [hx] at hr hD
     simp only at hr
     subst hr
     go_wp2_with (go_at_call 116;refine (hD _).mono ?_;rintro e w1 ⟨rfl,h1⟩;subst w1)
     go_ret3
     exact ⟨_,_,rfl,fun x h=>(by cases h),rfl⟩
    | some d =>
     rw [hx] at hr hD
     simp only at hr
     obtain ⟨d0,d1⟩:=hexV_range hx
     have d2:¬ d < 0:=by omega
     have HR2:Hid _:=hr
     clear hr
     go_wp2_with (go_at_call 116;refine (hD _).mono ?_;rintro e w1 ⟨rfl,h1⟩;subst w1)
     go_round
     case rel =>
      have e:=HR2.out
      refine ⟨k+1,16 * x+d,by omega,by go_num,rfl,by omega,?_,fun h=>?_,fun h=>?_,fun h=>?_,fun h=>?_,?_⟩
      ·omega
      ·omega
      ·omega
      ·omega
      ·omega
      ·rw [show 4 - (k+1)=3 - k by omega,show a+(k+1)=p+1 by have:=HP.out;omega]
       exact e
     case measure=>simp [intOf];omega
  ·have hk4':k=4:=by omega
   subst hk4'
   have hr:some x=R:=hr
   subst hr
   go_wp2_with fail
   go_ret3
   exact ⟨_,_,rfl,fun y h=>⟨Option.some.inj h,rfl⟩,rfl⟩
end Go.Proofs.Tryz
namespace Go.Proofs.Tryz
set_option maxHeartbeats 16000000
open Go.RowKit
set_option maxRecDepth 10000
theorem lead_ok (c:Int) (b0:0≤c) (b1:c≤255) (w:World) :
  Calls Tryz.prog 101 #[.int .u8 c] w fun e w'=>e = .returned (.tuple #[.int .i64 (followV c).2.2,.int .u8 (followV c).1,.int .u8 (followV c).2.1])∧w'=w:=by
 have H:c < 128∨(128≤c∧c < 194)∨(194≤c∧c < 224)∨c=224∨(225≤c∧c < 237)∨c=237∨(238≤c∧c < 240)∨c=240∨(241≤c∧c < 244)∨c=244∨245≤c:=by omega
 rcases H with h | ⟨h,h'⟩ | ⟨h,h'⟩ | h | ⟨h,h'⟩ | h | ⟨h,h'⟩ | h | ⟨h,h'⟩ | h | h
 ·rw [show followV c=(0,0,0) from by
   unfold followV
   repeat' split
   all_goals first | rfl | omega]
  have f0:(c < 128):=by omega
  have f1:¬ (194≤c):=by omega
  have f2:(c < 224):=by omega
  have f3:¬ (c=224):=by omega
  have f4:¬ (c=237):=by omega
  have f5:¬ (225≤c):=by omega
  have f6:(c < 240):=by omega
  have f7:¬ (c=240):=by omega
  have f8:¬ (241≤c):=by omega
  have f9:(c < 244):=by omega
  have f10:¬ (c=244):=by omega
  go_enter Tryz.func101,Tryz.ntmps101
  go_wp2_with fail
  go_ret3
  exact ⟨rfl,rfl⟩
 ·rw [show followV c=(0,0,-1) from by
   unfold followV
   repeat' split
   all_goals first | rfl | omega]
  have f0:¬ (c < 128):=by omega
  have f1:¬ (194≤c):=by omega
  have f2:(c < 224):=by omega
  have f3:¬ (c=224):=by omega
  have f4:¬ (c=237):=by omega
  have f5:¬ (225≤c):=by omega
  have f6:(c < 240):=by omega
  have f7:¬ (c=240):=by omega
  have f8:¬ (241≤c):=by omega
  have f9:(c < 244):=by omega
  have f10:¬ (c=244):=by omega
  go_enter Tryz.func101,Tryz.ntmps101
  go_wp2_with fail
  go_ret3
  exact ⟨rfl,rfl⟩
 ·rw [show followV c=(128,191,1) from by
   unfold followV
   repeat' split
   all_goals first | rfl | omega]
  have f0:¬ (c < 128):=by omega
  have f1:(194≤c):=by omega
  have f2:(c < 224):=by omega
  have f3:¬ (c=224):=by omega
  have f4:¬ (c=237):=by omega
  have f5:¬ (225≤c):=by omega
  have f6:(c < 240):=by omega
  have f7:¬ (c=240):=by omega
  have f8:¬ (241≤c):=by omega
  have f9:(c < 244):=by omega
  have f10:¬ (c=244):=by omega
  go_enter Tryz.func101,Tryz.ntmps101
  go_wp2_with fail
  go_ret3
  exact ⟨rfl,rfl⟩
 ·rw [show followV c=(160,191,2) from by
   unfold followV
   repeat' split
   all_goals first | rfl | omega]
  subst h
  go_enter Tryz.func101,Tryz.ntmps101
  go_wp2_with fail
  go_ret3
  exact ⟨rfl,rfl⟩
 ·rw [show followV c=(128,191,2) from by
   unfold followV
   repeat' split
   all_goals first | rfl | omega]
  have f0:¬ (c < 128):=by omega
  have f1:(194≤c):=by omega
  have f2:¬ (c < 224):=by omega
  have f3:¬ (c=224):=by omega
  have f4:¬ (c=237):=by omega
  have f5:(225≤c):=by omega
  have f6:(c < 240):=by omega
  have f7:¬ (c=240):=by omega
  have f8:¬ (241≤c):=by omega
  have f9:(c < 244):=by omega
  have f10:¬ (c=244):=by omega
  go_enter Tryz.func101,Tryz.ntmps101
  go_wp2_with fail
  go_ret3
  exact ⟨rfl,rfl⟩
 ·rw [show followV c=(128,159,2) from by
   unfold followV
   repeat' split
   all_goals first | rfl | omega]
  subst h
  go_enter Tryz.func101,Tryz.ntmps101
  go_wp2_with fail
  go_ret3
  exact ⟨rfl,rfl⟩
 ·rw [show followV c=(128,191,2) from by
   unfold followV
   repeat' split
   all_goals first | rfl | omega]
  have f0:¬ (c < 128):=by omega
  have f1:(194≤c):=by omega
  have f2:¬ (c < 224):=by omega
  have f3:¬ (c=224):=by omega
  have f4:¬ (c=237):=by omega
  have f5:(225≤c):=by omega
  have f6:(c < 240):=by omega
  have f7:¬ (c=240):=by omega
  have f8:¬ (241≤c):=by omega
  have f9:(c < 244):=by omega
  have f10:¬ (c=244):=by omega
  go_enter Tryz.func101,Tryz.ntmps101
  go_wp2_with fail
  go_ret3
  exact ⟨rfl,rfl⟩
 ·rw [show followV c=(144,191,3) from by
   unfold followV
   repeat' split
   all_goals first | rfl | omega]
  subst h
  go_enter Tryz.func101,Tryz.ntmps101
  go_wp2_with fail
  go_ret3
  exact ⟨rfl,rfl⟩
 ·rw [show followV c=(128,191,3) from by
   unfold followV
   repeat' split
   all_goals first | rfl | omega]
  have f0:¬ (c < 128):=by omega
  have f1:(194≤c):=by omega
  have f2:¬ (c < 224):=by omega
  have f3:¬ (c=224):=by omega
  have f4:¬ (c=237):=by omega
  have f5:(225≤c):=by omega
  have f6:¬ (c < 240):=by omega
  have f7:¬ (c=240):=by omega
  have f8:(241≤c):=by omega
  have f9:(c < 244):=by omega
  have f10:¬ (c=244):=by omega
  go_enter Tryz.func101,Tryz.ntmps101
  go_wp2_with fail
  go_ret3
  exact ⟨rfl,rfl⟩
 ·rw [show followV c=(128,143,3) from by
   unfold followV
   repeat' split
   all_goals first | rfl | omega]
  subst h
  go_enter Tryz.func101,Tryz.ntmps101
  go_wp2_with fail
  go_ret3
  exact ⟨rfl,rfl⟩
 ·rw [show followV c=(0,0,-1) from by
   unfold followV
   repeat' split
   all_goals first | rfl | omega]
  have f0:¬ (c < 128):=by omega
  have f1:(194≤c):=by omega
  have f2:¬ (c < 224):=by omega
  have f3:¬ (c=224):=by omega
  have f4:¬ (c=237):=by omega
  have f5:(225≤c):=by omega
  have f6:¬ (c < 240):=by omega
  have f7:¬ (c=240):=by omega
  have f8:(241≤c):=by omega
  have f9:¬ (c < 244):=by omega
  have f10:¬ (c=244):=by omega
  go_enter Tryz.func101,Tryz.ntmps101
  go_wp2_with fail
  go_ret3
  exact ⟨rfl,rfl⟩
def ChP (R:Nat×Bool) (w:World) (e:Ending) (w':World):Prop:=e = .returned (.tuple #[.int .i64 R.1,.bool R.2])∧w'=w
def charL (s:ByteArray) (a:Nat):Nat×Bool:=if (followV (byteAt s a)).2.2 < 0 then (a,false) else tailL s (followV (byteAt s a)).2.2.toNat (a+1) (followV (byteAt s a)).1 (followV (byteAt s a)).2.1
theorem character_ok (s:ByteArray) (a:Nat) (hs:s.size≤100000) (ha:a < s.size) (w:World) :
  Calls Tryz.prog 78 #[.string s,.int .i64 a] w (ChP (charL s a) w):=by
 have l0:(a:Int) < (s.size:Int):=by omega
 obtain ⟨R,hR⟩:∃ R,charL s a=R:=⟨_,rfl⟩
 rw [hR]
 unfold charL at hR
 rw [byte_at ha] at hR
 have hu:=u8_range s[a]
 have hL:=lead_ok (s[a].toNat:Int) hu.1 hu.2
 have hf:=follow_range (s[a].toNat:Int)
 have hb:(0:Int)≤(followV (s[a].toNat:Int)).1∧(followV (s[a].toNat:Int)).1≤255∧(0:Int)≤(followV (s[a].toNat:Int)).2.1∧(followV (s[a].toNat:Int)).2.1≤255:=by
  unfold followV
  repeat' split
  all_goals simp
 obtain ⟨lo,hi,n,hF⟩:∃ lo hi n,followV (s[a].toNat:Int)=(lo,hi,n):=⟨_,_,_,rfl⟩
 rw [hF] at hR hL hf hb
 simp only at hR hL hf hb
 clear hF
 obtain ⟨c0,c1,c2,c3⟩:=hb
 have HL:Aside (∀ w:World,Calls Tryz.prog 101 #[.int .u8 (s[a].toNat:Int)] w fun e w'=>e = .returned (.tuple #[.int .i64 n,.int .u8 lo,.int .u8 hi])∧w'=w):=hL
 clear hL
 rcases hf with rfl | ⟨m,hm,rfl⟩
 ·rw [if_pos (by decide)] at hR
  subst hR
  go_enter Tryz.func78,Tryz.ntmps78
  go_wp2_with (go_at_call 101;refine (HL.out _).mono ?_;rintro e w1 ⟨rfl,h1⟩;subst w1)
  go_ret2
  exact ⟨rfl,rfl⟩
 ·rw [if_neg (by omega),Int.toNat_natCast] at hR
  have hn:¬ (m:Int) < 0:=by omega
  have HR:Hid _:=hR
  clear hR
  go_enter Tryz.func78,Tryz.ntmps78
  go_wp2_with (go_at_call 101;refine (HL.out _).mono ?_;rintro e w1 ⟨rfl,h1⟩;subst w1)
  go_loop [7,8,9] (fun l h t=>∃ (k:Nat) (x y:Int),1≤k∧k≤m+1∧t = .int .i64 k∧l = .int .u8 x∧h = .int .u8 y∧tailL s (m+1 - k) (a+k) x y=R∧a+k≤s.size) (fun _ _ t=>m+1 - (intOf t).toNat)
  case atStart=>exact ⟨1,lo,hi,by omega,by omega,rfl,rfl,rfl,HR.out,by omega⟩
  case round =>
   obtain ⟨k,x,y,hk1,hk2,rfl,rfl,rfl,hr,hsz⟩:=hrel
   by_cases hk:k≤m
   ·have hk':(k:Int)≤(m:Int):=by omega
    rw [show m+1 - k=(m - k)+1 by omega,tailL] at hr
    obtain ⟨p,hp⟩:∃ p:Nat,p=a+k:=⟨_,rfl⟩
    have hpi:(a:Int)+(k:Int)=(p:Int):=by omega
    rw [← hp] at hr
    have HP:Hid _:=hp
    clear hp
    by_cases hz:p=s.size
    ·rw [if_pos hz] at hr
     subst hr
     have hz':(s.size:Int)≤(p:Int):=by omega
     clear hz
     go_wp2_with fail
     go_ret2
     exact ⟨rfl,rfl⟩
    ·rw [if_neg hz] at hr
     have hlt:p < s.size:=by have:=HP.out;omega
     have hz':¬ (s.size:Int)≤(p:Int):=by omega
     have hl':(p:Int) < (s.size:Int):=by omega
     rw [byte_at hlt] at hr
     clear hz
     by_cases d1:(s[p].toNat:Int) < x
     ·rw [if_pos d1] at hr
      subst hr
      go_wp2_with fail
      go_ret2
      exact ⟨rfl,rfl⟩
     ·rw [if_neg d1] at hr
      by_cases d2:y < (s[p].toNat:Int)
      ·rw [if_pos d2] at hr
       subst hr
       go_wp2_with fail
       go_ret2
       exact ⟨rfl,rfl⟩
      ·rw [if_neg d2] at hr
       have HR2:Hid _:=hr
       clear hr
       go_wp2_with fail
       go_round
       case rel =>
        have hpp:=HP.out
        refine ⟨k+1,128,191,by omega,by omega,by go_num,rfl,rfl,?_,by omega⟩
        rw [show m+1 - (k+1)=m - k by omega,show a+(k+1)=p+1 by omega]
        exact HR2.out
       case measure=>simp [intOf];omega
   ·have hk2':k=m+1:=by omega
    subst hk2'
    have hr:tailL s (m+1 - (m+1)) (a+(m+1)) x y=R:=hr
    rw [Nat.sub_self,tailL] at hr
    subst hr
    have hk':¬ ((m+1:Nat):Int)≤(m:Int):=by omega
    have hk'':¬ (m:Int)+1≤(m:Int):=by omega
    go_wp2_with fail
    go_ret2
    refine ⟨?_,rfl⟩
    congr 4
    go_num
end Go.Proofs.Tryz
namespace Go.Proofs.Tryz
set_option maxHeartbeats 16000000
open Go.RowKit
set_option maxRecDepth 10000
def secL (s:ByteArray):Nat→Nat→Nat→Int→Option Int
 | 0,_,_,v=>some v
 | k+1,j,i,v=>if s.size≤i then none else match hexV (byteAt s i) with
  | none=>none
  | some d=>if (j=0∧d≠13)∨(j=1∧d < 12) then none else secL s k (j+1) (i+1) (16 * v+d)
def secR (s:ByteArray) (i:Nat):Option Int :=
 if s.size≤i then none else if byteAt s i≠92 then none else if s.size≤i+1 then none else if byteAt s (i+1)≠117 then none else secL s 4 0 (i+2) 0
def SecP (R:Option Int) (a:Nat) (w:World) (e:Ending) (w':World):Prop:=∃ v p,e = .returned (.tuple #[.int .i64 v,.int .i64 p,.bool R.isSome])∧(∀ x,R=some x→v=x∧p=(a:Int)+6)∧w'=w
theorem secondR_ok (s:ByteArray) (a:Nat) (f:Int) (hs:s.size≤100000) (ha:a≤s.size) (w:World) :
  Calls Tryz.prog 99 #[.string s,.int .i64 a,.int .i64 f] w (SecP (secR s a) a w):=by
 obtain ⟨R,hR⟩:∃ R,secR s a=R:=⟨_,rfl⟩
 rw [hR]
 unfold secR at hR
 by_cases z0:s.size≤a
 ·rw [if_pos z0] at hR
  subst hR
  have z0':(s.size:Int)≤(a:Int):=by omega
  go_enter Tryz.func99,Tryz.ntmps99
  go_wp2_with fail
  go_ret3
  exact ⟨_,_,rfl,fun x h=>(by cases h),rfl⟩
 rw [if_neg z0] at hR
 have z0':¬ (s.size:Int)≤(a:Int):=by omega
 have l0:(a:Int) < (s.size:Int):=by omega
 have l00:a < s.size:=by omega
 rw [byte_at l00] at hR
 by_cases z1:(s[a].toNat:Int)≠92
 ·rw [if_pos z1] at hR
  subst hR
  have z1':((s[a].toNat:Int) == 92)=false:=by simpa using z1
  go_enter Tryz.func99,Tryz.ntmps99
  go_wp2_with fail
  go_ret3
  exact ⟨_,_,rfl,fun x h=>(by cases h),rfl⟩
 rw [if_neg z1] at hR
 have z1':(s[a].toNat:Int)=92:=by simpa using z1
 clear z1
 by_cases z2:s.size≤a+1
 ·rw [if_pos z2] at hR
  subst hR
  have z2':(s.size:Int)≤(a:Int)+1:=by omega
  go_enter Tryz.func99,Tryz.ntmps99
  go_wp2_with fail
  go_ret3
  exact ⟨_,_,rfl,fun x h=>(by cases h),rfl⟩
 rw [if_neg z2] at hR
 have z2':¬ (s.size:Int)≤(a:Int)+1:=by omega
 have l1:(a:Int)+1 < (s.size:Int):=by omega
 have l11:a+1 < s.size:=by omega
 rw [byte_at l11] at hR
 by_cases z3:(s[a+1].toNat:Int)≠117
 ·rw [if_pos z3] at hR
  subst hR
  have z3':((s[a+1].toNat:Int) == 117)=false:=by simpa using z3
  go_enter Tryz.func99,Tryz.ntmps99
  go_wp2_with fail
  go_ret3
  exact ⟨_,_,rfl,fun x h=>(by cases h),rfl⟩
 rw [if_neg z3] at hR
 have z3':(s[a+1].toNat:Int)=117:=by simpa using z3
 clear z3
 have HR:Hid _:=hR
 clear hR
 go_enter Tryz.func99,Tryz.ntmps99
 go_wp2_with fail
 clear z0' z1' z2' z3'
 go_loop [9,10] (fun v t=>∃ (k:Nat) (x:Int),k≤4∧t = .int .i64 ((a+2+k:Nat):Int)∧v = .int .i64 x∧0≤x∧x < 65536∧(k < 4→x < 4096)∧(k < 3→x < 256)∧(k < 2→x < 16)∧(k < 1→x < 1)∧secL s (4 - k) k (a+2+k) x=R) (fun _ t=>a+6 - (intOf t).toNat)
 case atStart=>exact ⟨0,0,by omega,by go_num,rfl,by omega,by omega,by omega,by omega,by omega,by omega,HR.out⟩
 case round =>
  obtain ⟨k,x,hk,rfl,rfl,b0,b1,b2,b3,b4,b5,hr⟩:=hrel
  obtain ⟨p,hp⟩:∃ p:Nat,p=a+2+k:=⟨_,rfl⟩
  rw [← hp] at hr ⊢
  by_cases hk4:k < 4
  ·have hk':(p:Int) < (a:Int)+6:=by omega
   rw [show 4 - k=(3 - k)+1 by omega,secL] at hr
   have HP:Hid _:=hp
   have hp2:((p:Int) == (a:Int)+2)=decide (k=0):=by rw [Bool.eq_iff_iff];simp;omega
   have hp3:((p:Int) == (a:Int)+3)=decide (k=1):=by rw [Bool.eq_iff_iff];simp;omega
   by_cases hz:s.size≤p
   ·rw [if_pos hz] at hr
    subst hr
    have hz':(s.size:Int)≤(p:Int):=by omega
    clear hp
    go_wp2_with fail
    go_ret3
    exact ⟨_,_,rfl,fun x h=>(by cases h),rfl⟩
   ·rw [if_neg hz] at hr
    have hlt:p < s.size:=by omega
    rw [byte_at hlt] at hr
    have hu:=u8_range s[p]
    have hz2:¬ (s.size:Int)≤(p:Int):=by omega
    have hl2:(p:Int) < (s.size:Int):=by omega
    clear hp hz
    have hD:=digitOf_ok (s[p].toNat:Int) hu.1 hu.2
    unfold hexD at hD
    cases hx:hexV (s[p].toNat:Int) with
    | none =>
     rw [hx] at hr hD
     simp only at hr
     subst hr
     go_wp2_with (go_at_call 116;refine (hD _).mono ?_;rintro e w1 ⟨rfl,h1⟩;subst w1)
     go_ret3
     exact ⟨_,_,rfl,fun x h=>(by cases h),rfl⟩
    | some d =>
     rw [hx] at hr hD
     simp only at hr
     obtain ⟨d0,d1⟩:=hexV_range hx
     have d2:¬ d < 0:=by omega
     have CASES:(k=0∧d≠13)∨(k=0∧d=13)∨(k=1∧d < 12)∨(k=1∧¬ d < 12)∨(2≤k):=by omega
     rcases CASES with ⟨rfl,hd⟩ | ⟨rfl,hd⟩ | ⟨rfl,hd⟩ | ⟨rfl,hd⟩ | h2
     ·rw [if_pos (.inl ⟨rfl,hd⟩)] at hr
      subst hr
      have q1:((p:Int) == (a:Int)+2)=true:=by have:=HP.out;simp;omega
      have q2:¬ d=13:=hd
      clear hp2 hp3
      go_wp2_with (go_at_call 116;refine (hD _).mono ?_;rintro e w1 ⟨rfl,h1⟩;subst w1)
      all_goals first | (go_ret3;exact ⟨_,_,rfl,fun x h=>(by cases h),rfl⟩) | (exfalso;omega)
     ·subst hd
      rw [if_neg (by omega)] at hr
      have HR2:Hid _:=hr
      clear hr
      have q1:((p:Int) == (a:Int)+2)=true:=by have:=HP.out;simp;omega
      have q3:((p:Int) == (a:Int)+3)=false:=by have:=HP.out;simp;omega
      clear hp2 hp3
      go_wp2_with (go_at_call 116;refine (hD _).mono ?_;rintro e w1 ⟨rfl,h1⟩;subst w1)
      go_round
      case rel =>
       have e:=HR2.out
       have hpp:=HP.out
       refine ⟨0+1,_,?_,?_,rfl,by omega,?_,fun h=>?_,fun h=>?_,fun h=>?_,fun h=>?_,?_⟩
       rotate_right 1
       ·rw [hpp] at e
        exact e
       all_goals first | omega | go_num
      case measure=>have:=HP.out;simp [intOf];omega
     ·rw [if_pos (.inr ⟨rfl,hd⟩)] at hr
      subst hr
      have q1:((p:Int) == (a:Int)+2)=false:=by have:=HP.out;simp;omega
      have q3:((p:Int) == (a:Int)+3)=true:=by have:=HP.out;simp;omega
      clear hp2 hp3
      go_wp2_with (go_at_call 116;refine (hD _).mono ?_;rintro e w1 ⟨rfl,h1⟩;subst w1)
      go_ret3
      exact ⟨_,_,rfl,fun x h=>(by cases h),rfl⟩
     ·rw [if_neg (by omega)] at hr
      have HR2:Hid _:=hr
      clear hr
      have q1:((p:Int) == (a:Int)+2)=false:=by have:=HP.out;simp;omega
      have q3:((p:Int) == (a:Int)+3)=true:=by have:=HP.out;simp;omega
      clear hp2 hp3
      go_wp2_with (go_at_call 116;refine (hD _).mono ?_;rintro e w1 ⟨rfl,h1⟩;subst w1)
      go_round
      case rel =>
       have e:=HR2.out
       have hpp:=HP.out
       refine ⟨1+1,_,?_,?_,rfl,by omega,?_,fun h=>?_,fun h=>?_,fun h=>?_,fun h=>?_,?_⟩
       rotate_right 1
       ·rw [hpp] at e
        exact e
       all_goals first | omega | go_num
      case measure=>have:=HP.out;simp [intOf];omega
     ·rw [if_neg (by omega)] at hr
      have HR2:Hid _:=hr
      clear hr
      have q1:((p:Int) == (a:Int)+2)=false:=by have:=HP.out;simp;omega
      have q3:((p:Int) == (a:Int)+3)=false:=by have:=HP.out;simp;omega
      clear hp2 hp3
      go_wp2_with (go_at_call 116;refine (hD _).mono ?_;rintro e w1 ⟨rfl,h1⟩;subst w1)
      go_round
      case rel =>
       have e:=HR2.out
       have hpp:=HP.out
       refine ⟨k+1,_,?_,?_,rfl,by omega,?_,fun h=>?_,fun h=>?_,fun h=>?_,fun h=>?_,?_⟩
       rotate_right 1
       ·rw [hpp] at e
        rw [show 4 - (k+1)=3 - k by omega]
        exact e
       all_goals first | omega | go_num
      case measure=>have:=HP.out;simp [intOf];omega
  ·have hk4':k=4:=by omega
   subst hk4'
   have hr:some x=R:=hr
   subst hr
   have hk':¬ (p:Int) < (a:Int)+6:=by omega
   clear hp
   go_wp2_with fail
   go_ret3
   exact ⟨_,_,rfl,fun y h=>⟨Option.some.inj h,rfl⟩,rfl⟩
end Go.Proofs.Tryz
namespace Go.Proofs.Tryz
set_option maxHeartbeats 16000000
open Go.RowKit
set_option maxRecDepth 10000
theorem fourL_range {s:ByteArray}:∀ {k i:Nat}{x v:Int},fourL s k i x=some v→x * (16:Int) ^ k≤v∧v≤x * (16:Int) ^ k+((16:Int) ^ k - 1)
 | 0,i,x,v,h=>by
  have:some x=some v:=h
  cases this
  simp
 | k+1,i,x,v,h=>by
  rw [fourL] at h
  split at h
  ·cases h
  ·split at h
   ·cases h
   ·rename_i d hd
    have r:=hexV_range hd
    have:=fourL_range h
    have e:x * (16:Int) ^ (k+1)=16 * x * (16:Int) ^ k:=by rw [Int.pow_succ,Int.mul_comm 16 x,Int.mul_assoc,Int.mul_comm 16]
    have e1:(16:Int) ^ (k+1)=16 * (16:Int) ^ k:=by rw [Int.pow_succ,Int.mul_comm]
    have e2:(16 * x+d) * (16:Int) ^ k=16 * x * (16:Int) ^ k+d * (16:Int) ^ k:=Int.add_mul _ _ _
    have p0:0 < (16:Int) ^ k:=Int.pow_pos (by decide)
    have m0:0≤d * (16:Int) ^ k:=Int.mul_nonneg r.1 (Int.le_of_lt p0)
    have m1:d * (16:Int) ^ k≤15 * (16:Int) ^ k:=Int.mul_le_mul_of_nonneg_right r.2 (Int.le_of_lt p0)
    rw [e2] at this
    rw [e,e1]
    generalize d * (16:Int) ^ k=D at *
    generalize 16 * x * (16:Int) ^ k=X at *
    generalize (16:Int) ^ k=P at *
    omega
def UniRel (s:ByteArray) (a:Nat) (R:Option Int) (u:Int×Int×Bool):Prop:=match R with
 | none=>u.2.2=false
 | some v=>if 56320≤v∧v≤57343 then u.2.2=false else u=uniL s a 0 4 v
theorem uni_level {s:ByteArray}{a k i:Nat}{ch:Int} (hi:i≠1) (h:a+2+i≤s.size)
  (next:∀ d,hexV (byteAt s (a+2+i))=some d→a+2+(i+1)≤s.size→UniRel s a (fourL s k (a+2+(i+1)) (16 * ch+d)) (uniL s a k (i+1) (16 * ch+d))):UniRel s a (fourL s (k+1) (a+2+i) ch) (uniL s a (k+1) i ch):=by
 rw [fourL,uniL]
 by_cases z:s.size≤a+2+i
 ·rw [if_pos z,if_pos (by omega)]
  rfl
 ·rw [if_neg z,if_neg (by omega)]
  cases hx:hexV (byteAt s (a+2+i)) with
  | none=>rfl
  | some d =>
   simp only [if_neg hi]
   have:=next d hx (by omega)
   rw [show ch * 16+d=16 * ch+d by omega,show a+2+i+1=a+2+(i+1) by omega]
   exact this
theorem uni_level1 {s:ByteArray}{a:Nat}{ch:Int} (h:a+2+1≤s.size)
  (next:∀ d,hexV (byteAt s (a+2+1))=some d→¬ (220≤16 * ch+d∧16 * ch+d≤223)→a+2+(1+1)≤s.size→UniRel s a (fourL s 2 (a+2+(1+1)) (16 * ch+d)) (uniL s a 2 (1+1) (16 * ch+d))):UniRel s a (fourL s 3 (a+2+1) ch) (uniL s a 3 1 ch):=by
 rw [fourL,uniL]
 by_cases z:s.size≤a+2+1
 ·rw [if_pos z,if_pos (by omega)]
  rfl
 ·rw [if_neg z,if_neg (by omega)]
  cases hx:hexV (byteAt s (a+2+1)) with
  | none=>rfl
  | some d =>
   simp only [if_true]
   rw [show ch * 16+d=16 * ch+d by omega,show a+2+1+1=a+2+(1+1) by omega]
   by_cases hb:220≤16 * ch+d∧16 * ch+d≤223
   ·rw [if_pos (by simpa [halfB] using hb)]
    cases hf:fourL s 2 (a+2+(1+1)) (16 * ch+d) with
    | none=>rfl
    | some v =>
     have r:=fourL_range hf
     have:56320≤v∧v≤57343:=by
      have e:(16:Int) ^ 2=256:=by decide
      rw [e] at r
      omega
     show (if _ then _ else _)
     rw [if_pos this]
   ·rw [if_neg (by simpa [halfB] using hb)]
    exact next d hx hb (by omega)
theorem uni_rel {s:ByteArray}{a:Nat} (h:a+2≤s.size):UniRel s a (fourL s 4 (a+2) 0) (uniL s a 4 0 0) :=
 uni_level (by omega) h fun d0 h0 l0=>uni_level1 l0 fun d1 h1 nb l1=>uni_level (by omega) l1 fun d2 h2 l2=>uni_level (by omega) l2 fun d3 h3 l3=>by
  have r0:=hexV_range h0
  have r1:=hexV_range h1
  have r2:=hexV_range h2
  have r3:=hexV_range h3
  show (if _ then _ else _)
  rw [if_neg (by omega)]
theorem uni_none {s:ByteArray}{a:Nat} (h:a+2≤s.size) (hf:fourL s 4 (a+2) 0=none):(uniL s a 4 0 0).2.2=false:=by
 have:=uni_rel h
 rw [hf] at this
 exact this
theorem uni_half {s:ByteArray}{a:Nat}{v:Int} (h:a+2≤s.size) (hf:fourL s 4 (a+2) 0=some v) (hv:56320≤v∧v≤57343):(uniL s a 4 0 0).2.2=false:=by
 have:=uni_rel h
 rw [hf] at this
 have this:if _ then _ else _:=this
 rw [if_pos hv] at this
 exact this
theorem uni_some {s:ByteArray}{a:Nat}{v:Int} (h:a+2≤s.size) (hf:fourL s 4 (a+2) 0=some v) (hv:¬ (56320≤v∧v≤57343)):uniL s a 4 0 0=if v < 55296 then (v,((a+6:Nat):Int),true) else if 57343 < v then (v,((a+6:Nat):Int),true) else halfL s a v 6 0 0:=by
 have:=uni_rel h
 rw [hf] at this
 have this:if _ then _ else _:=this
 rw [if_neg hv] at this
 rw [this,uniL]
 simp
def HalfRel (a:Nat) (first:Int) (R:Option Int) (u:Int×Int×Bool):Prop:=match R with
 | none=>u.2.2=false
 | some v=>u=(65536+(first - 55296) * 1024+(v - 56320),((a+12:Nat):Int),true)∧56320≤v∧v≤57343
theorem half_level {s:ByteArray}{a k j:Nat}{first ch:Int} (h:a+8+j≤s.size)
  (hok:∀ d,0≤d→d≤15→(halfB (16 * ch+d) j=true↔¬ ((j=0∧d≠13)∨(j=1∧d < 12))))
  (next:∀ d,0≤d→d≤15→¬ ((j=0∧d≠13)∨(j=1∧d < 12))→a+8+(j+1)≤s.size→HalfRel a first (secL s k (j+1) (a+8+(j+1)) (16 * ch+d)) (halfL s a first k (j+3) (16 * ch+d))):HalfRel a first (secL s (k+1) j (a+8+j) ch) (halfL s a first (k+1) (j+2) ch):=by
 rw [secL,halfL,show a+6+(j+2)=a+8+j by omega]
 by_cases z:s.size≤a+8+j
 ·rw [if_pos z,if_pos (by omega)]
  rfl
 ·rw [if_neg z,if_neg (by omega),if_neg (by omega),if_neg (by omega)]
  cases hx:hexV (byteAt s (a+8+j)) with
  | none=>rfl
  | some d =>
   have r:=hexV_range hx
   simp only [show j+2 - 2=j by omega]
   rw [show ch * 16+d=16 * ch+d by omega]
   have hk:=hok d r.1 r.2
   by_cases hb:(j=0∧d≠13)∨(j=1∧d < 12)
   ·rw [if_pos hb,if_neg (by rw [hk];exact fun h=>h hb)]
    rfl
   ·rw [if_neg hb,if_pos (hk.2 hb),show a+8+j+1=a+8+(j+1) by omega]
    exact next d r.1 r.2 hb (by omega)
theorem half_rel {s:ByteArray}{a:Nat}{first:Int} (h:a+6≤s.size):HalfRel a first (secR s (a+6)) (halfL s a first 6 0 0):=by
 unfold secR
 rw [halfL]
 by_cases z0:s.size≤a+6
 ·rw [if_pos z0,if_pos (show a+6+0=s.size by omega)]
  rfl
 rw [if_neg z0,if_neg (show ¬ a+6+0=s.size by omega),if_pos (show (0:Nat)=0 from rfl),Nat.add_zero]
 by_cases z1:byteAt s (a+6)=92
 case neg =>
  rw [if_pos z1,if_neg z1]
  rfl
 rw [if_neg (show ¬ byteAt s (a+6)≠92 from fun h=>h z1),if_pos z1,halfL,Nat.zero_add]
 by_cases z2:s.size≤a+6+1
 ·rw [if_pos z2,if_pos (show a+6+1=s.size by omega)]
  rfl
 rw [if_neg z2,if_neg (show ¬ a+6+1=s.size by omega),if_neg (show ¬ (1:Nat)=0 by decide),if_pos (show (1:Nat)=1 from rfl)]
 by_cases z3:byteAt s (a+6+1)=117
 case neg =>
  rw [if_pos z3,if_neg z3]
  rfl
 rw [if_neg (show ¬ byteAt s (a+6+1)≠117 from fun h=>h z3),if_pos z3]
 rw [show a+6+2=a+8+0 by omega]
 refine half_level (by omega) (fun d _ _=>by simp [halfB];omega) fun d0 a0 b0 c0 l0=>?_
 have e0:d0=13:=by omega
 subst e0
 refine half_level (by omega) (fun d _ _=>by simp [halfB];omega) fun d1 a1 b1 c1 l1=>?_
 refine half_level (by omega) (fun d _ _=>by simp [halfB];omega) fun d2 a2 b2 c2 l2=>?_
 refine half_level (by omega) (fun d _ _=>by simp [halfB];omega) fun d3 a3 b3 c3 l3=>?_
 refine ⟨?_,by omega,by omega⟩
 rw [halfL]
 simp
end Go.Proofs.Tryz
