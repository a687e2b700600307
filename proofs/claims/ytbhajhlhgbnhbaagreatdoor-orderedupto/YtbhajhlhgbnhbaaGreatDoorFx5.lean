import Derived.Test.YtbhajhlhgbnhbaaGreatDoorNames2
import Derived.Laws.BitsLemmas
set_option linter.all false
namespace Go.Proofs.Tryz
set_option maxHeartbeats 16000000
open Go.RowKit
set_option maxRecDepth 10000
theorem drewN_two (w:World) (a b:Nat):(w.drewN a).drewN b=w.drewN (a+b):=by
 simp [World.drewN,Nat.add_assoc]
def byteAt (s:ByteArray) (a:Nat):Int:=match s.data.toList[a]? with
 | some c=>c.toNat
 | none=>0
theorem vIsDigit_any (c:Int) (w:World):Calls Tryz.prog 71 #[.int .u8 c] w fun e w'=>e = .returned (.bool (decide (48≤c) && decide (c≤57)))∧w'=w:=by
 go_enter Tryz.func71,Tryz.ntmps71
 by_cases h:48≤c
 ·go_wp2
  go_ret
  exact ⟨ret_bool (by simp [h]),rfl⟩
 ·go_wp2
  go_ret
  exact ⟨ret_bool (by rw [decide_eq_false (by omega:¬ 48≤c)];rfl),rfl⟩
def hexV (c:Int):Option Int :=
 if 48≤c∧c≤57 then some (c - 48) else if 97≤c∧c≤102 then some (c - 97+10) else if 65≤c∧c≤70 then some (c - 65+10) else none
theorem hexV_range {c v:Int} (h:hexV c=some v):0≤v∧v≤15:=by
 unfold hexV at h
 split at h
 ·cases h;omega
 ·split at h
  ·cases h;omega
  ·split at h
   ·cases h;omega
   ·cases h
theorem hexDigit_ok (c:Int) (h0:0≤c) (h1:c≤255) (w:World) :
  Calls Tryz.prog 244 #[.int .u8 c] w fun e w'=>e = .returned (.tuple #[.int .i32 ((hexV c).getD 0),.bool (hexV c).isSome])∧∃ n,w'=w.drewN n:=by
 by_cases hd:48≤c∧c≤57
 ·rw [show hexV c=some (c - 48) by simp only [hexV,if_pos hd]]
  have e1:(decide (48≤c) && decide (c≤57))=true:=by simpa using hd
  go_enter Tryz.func244,Tryz.ntmps244
  go_wp2_with (go_at_call 71;refine (vIsDigit_any c _).mono ?_;rintro e w1 ⟨rfl,rfl⟩;rw [e1])
  go_ret2
  exact ⟨rfl,0,rfl⟩
 ·have e1:(decide (48≤c) && decide (c≤57))=false:=by
   rw [Bool.and_eq_false_iff]
   simp only [decide_eq_false_iff_not]
   omega
  by_cases hl:97≤c∧c≤102
  ·rw [show hexV c=some (c - 97+10) by simp only [hexV,if_neg hd,if_pos hl]]
   obtain ⟨l0,l1⟩:=hl
   go_enter Tryz.func244,Tryz.ntmps244
   go_wp2_with (go_at_call 71;refine (vIsDigit_any c _).mono ?_;rintro e w1 ⟨rfl,rfl⟩;rw [e1])
   go_ret2
   exact ⟨rfl,0,rfl⟩
  ·by_cases hu:65≤c∧c≤70
   ·rw [show hexV c=some (c - 65+10) by simp only [hexV,if_neg hd,if_neg hl,if_pos hu]]
    obtain ⟨u0,u1⟩:=hu
    have l0:¬ 97≤c:=by omega
    go_enter Tryz.func244,Tryz.ntmps244
    go_wp2_with (go_at_call 71;refine (vIsDigit_any c _).mono ?_;rintro e w1 ⟨rfl,rfl⟩;rw [e1])
    go_ret2
    exact ⟨rfl,0,rfl⟩
   ·rw [show hexV c=none by simp only [hexV,if_neg hd,if_neg hl,if_neg hu]]
    by_cases l0:97≤c
    ·have l1:¬ c≤102:=by omega
     have u0:65≤c:=by omega
     have u1:¬ c≤70:=by omega
     go_enter Tryz.func244,Tryz.ntmps244
     go_wp2_with (go_at_call 71;refine (vIsDigit_any c _).mono ?_;rintro e w1 ⟨rfl,rfl⟩;rw [e1])
     go_ret2
     exact ⟨rfl,0,rfl⟩
    ·by_cases u0:65≤c
     ·have u1:¬ c≤70:=by omega
      go_enter Tryz.func244,Tryz.ntmps244
      go_wp2_with (go_at_call 71;refine (vIsDigit_any c _).mono ?_;rintro e w1 ⟨rfl,rfl⟩;rw [e1])
      go_ret2
      exact ⟨rfl,0,rfl⟩
     ·skip
      go_enter Tryz.func244,Tryz.ntmps244
      go_wp2_with (go_at_call 71;refine (vIsDigit_any c _).mono ?_;rintro e w1 ⟨rfl,rfl⟩;rw [e1])
      go_ret2
      exact ⟨rfl,0,rfl⟩
def followV (c:Int):Int×Int×Int :=
 if c < 128 then (0,0,0) else if c < 194 then (0,0,-1) else if 244 < c then (0,0,-1) else if c < 224 then (128,191,1) else if c=224 then (160,191,2) else if c=237 then (128,159,2) else if c < 240 then (128,191,2) else if c=240 then (144,191,3) else if c=244 then (128,143,3) else (128,191,3)
theorem following_ok (c:Int) (b0:0≤c) (b1:c≤255) (w:World) :
  Calls Tryz.prog 136 #[.int .u8 c] w fun e w'=>e = .returned (.tuple #[.int .u8 (followV c).1,.int .u8 (followV c).2.1,.int .i64 (followV c).2.2])∧w'=w:=by
 by_cases n0:c < 128
 ·rw [show followV c=(0,0,0) by simp only [followV,if_pos n0]]
  go_enter Tryz.func136,Tryz.ntmps136
  go_wp2
  go_ret3
  exact ⟨rfl,rfl⟩
 ·skip
  by_cases n1:c < 194
  ·rw [show followV c=(0,0,-1) by simp only [followV,if_neg n0,if_pos n1]]
   go_enter Tryz.func136,Tryz.ntmps136
   go_wp2
   go_ret3
   exact ⟨rfl,rfl⟩
  ·skip
   by_cases n2:244 < c
   ·rw [show followV c=(0,0,-1) by simp only [followV,if_neg n0,if_neg n1,if_pos n2]]
    go_enter Tryz.func136,Tryz.ntmps136
    go_wp2
    go_ret3
    exact ⟨rfl,rfl⟩
   ·skip
    by_cases n3:c < 224
    ·rw [show followV c=(128,191,1) by simp only [followV,if_neg n0,if_neg n1,if_neg n2,if_pos n3]]
     go_enter Tryz.func136,Tryz.ntmps136
     go_wp2
     go_ret3
     exact ⟨rfl,rfl⟩
    ·skip
     by_cases n4:c=224
     ·rw [show followV c=(160,191,2) by simp only [followV,if_neg n0,if_neg n1,if_neg n2,if_neg n3,if_pos n4]]
      subst n4
      go_enter Tryz.func136,Tryz.ntmps136
      go_wp2
      go_ret3
      exact ⟨rfl,rfl⟩
     ·skip
      by_cases n5:c=237
      ·rw [show followV c=(128,159,2) by simp only [followV,if_neg n0,if_neg n1,if_neg n2,if_neg n3,if_neg n4,if_pos n5]]
       subst n5
       go_enter Tryz.func136,Tryz.ntmps136
       go_wp2
       go_ret3
       exact ⟨rfl,rfl⟩
      ·skip
       by_cases n6:c < 240
       ·rw [show followV c=(128,191,2) by simp only [followV,if_neg n0,if_neg n1,if_neg n2,if_neg n3,if_neg n4,if_neg n5,if_pos n6]]
        go_enter Tryz.func136,Tryz.ntmps136
        go_wp2
        go_ret3
        exact ⟨rfl,rfl⟩
       ·skip
        by_cases n7:c=240
        ·rw [show followV c=(144,191,3) by simp only [followV,if_neg n0,if_neg n1,if_neg n2,if_neg n3,if_neg n4,if_neg n5,if_neg n6,if_pos n7]]
         subst n7
         go_enter Tryz.func136,Tryz.ntmps136
         go_wp2
         go_ret3
         exact ⟨rfl,rfl⟩
        ·skip
         by_cases n8:c=244
         ·rw [show followV c=(128,143,3) by simp only [followV,if_neg n0,if_neg n1,if_neg n2,if_neg n3,if_neg n4,if_neg n5,if_neg n6,if_neg n7,if_pos n8]]
          subst n8
          go_enter Tryz.func136,Tryz.ntmps136
          go_wp2
          go_ret3
          exact ⟨rfl,rfl⟩
         ·skip
          rw [show followV c=(128,191,3) by simp only [followV,if_neg n0,if_neg n1,if_neg n2,if_neg n3,if_neg n4,if_neg n5,if_neg n6,if_neg n7,if_neg n8]]
          go_enter Tryz.func136,Tryz.ntmps136
          go_wp2
          go_ret3
          exact ⟨rfl,rfl⟩
def halfB (d:Int):Nat→Bool
 | 0=>decide (13≤d) && decide (d≤13)
 | 1=>decide (220≤d) && decide (d≤223)
 | 2=>decide (3520≤d) && decide (d≤3583)
 | _=>decide (56320≤d) && decide (d≤57343)
theorem begins_ok (d:Int) (i:Nat) (hi:i < 4) (w:World) :
  Calls Tryz.prog 245 #[.int .i32 d,.int .i64 i] w fun e w'=>e = .returned (.bool (halfB d i))∧∃ n,w'=w.drewN n:=by
 match i,hi with
 | 0,_ =>
  by_cases l0:13≤d
  ·by_cases l1:d≤13
   ·rw [show halfB d 0=true by simp [halfB,l0,l1]]
    go_enter Tryz.func245,Tryz.ntmps245
    go_wp2
    go_ret
    exact ⟨rfl,0,rfl⟩
   ·rw [show halfB d 0=false by simp [halfB,l1]]
    go_enter Tryz.func245,Tryz.ntmps245
    go_wp2
    go_ret
    exact ⟨rfl,0,rfl⟩
  ·rw [show halfB d 0=false by simp [halfB,l0]]
   go_enter Tryz.func245,Tryz.ntmps245
   go_wp2
   go_ret
   exact ⟨rfl,0,rfl⟩
 | 1,_ =>
  by_cases l0:220≤d
  ·by_cases l1:d≤223
   ·rw [show halfB d 1=true by simp [halfB,l0,l1]]
    go_enter Tryz.func245,Tryz.ntmps245
    go_wp2
    go_ret
    exact ⟨rfl,0,rfl⟩
   ·rw [show halfB d 1=false by simp [halfB,l1]]
    go_enter Tryz.func245,Tryz.ntmps245
    go_wp2
    go_ret
    exact ⟨rfl,0,rfl⟩
  ·rw [show halfB d 1=false by simp [halfB,l0]]
   go_enter Tryz.func245,Tryz.ntmps245
   go_wp2
   go_ret
   exact ⟨rfl,0,rfl⟩
 | 2,_ =>
  by_cases l0:3520≤d
  ·by_cases l1:d≤3583
   ·rw [show halfB d 2=true by simp [halfB,l0,l1]]
    go_enter Tryz.func245,Tryz.ntmps245
    go_wp2
    go_ret
    exact ⟨rfl,0,rfl⟩
   ·rw [show halfB d 2=false by simp [halfB,l1]]
    go_enter Tryz.func245,Tryz.ntmps245
    go_wp2
    go_ret
    exact ⟨rfl,0,rfl⟩
  ·rw [show halfB d 2=false by simp [halfB,l0]]
   go_enter Tryz.func245,Tryz.ntmps245
   go_wp2
   go_ret
   exact ⟨rfl,0,rfl⟩
 | 3,_ =>
  by_cases l0:56320≤d
  ·by_cases l1:d≤57343
   ·rw [show halfB d 3=true by simp [halfB,l0,l1]]
    go_enter Tryz.func245,Tryz.ntmps245
    go_wp2
    go_ret
    exact ⟨rfl,0,rfl⟩
   ·rw [show halfB d 3=false by simp [halfB,l1]]
    go_enter Tryz.func245,Tryz.ntmps245
    go_wp2
    go_ret
    exact ⟨rfl,0,rfl⟩
  ·rw [show halfB d 3=false by simp [halfB,l0]]
   go_enter Tryz.func245,Tryz.ntmps245
   go_wp2
   go_ret
   exact ⟨rfl,0,rfl⟩
def halfL (s:ByteArray) (start:Nat) (first:Int):Nat→Nat→Int→Int×Int×Bool
 | 0,_,sec=>(65536+(first - 55296) * 1024+(sec - 56320),start+12,true)
 | k+1,i,sec =>
  if start+6+i=s.size then (0,start+6+i,false)
  else if i=0 then if byteAt s (start+6+i)=92 then halfL s start first k (i+1) sec else (0,start,false)
  else if i=1 then if byteAt s (start+6+i)=117 then halfL s start first k (i+1) sec else (0,start,false)
  else match hexV (byteAt s (start+6+i)) with
   | some d=>if halfB (sec * 16+d) (i - 2) then halfL s start first k (i+1) (sec * 16+d) else (0,start,false)
   | none=>(0,start,false)
def upTo (sec:Int):Nat→Prop
 | 0=>sec=0
 | 1=>sec=0
 | 2=>sec=0
 | n+3=>halfB sec n=true
theorem byte_range (s:ByteArray) (a:Nat):0≤byteAt s a∧byteAt s a≤255:=by
 unfold byteAt
 split
 ·rename_i c _
  have:=c.toNat_lt
  omega
 ·omega
theorem byte_at {s:ByteArray}{a:Nat} (h:a < s.size):byteAt s a=(s[a].toNat:Int):=by simp only [byteAt,at_list s a h]
theorem or16 (x d:Int) (x0:0≤x) (x1:x≤100000000) (d0:0≤d) (d1:d≤15):bits .or .i32 (x * 16) d=x * 16+d:=by
 exact bits_join .i32 31 (by decide) (fun n a b=>by simp [IntKind.wrap,IntKind.bits,IntKind.signed];omega) 4 (x * 16) d (by omega) (by omega) (by omega) d0 (by omega) (by omega)
theorem second_ok (s:ByteArray) (start:Nat) (first:Int) (h:start+6≤s.size) (hm:s.size≤1000000000000) (f0:55296≤first) (f1:first≤56319) (w:World) :
  Calls Tryz.prog 246 #[.string s,.int .i64 start,.int .i32 first] w fun e w'=>e = .returned (.tuple #[.int .i32 (halfL s start first 6 0 0).1,.int .i64 (halfL s start first 6 0 0).2.1,.bool (halfL s start first 6 0 0).2.2])∧∃ n,w'=w.drewN n:=by
 obtain ⟨R,hR⟩:∃ R,halfL s start first 6 0 0=R:=⟨_,rfl⟩
 rw [hR]
 have HR:Hid _:=hR
 clear hR
 go_enter Tryz.func246,Tryz.ntmps246
 go_wp2_with fail
 go_loopg [9,16] 6 (fun k v t wr=>∃ (i:Nat) (sec:Int),i+k=6∧start+6+i≤s.size∧t = .int .i64 i∧v = .int .i32 sec∧upTo sec i∧(∃ n,wr=w.drewN n)∧halfL s start first k i sec=R)
 case atStart=>exact ⟨0,0,rfl,h,rfl,rfl,rfl,⟨0,rfl⟩,HR.out⟩
 case round =>
  obtain ⟨i,sec,hik,hle,rfl,rfl,hu,⟨n,rfl⟩,hr⟩:=hrel
  match gk,hik,hr with
  | 0,hik,hr =>
   obtain rfl:i=6:=by omega
   have hu':(decide (56320≤sec) && decide (sec≤57343))=true:=hu
   simp only [Bool.and_eq_true,decide_eq_true_eq] at hu'
   obtain ⟨u0,u1⟩:=hu'
   have HR2:Hid _:=hr
   clear hr hu
   go_wp2_with fail
   go_ret3
   rw [← HR2.out]
   exact ⟨rfl,n,rfl⟩
  | k+1,hik,hr =>
   have i6:(i:Int) < 6:=by omega
   have i0:(0:Int)≤(i:Int):=by omega
   obtain ⟨p,hp⟩:∃ p:Nat,p=start+6+i:=⟨_,rfl⟩
   have hpi:(start:Int)+6+(i:Int)=(p:Int):=by omega
   rw [halfL,← hp] at hr
   have HP:Hid _:=hp
   clear hp
   by_cases hz:p=s.size
   ·rw [if_pos hz] at hr
    have hz':(p:Int)=(s.size:Int):=by omega
    clear hz
    have HR2:Hid _:=hr
    clear hr hu
    go_wp2_with fail
    go_ret3
    rw [← HR2.out,show (start:Int)+6+(i:Int)=(s.size:Int) by omega]
    exact ⟨rfl,n,rfl⟩
   ·have hlt:p < s.size:=by have:=HP.out;omega
    have hz':¬ (p:Int)=(s.size:Int):=by omega
    have hl':(p:Int) < (s.size:Int):=by omega
    have p0:(0:Int)≤(p:Int):=by omega
    rw [if_neg hz] at hr
    clear hz
    obtain ⟨b0,b1⟩:=byte_range s p
    have eb:=byte_at hlt
    obtain ⟨c,hc⟩:∃ c,byteAt s p=c:=⟨_,rfl⟩
    rw [hc] at eb hr b0 b1
    clear hc
    have ec:(s[p].toNat:Int)=c:=eb.symm
    clear eb
    by_cases z0:i=0
    ·rw [if_pos z0] at hr
     have t0:((i:Int) == 0)=true:=by simp;omega
     have HZ:Hid _:=z0
     have hu':sec=0:=by subst z0;exact hu
     clear hu z0
     by_cases hc:c=92
     ·rw [if_pos hc] at hr
      have t1:((s[p].toNat:Int) == 92)=true:=by simp;omega
      have HR2:Hid _:=hr
      clear hr hc ec
      subst hu'
      go_wp2_with fail
      go_roundg k
      case measure=>omega
      case rel=>exact ⟨i+1,0,by omega,by have:=HP.out;omega,by go_num,rfl,by rw [HZ.out];rfl,⟨n,rfl⟩,HR2.out⟩
     ·rw [if_neg hc] at hr
      have t1:((s[p].toNat:Int) == 92)=false:=by simp;omega
      have HR2:Hid _:=hr
      clear hr hc ec
      go_wp2_with fail
      go_ret3
      rw [← HR2.out]
      exact ⟨rfl,n,rfl⟩
    ·rw [if_neg z0] at hr
     have t0:((i:Int) == 0)=false:=by simp;omega
     by_cases z1:i=1
     ·rw [if_pos z1] at hr
      have t2:((i:Int) == 1)=true:=by simp;omega
      have HZ:Hid _:=z1
      have hu':sec=0:=by subst z1;exact hu
      clear hu z0 z1
      by_cases hc:c=117
      ·rw [if_pos hc] at hr
       have t1:((s[p].toNat:Int) == 117)=true:=by simp;omega
       have HR2:Hid _:=hr
       clear hr hc ec
       subst hu'
       go_wp2_with fail
       go_roundg k
       case measure=>omega
       case rel=>exact ⟨i+1,0,by omega,by have:=HP.out;omega,by go_num,rfl,by rw [HZ.out];rfl,⟨n,rfl⟩,HR2.out⟩
      ·rw [if_neg hc] at hr
       have t1:((s[p].toNat:Int) == 117)=false:=by simp;omega
       have HR2:Hid _:=hr
       clear hr hc ec
       go_wp2_with fail
       go_ret3
       rw [← HR2.out]
       exact ⟨rfl,n,rfl⟩
     ·rw [if_neg z1] at hr
      have t2:((i:Int) == 1)=false:=by simp;omega
      obtain ⟨j,hj⟩:∃ j:Nat,i=j+2:=⟨i - 2,by omega⟩
      have hij:(i:Int) - 2=(j:Int):=by omega
      have hj4:j < 4:=by omega
      have sb:0≤sec∧sec≤3583:=by
       subst hj
       match j,hj4,hu with
       | 0,_,hu=>have:sec=0:=hu;omega
       | 1,_,hu=>have:(decide (13≤sec) && decide (sec≤13))=true:=hu;simp at this;omega
       | 2,_,hu=>have:(decide (220≤sec) && decide (sec≤223))=true:=hu;simp at this;omega
       | 3,_,hu=>have:(decide (3520≤sec) && decide (sec≤3583))=true:=hu;simp at this;omega
      obtain ⟨s0,s1⟩:=sb
      have hj2:i - 2=j:=by omega
      rw [hj2] at hr
      have HJ:Hid _:=hj
      clear hu z0 z1 hj hj2
      subst ec
      cases hx:hexV (s[p].toNat:Int) with
      | none =>
       rw [hx] at hr
       have HR2:Hid _:=hr
       clear hr
       have eo:bits .or .i32 (sec * 16) 0=sec * 16:=by have:=or16 sec 0 s0 (by omega) (by omega) (by omega);simpa using this
       go_wp2_with (go_at_call 244;refine (hexDigit_ok _ b0 b1 _).mono ?_;rintro e w1 ⟨rfl,m,rfl⟩;rw [hx])
       go_ret3
       rw [← HR2.out]
       exact ⟨rfl,_,rfl⟩
      | some d =>
       rw [hx] at hr
       obtain ⟨d0,d1⟩:=hexV_range hx
       have eo:bits .or .i32 (sec * 16) d=sec * 16+d:=or16 sec d s0 (by omega) d0 d1
       cases hb:halfB (sec * 16+d) j with
       | true =>
        simp only [hb,if_true] at hr
        have HR2:Hid _:=hr
        clear hr
        have hw:Hid (upTo (sec * 16+d) (i+1)):=by rw [HJ.out];exact hb
        go_wp2_with (first
         | (go_at_call 244;refine (hexDigit_ok _ b0 b1 _).mono ?_;rintro e w1 ⟨rfl,m,rfl⟩;rw [hx])
         | (go_at_call 245;refine (begins_ok _ j hj4 _).mono ?_;rintro e w1 ⟨rfl,m2,rfl⟩;rw [hb]))
        go_roundg k
        case measure=>omega
        case rel=>exact ⟨i+1,sec * 16+d,by omega,by have:=HP.out;omega,by go_num,rfl,hw.out,⟨_,rfl⟩,HR2.out⟩
       | false =>
        simp only [hb] at hr
        have HR2:Hid _:=hr
        clear hr
        go_wp2_with (first
         | (go_at_call 244;refine (hexDigit_ok _ b0 b1 _).mono ?_;rintro e w1 ⟨rfl,m,rfl⟩;rw [hx])
         | (go_at_call 245;refine (begins_ok _ j hj4 _).mono ?_;rintro e w1 ⟨rfl,m2,rfl⟩;rw [hb]))
        go_ret3
        rw [← HR2.out]
        exact ⟨rfl,_,rfl⟩
def uniL (s:ByteArray) (start:Nat):Nat→Nat→Int→Int×Int×Bool
 | 0,_,ch=>if ch < 55296 then (ch,start+6,true) else if 57343 < ch then (ch,start+6,true) else halfL s start ch 6 0 0
 | k+1,i,ch =>
  if start+2+i=s.size then (0,start+2+i,false)
  else match hexV (byteAt s (start+2+i)) with
   | none=>(0,start+2+i,false)
   | some d=>if i=1 then if halfB (ch * 16+d) 1 then (0,start,false) else uniL s start k (i+1) (ch * 16+d) else uniL s start k (i+1) (ch * 16+d)
def uniUp (ch:Int):Nat→Prop
 | 0=>ch=0
 | 1=>0≤ch∧ch≤15
 | 2=>0≤ch∧ch≤255∧¬ (220≤ch∧ch≤223)
 | 3=>0≤ch∧ch≤4095∧¬ (3520≤ch∧ch≤3583)
 | _=>0≤ch∧ch≤65535∧¬ (56320≤ch∧ch≤57343)
theorem uniUp_step {ch d:Int}{i:Nat} (h:uniUp ch i) (hi:i < 4) (d0:0≤d) (d1:d≤15) (hb:i=1→halfB (ch * 16+d) 1=false):uniUp (ch * 16+d) (i+1):=by
 match i,hi,h,hb with
 | 0,_,h,_=>have h:ch=0:=h;subst h;exact ⟨by omega,by omega⟩
 | 1,_,h,hb =>
  obtain ⟨a,b⟩:=h
  have hb:=hb rfl
  have hb:(decide (220≤ch * 16+d) && decide (ch * 16+d≤223))=false:=hb
  refine ⟨by omega,by omega,fun ⟨x,y⟩=>?_⟩
  simp [x,y] at hb
 | 2,_,h,_=>obtain ⟨a,b,c⟩:=h;exact ⟨by omega,by omega,by omega⟩
 | 3,_,h,_=>obtain ⟨a,b,c⟩:=h;exact ⟨by omega,by omega,by omega⟩
theorem uniUp_range {ch:Int}{i:Nat} (h:uniUp ch i):0≤ch∧ch≤65535:=by
 match i,h with
 | 0,h=>have h:ch=0:=h;omega
 | 1,h=>obtain ⟨a,b⟩:=h;omega
 | 2,h=>obtain ⟨a,b,c⟩:=h;omega
 | 3,h=>obtain ⟨a,b,c⟩:=h;omega
 | _+4,h=>obtain ⟨a,b,c⟩:=h;omega
theorem unicode_ok (s:ByteArray) (start:Nat) (h:start+2≤s.size) (hm:s.size≤1000000000000) (w:World) :
  Calls Tryz.prog 193 #[.string s,.int .i64 start] w fun e w'=>e = .returned (.tuple #[.int .i32 (uniL s start 4 0 0).1,.int .i64 (uniL s start 4 0 0).2.1,.bool (uniL s start 4 0 0).2.2])∧∃ n,w'=w.drewN n:=by
 obtain ⟨R,hR⟩:∃ R,uniL s start 4 0 0=R:=⟨_,rfl⟩
 rw [hR]
 have HR:Hid _:=hR
 clear hR
 go_enter Tryz.func193,Tryz.ntmps193
 go_wp2_with fail
 go_loopg [7,12] 4 (fun k v t wr=>∃ (i:Nat) (ch:Int),i+k=4∧start+2+i≤s.size∧t = .int .i64 i∧v = .int .i32 ch∧uniUp ch i∧(∃ n,wr=w.drewN n)∧uniL s start k i ch=R)
 case atStart=>exact ⟨0,0,rfl,h,rfl,rfl,rfl,⟨0,rfl⟩,HR.out⟩
 case round =>
  obtain ⟨i,ch,hik,hle,rfl,rfl,hu,⟨n,rfl⟩,hr⟩:=hrel
  obtain ⟨r0,r1⟩:=uniUp_range hu
  match gk,hik,hr with
  | 0,hik,hr =>
   obtain rfl:i=4:=by omega
   obtain ⟨_,_,u2⟩:=hu
   rw [uniL] at hr
   by_cases c0:ch < 55296
   ·rw [if_pos c0] at hr
    have HR2:Hid _:=hr
    clear hr u2
    go_wp2_with fail
    go_ret3
    rw [← HR2.out]
    exact ⟨rfl,n,rfl⟩
   ·rw [if_neg c0] at hr
    by_cases c1:57343 < ch
    ·rw [if_pos c1] at hr
     have HR2:Hid _:=hr
     clear hr u2
     go_wp2_with fail
     go_ret3
     rw [← HR2.out]
     exact ⟨rfl,n,rfl⟩
    ·rw [if_neg c1] at hr
     have g0:55296≤ch:=by omega
     have g1:ch≤56319:=by omega
     have hs6:start+6≤s.size:=by omega
     have HR2:Hid _:=hr
     clear hr u2
     go_wp2_with (go_at_call 246;refine (second_ok s start ch hs6 hm g0 g1 _).mono ?_;rintro e w1 ⟨rfl,m,rfl⟩;rw [HR2.out])
     go_ret3
     exact ⟨rfl,_,rfl⟩
  | k+1,hik,hr =>
   have i4:(i:Int) < 4:=by omega
   have i0:(0:Int)≤(i:Int):=by omega
   have hi4:i < 4:=by omega
   obtain ⟨p,hp⟩:∃ p:Nat,p=start+2+i:=⟨_,rfl⟩
   have hpi:(start:Int)+2+(i:Int)=(p:Int):=by omega
   rw [uniL,← hp] at hr
   have HP:Hid _:=hp
   clear hp
   by_cases hz:p=s.size
   ·rw [if_pos hz] at hr
    have hz':(p:Int)=(s.size:Int):=by omega
    clear hz
    have HR2:Hid _:=hr
    clear hr hu
    go_wp2_with fail
    go_ret3
    rw [← HR2.out,show (start:Int)+2+(i:Int)=(s.size:Int) by omega]
    exact ⟨rfl,n,rfl⟩
   ·have hlt:p < s.size:=by have:=HP.out;omega
    have hz':¬ (p:Int)=(s.size:Int):=by omega
    have hl':(p:Int) < (s.size:Int):=by omega
    have p0:(0:Int)≤(p:Int):=by omega
    rw [if_neg hz] at hr
    clear hz
    obtain ⟨b0,b1⟩:=byte_range s p
    have eb:=byte_at hlt
    rw [eb] at hr b0 b1
    clear eb
    cases hx:hexV (s[p].toNat:Int) with
    | none =>
     rw [hx] at hr
     have HR2:Hid _:=hr
     clear hr hu
     go_wp2_with (go_at_call 244;refine (hexDigit_ok _ b0 b1 _).mono ?_;rintro e w1 ⟨rfl,m,rfl⟩;rw [hx])
     go_ret3
     rw [← HR2.out,show (start:Int)+2+(i:Int)=(p:Int) by omega]
     exact ⟨rfl,_,rfl⟩
    | some d =>
     rw [hx] at hr
     obtain ⟨d0,d1⟩:=hexV_range hx
     have eo:bits .or .i32 (ch * 16) d=ch * 16+d:=or16 ch d r0 (by omega) d0 d1
     by_cases z1:i=1
     ·have t2:((i:Int) == 1)=true:=by simp;omega
      have hh:halfB (ch * 16+d) 1=halfB (ch * 16+d) i:=by rw [z1]
      simp only [if_pos z1,hh] at hr
      cases hb:halfB (ch * 16+d) i with
      | true =>
       simp only [hb,if_true] at hr
       have HR2:Hid _:=hr
       clear hr hu hh z1
       go_wp2_with (first
        | (go_at_call 244;refine (hexDigit_ok _ b0 b1 _).mono ?_;rintro e w1 ⟨rfl,m,rfl⟩;rw [hx])
        | (go_at_call 245;refine (begins_ok _ i hi4 _).mono ?_;rintro e w1 ⟨rfl,m2,rfl⟩;rw [hb]))
       go_ret3
       rw [← HR2.out]
       exact ⟨rfl,_,rfl⟩
      | false =>
       simp only [hb] at hr
       have HU:Hid (uniUp (ch * 16+d) (i+1)):=uniUp_step hu hi4 d0 d1 (fun _=>by rw [hh];exact hb)
       have HR2:Hid _:=hr
       clear hr hu hh z1
       go_wp2_with (first
        | (go_at_call 244;refine (hexDigit_ok _ b0 b1 _).mono ?_;rintro e w1 ⟨rfl,m,rfl⟩;rw [hx])
        | (go_at_call 245;refine (begins_ok _ i hi4 _).mono ?_;rintro e w1 ⟨rfl,m2,rfl⟩;rw [hb]))
       go_roundg k
       case measure=>omega
       case rel=>exact ⟨i+1,ch * 16+d,by omega,by have:=HP.out;omega,by go_num,rfl,HU.out,⟨_,rfl⟩,by simpa using HR2.out⟩
     ·have t2:((i:Int) == 1)=false:=by simp;omega
      simp only [if_neg z1] at hr
      have HU:Hid (uniUp (ch * 16+d) (i+1)):=uniUp_step hu hi4 d0 d1 (fun e=>absurd e z1)
      have HR2:Hid _:=hr
      clear hr hu z1
      go_wp2_with (go_at_call 244;refine (hexDigit_ok _ b0 b1 _).mono ?_;rintro e w1 ⟨rfl,m,rfl⟩;rw [hx])
      go_roundg k
      case measure=>omega
      case rel=>exact ⟨i+1,ch * 16+d,by omega,by have:=HP.out;omega,by go_num,rfl,HU.out,⟨_,rfl⟩,HR2.out⟩
def escC (s:ByteArray) (at_:Nat) (c:Int):Int×Int×Bool :=
 if c=34 then (34,at_+2,true) else if c=92 then (92,at_+2,true) else if c=47 then (47,at_+2,true) else if c=98 then (8,at_+2,true) else if c=102 then (12,at_+2,true) else if c=110 then (10,at_+2,true) else if c=114 then (13,at_+2,true) else if c=116 then (9,at_+2,true) else if c=117 then uniL s at_ 4 0 0 else (0,at_+1,false)
def escV (s:ByteArray) (at_:Nat):Int×Int×Bool :=
 if at_+1=s.size then (0,s.size,false) else escC s at_ (byteAt s (at_+1))
theorem escape_ok (s:ByteArray) (a:Nat) (h:a < s.size) (hm:s.size≤1000000000000) (w:World) :
  Calls Tryz.prog 134 #[.string s,.int .i64 a] w fun e w'=>e = .returned (.tuple #[.int .i32 (escV s a).1,.int .i64 (escV s a).2.1,.bool (escV s a).2.2])∧∃ n,w'=w.drewN n:=by
 unfold escV
 by_cases hz:a+1=s.size
 ·rw [if_pos hz]
  have hz':(a:Int)+1=(s.size:Int):=by omega
  clear hz
  go_enter Tryz.func134,Tryz.ntmps134
  go_wp2_with fail
  go_ret3
  exact ⟨rfl,0,rfl⟩
 ·rw [if_neg hz]
  obtain ⟨p,hp⟩:∃ p:Nat,p=a+1:=⟨_,rfl⟩
  have hpi:(a:Int)+1=(p:Int):=by omega
  have hlt:p < s.size:=by omega
  have hz':¬ (p:Int)=(s.size:Int):=by omega
  have hl':(p:Int) < (s.size:Int):=by omega
  have p0:(0:Int)≤(p:Int):=by omega
  have h2:a+2≤s.size:=by omega
  rw [← hp]
  have HP:Hid _:=hp
  clear hp hz
  obtain ⟨b0,b1⟩:=byte_range s p
  have eb:=byte_at hlt
  rw [eb] at b0 b1 ⊢
  clear eb
  obtain ⟨R,hR⟩:∃ R,escC s a (s[p].toNat:Int)=R:=⟨_,rfl⟩
  rw [hR]
  by_cases n0:(s[p].toNat:Int)=34
  ·rw [escC,if_pos n0] at hR
   have t0:((s[p].toNat:Int) == 34)=true:=by simpa using n0
   have HR:Hid _:=hR
   have HN:Hid _:=n0
   clear hR n0
   go_enter Tryz.func134,Tryz.ntmps134
   go_wp2_with fail
   go_ret3
   rw [← HR.out]
   rw [show ((34:Int))=(s[p].toNat:Int) from HN.out.symm]
   exact ⟨rfl,0,rfl⟩
  ·skip
   by_cases n1:(s[p].toNat:Int)=92
   ·rw [escC,if_neg n0,if_pos n1] at hR
    have t0:((s[p].toNat:Int) == 34)=false:=by simpa using n0
    have t1:((s[p].toNat:Int) == 92)=true:=by simpa using n1
    have HR:Hid _:=hR
    have HN:Hid _:=n1
    clear hR n0 n1
    go_enter Tryz.func134,Tryz.ntmps134
    go_wp2_with fail
    go_ret3
    rw [← HR.out]
    rw [show ((92:Int))=(s[p].toNat:Int) from HN.out.symm]
    exact ⟨rfl,0,rfl⟩
   ·skip
    by_cases n2:(s[p].toNat:Int)=47
    ·rw [escC,if_neg n0,if_neg n1,if_pos n2] at hR
     have t0:((s[p].toNat:Int) == 34)=false:=by simpa using n0
     have t1:((s[p].toNat:Int) == 92)=false:=by simpa using n1
     have t2:((s[p].toNat:Int) == 47)=true:=by simpa using n2
     have HR:Hid _:=hR
     have HN:Hid _:=n2
     clear hR n0 n1 n2
     go_enter Tryz.func134,Tryz.ntmps134
     go_wp2_with fail
     go_ret3
     rw [← HR.out]
     rw [show ((47:Int))=(s[p].toNat:Int) from HN.out.symm]
     exact ⟨rfl,0,rfl⟩
    ·skip
     by_cases n3:(s[p].toNat:Int)=98
     ·rw [escC,if_neg n0,if_neg n1,if_neg n2,if_pos n3] at hR
      have t0:((s[p].toNat:Int) == 34)=false:=by simpa using n0
      have t1:((s[p].toNat:Int) == 92)=false:=by simpa using n1
      have t2:((s[p].toNat:Int) == 47)=false:=by simpa using n2
      have t3:((s[p].toNat:Int) == 98)=true:=by simpa using n3
      have HR:Hid _:=hR
      have HN:Hid _:=n3
      clear hR n0 n1 n2 n3
      go_enter Tryz.func134,Tryz.ntmps134
      go_wp2_with fail
      go_ret3
      rw [← HR.out]
      exact ⟨rfl,0,rfl⟩
     ·skip
      by_cases n4:(s[p].toNat:Int)=102
      ·rw [escC,if_neg n0,if_neg n1,if_neg n2,if_neg n3,if_pos n4] at hR
       have t0:((s[p].toNat:Int) == 34)=false:=by simpa using n0
       have t1:((s[p].toNat:Int) == 92)=false:=by simpa using n1
       have t2:((s[p].toNat:Int) == 47)=false:=by simpa using n2
       have t3:((s[p].toNat:Int) == 98)=false:=by simpa using n3
       have t4:((s[p].toNat:Int) == 102)=true:=by simpa using n4
       have HR:Hid _:=hR
       have HN:Hid _:=n4
       clear hR n0 n1 n2 n3 n4
       go_enter Tryz.func134,Tryz.ntmps134
       go_wp2_with fail
       go_ret3
       rw [← HR.out]
       exact ⟨rfl,0,rfl⟩
      ·skip
       by_cases n5:(s[p].toNat:Int)=110
       ·rw [escC,if_neg n0,if_neg n1,if_neg n2,if_neg n3,if_neg n4,if_pos n5] at hR
        have t0:((s[p].toNat:Int) == 34)=false:=by simpa using n0
        have t1:((s[p].toNat:Int) == 92)=false:=by simpa using n1
        have t2:((s[p].toNat:Int) == 47)=false:=by simpa using n2
        have t3:((s[p].toNat:Int) == 98)=false:=by simpa using n3
        have t4:((s[p].toNat:Int) == 102)=false:=by simpa using n4
        have t5:((s[p].toNat:Int) == 110)=true:=by simpa using n5
        have HR:Hid _:=hR
        have HN:Hid _:=n5
        clear hR n0 n1 n2 n3 n4 n5
        go_enter Tryz.func134,Tryz.ntmps134
        go_wp2_with fail
        go_ret3
        rw [← HR.out]
        exact ⟨rfl,0,rfl⟩
       ·skip
        by_cases n6:(s[p].toNat:Int)=114
        ·rw [escC,if_neg n0,if_neg n1,if_neg n2,if_neg n3,if_neg n4,if_neg n5,if_pos n6] at hR
         have t0:((s[p].toNat:Int) == 34)=false:=by simpa using n0
         have t1:((s[p].toNat:Int) == 92)=false:=by simpa using n1
         have t2:((s[p].toNat:Int) == 47)=false:=by simpa using n2
         have t3:((s[p].toNat:Int) == 98)=false:=by simpa using n3
         have t4:((s[p].toNat:Int) == 102)=false:=by simpa using n4
         have t5:((s[p].toNat:Int) == 110)=false:=by simpa using n5
         have t6:((s[p].toNat:Int) == 114)=true:=by simpa using n6
         have HR:Hid _:=hR
         have HN:Hid _:=n6
         clear hR n0 n1 n2 n3 n4 n5 n6
         go_enter Tryz.func134,Tryz.ntmps134
         go_wp2_with fail
         go_ret3
         rw [← HR.out]
         exact ⟨rfl,0,rfl⟩
        ·skip
         by_cases n7:(s[p].toNat:Int)=116
         ·rw [escC,if_neg n0,if_neg n1,if_neg n2,if_neg n3,if_neg n4,if_neg n5,if_neg n6,if_pos n7] at hR
          have t0:((s[p].toNat:Int) == 34)=false:=by simpa using n0
          have t1:((s[p].toNat:Int) == 92)=false:=by simpa using n1
          have t2:((s[p].toNat:Int) == 47)=false:=by simpa using n2
          have t3:((s[p].toNat:Int) == 98)=false:=by simpa using n3
          have t4:((s[p].toNat:Int) == 102)=false:=by simpa using n4
          have t5:((s[p].toNat:Int) == 110)=false:=by simpa using n5
          have t6:((s[p].toNat:Int) == 114)=false:=by simpa using n6
          have t7:((s[p].toNat:Int) == 116)=true:=by simpa using n7
          have HR:Hid _:=hR
          have HN:Hid _:=n7
          clear hR n0 n1 n2 n3 n4 n5 n6 n7
          go_enter Tryz.func134,Tryz.ntmps134
          go_wp2_with fail
          go_ret3
          rw [← HR.out]
          exact ⟨rfl,0,rfl⟩
         ·skip
          by_cases n8:(s[p].toNat:Int)=117
          ·rw [escC,if_neg n0,if_neg n1,if_neg n2,if_neg n3,if_neg n4,if_neg n5,if_neg n6,if_neg n7,if_pos n8] at hR
           have t0:((s[p].toNat:Int) == 34)=false:=by simpa using n0
           have t1:((s[p].toNat:Int) == 92)=false:=by simpa using n1
           have t2:((s[p].toNat:Int) == 47)=false:=by simpa using n2
           have t3:((s[p].toNat:Int) == 98)=false:=by simpa using n3
           have t4:((s[p].toNat:Int) == 102)=false:=by simpa using n4
           have t5:((s[p].toNat:Int) == 110)=false:=by simpa using n5
           have t6:((s[p].toNat:Int) == 114)=false:=by simpa using n6
           have t7:((s[p].toNat:Int) == 116)=false:=by simpa using n7
           have t8:((s[p].toNat:Int) == 117)=true:=by simpa using n8
           have HR:Hid _:=hR
           have HN:Hid _:=n8
           clear hR n0 n1 n2 n3 n4 n5 n6 n7 n8
           go_enter Tryz.func134,Tryz.ntmps134
           go_wp2_with (go_at_call 193;refine (unicode_ok s a h2 hm _).mono ?_;rintro e w1 ⟨rfl,m,rfl⟩;rw [HR.out])
           go_ret3
           exact ⟨rfl,_,rfl⟩
          ·skip
           rw [escC,if_neg n0,if_neg n1,if_neg n2,if_neg n3,if_neg n4,if_neg n5,if_neg n6,if_neg n7,if_neg n8] at hR
           have t0:((s[p].toNat:Int) == 34)=false:=by simpa using n0
           have t1:((s[p].toNat:Int) == 92)=false:=by simpa using n1
           have t2:((s[p].toNat:Int) == 47)=false:=by simpa using n2
           have t3:((s[p].toNat:Int) == 98)=false:=by simpa using n3
           have t4:((s[p].toNat:Int) == 102)=false:=by simpa using n4
           have t5:((s[p].toNat:Int) == 110)=false:=by simpa using n5
           have t6:((s[p].toNat:Int) == 114)=false:=by simpa using n6
           have t7:((s[p].toNat:Int) == 116)=false:=by simpa using n7
           have t8:((s[p].toNat:Int) == 117)=false:=by simpa using n8
           have HR:Hid _:=hR
           clear hR n0 n1 n2 n3 n4 n5 n6 n7 n8
           go_enter Tryz.func134,Tryz.ntmps134
           go_wp2_with fail
           go_ret3
           rw [← HR.out,hpi]
           exact ⟨rfl,0,rfl⟩
end Go.Proofs.Tryz
