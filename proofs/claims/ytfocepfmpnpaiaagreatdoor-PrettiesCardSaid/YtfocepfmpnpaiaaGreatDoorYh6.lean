import Derived.Test.YtfocepfmpnpaiaaGreatDoorFx6
import Derived.Test.YtfocepfmpnpaiaaGreatDoorYf3
set_option linter.all false
namespace Go.Proofs.Tryz
set_option maxHeartbeats 16000000
open Go.RowKit
set_option maxRecDepth 10000
theorem conv_ints (w:World) (o:Nat) (zs:List Int) (cap:Nat) (hz:∀ z∈zs,0≤z∧z≤255) (T:Nat) (h:w.heap[o]? = some (.cells (zs.map (Value.int .u8)).toArray T)) :
  Sem.run Tryz.prog (Go.convert 65 9 (.slice (some ⟨o,0,none⟩) zs.length cap)) w = .ok (.string ⟨(zs.map fun z=>z.toNat.toUInt8).toArray⟩) w:=by
 have:=run_convert_bytes_back (P:=Tryz.prog) w 65 9 5 ⟨o,0,none⟩ cap (zs.map fun z=>z.toNat.toUInt8) Tryz.underlying65 Tryz.underlying5 Tryz.underlying9 (fun j hj=>by
  have hc:=(cl_heap h).cell j
  simp only [List.length_map] at hj
  rw [show (⟨o,0,none⟩:Addr).add j=⟨o,j,none⟩ by simp [Addr.add];omega,hc]
  simp only [List.getElem?_map,List.getElem?_eq_getElem hj,Option.map_some,List.getElem_map]
  have:=hz zs[j] (List.getElem_mem hj)
  simp [Nat.toUInt8,UInt8.toNat_ofNat']
  omega)
 rw [List.length_map] at this
 exact this
def U8P (v:Int) (w:World) (e:Ending) (w':World):Prop:=∃ t,e = .returned (.string t)∧t.data.toList=Lib.encodeRune v∧Below w.heap.size w w'
theorem utf8_ok (v:Int) (w:World) (h:(0≤v∧v < 55296)∨(57343 < v∧v≤1114111)) :
  Calls Tryz.prog 100 #[.int .i64 v] w (U8P v w):=by
 have v0:0≤v:=by omega
 have v1:v≤1114111:=by omega
 by_cases c0:v < 128
 ·have e:Lib.encodeRune v=([v]:List Int).map fun z=>z.toNat.toUInt8:=by rw [Lib.encodeRune,Lib.encodeRuneZ_one (by omega) (by omega)]
  have hcv:=conv_ints (w.alloc (.cells (([v]:List Int).map (Value.int .u8)).toArray 5)) w.heap.size [v] 1 (by simp;omega) 5 (heap_new _ _)
  simp only [List.map_cons,List.map_nil,List.length_cons,List.length_nil,Nat.zero_add,Nat.reduceAdd] at hcv
  skip
  have HH:Hid _:=h
  clear h
  go_enter Tryz.func100,Tryz.ntmps100
  go_wp2_with fail
  go_ret
  exact ⟨_,rfl,by rw [e];rfl,below_alloc _ _⟩
 have c0':¬ v < 128:=c0
 by_cases c1:v < 2048
 ·have e:Lib.encodeRune v=([192+v / 64,128+v % 64]:List Int).map fun z=>z.toNat.toUInt8:=by rw [Lib.encodeRune,Lib.encodeRuneZ_two (by omega) (by omega)]
  have hcv:=conv_ints (w.alloc (.cells (([192+v / 64,128+v % 64]:List Int).map (Value.int .u8)).toArray 5)) w.heap.size [192+v / 64,128+v % 64] 2 (by simp;omega) 5 (heap_new _ _)
  simp only [List.map_cons,List.map_nil,List.length_cons,List.length_nil,Nat.zero_add,Nat.reduceAdd] at hcv
  skip
  have HH:Hid _:=h
  clear h
  go_enter Tryz.func100,Tryz.ntmps100
  go_wp2_with fail
  go_ret
  exact ⟨_,rfl,by rw [e];rfl,below_alloc _ _⟩
 have c1':¬ v < 2048:=c1
 by_cases c2:v < 65536
 ·have e:Lib.encodeRune v=([224+v / 4096,128+v / 64 % 64,128+v % 64]:List Int).map fun z=>z.toNat.toUInt8:=by rw [Lib.encodeRune,Lib.encodeRuneZ_three (by omega)]
  have hcv:=conv_ints (w.alloc (.cells (([224+v / 4096,128+v / 64 % 64,128+v % 64]:List Int).map (Value.int .u8)).toArray 5)) w.heap.size [224+v / 4096,128+v / 64 % 64,128+v % 64] 3 (by simp;omega) 5 (heap_new _ _)
  simp only [List.map_cons,List.map_nil,List.length_cons,List.length_nil,Nat.zero_add,Nat.reduceAdd] at hcv
  skip
  have HH:Hid _:=h
  clear h
  go_enter Tryz.func100,Tryz.ntmps100
  go_wp2_with fail
  go_ret
  exact ⟨_,rfl,by rw [e];rfl,below_alloc _ _⟩
 have c2':¬ v < 65536:=c2
 have e:Lib.encodeRune v=([240+v / 262144,128+v / 4096 % 64,128+v / 64 % 64,128+v % 64]:List Int).map fun z=>z.toNat.toUInt8:=by rw [Lib.encodeRune,Lib.encodeRuneZ_four (by omega) (by omega)]
 have hcv:=conv_ints (w.alloc (.cells (([240+v / 262144,128+v / 4096 % 64,128+v / 64 % 64,128+v % 64]:List Int).map (Value.int .u8)).toArray 5)) w.heap.size [240+v / 262144,128+v / 4096 % 64,128+v / 64 % 64,128+v % 64] 4 (by simp;omega) 5 (heap_new _ _)
 simp only [List.map_cons,List.map_nil,List.length_cons,List.length_nil,Nat.zero_add,Nat.reduceAdd] at hcv
 skip
 have HH:Hid _:=h
 clear h
 go_enter Tryz.func100,Tryz.ntmps100
 go_wp2_with fail
 go_ret
 exact ⟨_,rfl,by rw [e];rfl,below_alloc _ _⟩
end Go.Proofs.Tryz
namespace Go.Proofs.Tryz
set_option maxHeartbeats 16000000
open Go.RowKit
set_option maxRecDepth 10000
def EscP (u:Int×Int×Bool) (w:World) (e:Ending) (w':World):Prop:=∃ x p,e = .returned (.tuple #[.string x,.int .i64 p,.bool u.2.2])∧(u.2.2=true→x.data.toList=Lib.encodeRune u.1∧p=u.2.1)∧Below w.heap.size w w'
theorem four_at (s:ByteArray) (q:Int) (m:Nat) (hq:q=m) (hs:s.size≤100000) (hm:m≤s.size) (w:World) :
  Calls Tryz.prog 98 #[.string s,.int .i64 q] w (FourP (fourL s 4 m 0) m w):=by subst hq;exact four_ok s m hs hm w
theorem second_at (s:ByteArray) (q:Int) (m:Nat) (f:Int) (hq:q=m) (hs:s.size≤100000) (hm:m≤s.size) (w:World) :
  Calls Tryz.prog 99 #[.string s,.int .i64 q,.int .i64 f] w (SecP (secR s m) m w):=by subst hq;exact secondR_ok s m f hs hm w
theorem fourL_size {s:ByteArray}:∀ {k i:Nat}{x v:Int},fourL s k i x=some v→0 < k→i+k≤s.size
 | k+1,i,x,v,h,_=>by
  rw [fourL] at h
  split at h
  ·cases h
  ·rename_i hz
   split at h
   ·cases h
   ·match k,h with
    | 0,_=>omega
    | k+1,h =>
     have:=fourL_size h (by omega)
     omega
theorem encode_small {v:Int} (h0:0≤v) (h1:v≤127):Lib.encodeRune v=[v.toNat.toUInt8]:=by
 rw [Lib.encodeRune,Lib.encodeRuneZ_one h0 h1]
 rfl
theorem one_byte {s:ByteArray}{b:Nat} (h:b < s.size) {n:Int} (hn:(s[b].toNat:Int)=n):(s.extract b (b+1)).data.toList=[n.toNat.toUInt8]:=by
 subst hn
 rw [extract_list,Nat.add_sub_cancel_left,drop_at s b h,List.take_succ_cons,List.take_zero]
 simp [Nat.toUInt8]
theorem escaped_ok (s:ByteArray) (a b:Nat) (hb:b=a+1) (hs:s.size≤100000) (ha:b≤s.size) (w:World) :
  Calls Tryz.prog 77 #[.string s,.int .i64 b] w (EscP (escV s a) w):=by
 obtain ⟨u,hu⟩:∃ u,escV s a=u:=⟨_,rfl⟩
 rw [hu]
 unfold escV at hu
 rw [← hb] at hu
 by_cases z:b=s.size
 ·rw [if_pos z] at hu
  have z':(s.size:Int)≤(b:Int):=by omega
  have HU:Hid _:=hu
  clear hu z hb
  go_enter Tryz.func77,Tryz.ntmps77
  go_wp2_with fail
  go_ret3
  rw [← HU.out]
  exact ⟨_,_,rfl,fun h=>(by cases h),Below.refl _ _⟩
 rw [if_neg z] at hu
 have hlt:b < s.size:=by omega
 have z':¬ (s.size:Int)≤(b:Int):=by omega
 have l0:(b:Int) < (s.size:Int):=by omega
 rw [byte_at hlt] at hu
 unfold escC at hu
 clear z
 by_cases c0:(s[b].toNat:Int)=34
 ·rw [if_pos c0] at hu
  have HU:Hid _:=hu
  have HB:Hid _:=hb
  clear hu hb
  go_enter Tryz.func77,Tryz.ntmps77
  go_wp2_with fail
  go_ret3
  rw [← HU.out]
  have hbb:=HB.out
  exact ⟨_,_,rfl,fun _=>⟨(show (s.extract b (b+1)).data.toList=Lib.encodeRune 34 from (one_byte hlt c0).trans (encode_small (v:=34) (by decide) (by decide)).symm),by show (b:Int)+1=(a:Int)+2;omega⟩,Below.refl _ _⟩
 rw [if_neg c0] at hu
 by_cases c1:(s[b].toNat:Int)=92
 ·rw [if_pos c1] at hu
  have HU:Hid _:=hu
  have HB:Hid _:=hb
  clear hu hb
  go_enter Tryz.func77,Tryz.ntmps77
  go_wp2_with fail
  go_ret3
  rw [← HU.out]
  have hbb:=HB.out
  exact ⟨_,_,rfl,fun _=>⟨(show (s.extract b (b+1)).data.toList=Lib.encodeRune 92 from (one_byte hlt c1).trans (encode_small (v:=92) (by decide) (by decide)).symm),by show (b:Int)+1=(a:Int)+2;omega⟩,Below.refl _ _⟩
 rw [if_neg c1] at hu
 by_cases c2:(s[b].toNat:Int)=47
 ·rw [if_pos c2] at hu
  have HU:Hid _:=hu
  have HB:Hid _:=hb
  clear hu hb
  go_enter Tryz.func77,Tryz.ntmps77
  go_wp2_with fail
  go_ret3
  rw [← HU.out]
  have hbb:=HB.out
  exact ⟨_,_,rfl,fun _=>⟨(show (s.extract b (b+1)).data.toList=Lib.encodeRune 47 from (one_byte hlt c2).trans (encode_small (v:=47) (by decide) (by decide)).symm),by show (b:Int)+1=(a:Int)+2;omega⟩,Below.refl _ _⟩
 rw [if_neg c2] at hu
 by_cases c3:(s[b].toNat:Int)=98
 ·rw [if_pos c3] at hu
  have HU:Hid _:=hu
  have HB:Hid _:=hb
  clear hu hb
  go_enter Tryz.func77,Tryz.ntmps77
  go_wp2_with fail
  go_ret3
  rw [← HU.out]
  have hbb:=HB.out
  exact ⟨_,_,rfl,fun _=>⟨(show _=Lib.encodeRune 8 by rw [encode_small (by decide) (by decide)];rfl),by show (b:Int)+1=(a:Int)+2;omega⟩,Below.refl _ _⟩
 rw [if_neg c3] at hu
 by_cases c4:(s[b].toNat:Int)=102
 ·rw [if_pos c4] at hu
  have HU:Hid _:=hu
  have HB:Hid _:=hb
  clear hu hb
  go_enter Tryz.func77,Tryz.ntmps77
  go_wp2_with fail
  go_ret3
  rw [← HU.out]
  have hbb:=HB.out
  exact ⟨_,_,rfl,fun _=>⟨(show _=Lib.encodeRune 12 by rw [encode_small (by decide) (by decide)];rfl),by show (b:Int)+1=(a:Int)+2;omega⟩,Below.refl _ _⟩
 rw [if_neg c4] at hu
 by_cases c5:(s[b].toNat:Int)=110
 ·rw [if_pos c5] at hu
  have HU:Hid _:=hu
  have HB:Hid _:=hb
  clear hu hb
  go_enter Tryz.func77,Tryz.ntmps77
  go_wp2_with fail
  go_ret3
  rw [← HU.out]
  have hbb:=HB.out
  exact ⟨_,_,rfl,fun _=>⟨(show _=Lib.encodeRune 10 by rw [encode_small (by decide) (by decide)];rfl),by show (b:Int)+1=(a:Int)+2;omega⟩,Below.refl _ _⟩
 rw [if_neg c5] at hu
 by_cases c6:(s[b].toNat:Int)=114
 ·rw [if_pos c6] at hu
  have HU:Hid _:=hu
  have HB:Hid _:=hb
  clear hu hb
  go_enter Tryz.func77,Tryz.ntmps77
  go_wp2_with fail
  go_ret3
  rw [← HU.out]
  have hbb:=HB.out
  exact ⟨_,_,rfl,fun _=>⟨(show _=Lib.encodeRune 13 by rw [encode_small (by decide) (by decide)];rfl),by show (b:Int)+1=(a:Int)+2;omega⟩,Below.refl _ _⟩
 rw [if_neg c6] at hu
 by_cases c7:(s[b].toNat:Int)=116
 ·rw [if_pos c7] at hu
  have HU:Hid _:=hu
  have HB:Hid _:=hb
  clear hu hb
  go_enter Tryz.func77,Tryz.ntmps77
  go_wp2_with fail
  go_ret3
  rw [← HU.out]
  have hbb:=HB.out
  exact ⟨_,_,rfl,fun _=>⟨(show _=Lib.encodeRune 9 by rw [encode_small (by decide) (by decide)];rfl),by show (b:Int)+1=(a:Int)+2;omega⟩,Below.refl _ _⟩
 rw [if_neg c7] at hu
 by_cases c8:(s[b].toNat:Int)=117
 ·rw [if_pos c8] at hu
  have hf:=fun v=>fourL_size (s:=s) (k:=4) (i:=b+1) (x:=0) (v:=v)
  have hnone:=uni_none (s:=s) (a:=a) (by omega)
  have hhalf:=fun v=>uni_half (s:=s) (a:=a) (v:=v) (by omega)
  have hsome:=fun v=>uni_some (s:=s) (a:=a) (v:=v) (by omega)
  have hrng:=fun v=>fourL_range (s:=s) (k:=4) (i:=b+1) (x:=0) (v:=v)
  rw [show a+2=b+1 by omega] at hnone hhalf hsome
  rw [hu] at hnone hhalf hsome
  have hF:=four_at s ((b:Int)+1) (b+1) (by omega) hs (by omega)
  obtain ⟨R,hR⟩:∃ R,fourL s 4 (b+1) 0=R:=⟨_,rfl⟩
  rw [hR] at hnone hF
  simp only [hR] at hhalf hsome hrng hf
  have HB:Hid _:=hb
  clear hu hb
  cases R with
  | none =>
   have hu:=hnone rfl
   have HU:Hid _:=hu
   clear hu hnone hhalf hsome hrng hf hR
   have HF:Aside (∀ w:World,Calls Tryz.prog 98 #[.string s,.int .i64 ((b:Int)+1)] w (FourP none (b+1) w)):=hF
   clear hF
   go_enter Tryz.func77,Tryz.ntmps77
   go_wp2_with fail
   refine Calls.mono (HF.out _) ?_
   rintro e w1 ⟨v,p,rfl,h1,h2⟩
   subst w1
   go_wp2_with fail
   go_ret3
   obtain ⟨u1,u2,ok⟩:=u
   have hok:ok=false:=HU.out
   subst hok
   exact ⟨_,_,rfl,fun h=>(by cases h),Below.refl _ _⟩
  | some v =>
   have hr:=hrng v rfl
   rw [show (16:Int) ^ 4=65536 by decide] at hr
   have hsz:=hf v rfl (by omega)
   have hv0:0≤v:=by omega
   have hv1:v≤65535:=by omega
   have hh:=hhalf v rfl
   have hsm:=hsome v rfl
   clear hnone hhalf hsome hrng hf hR hr
   have HF:Aside (∀ w:World,Calls Tryz.prog 98 #[.string s,.int .i64 ((b:Int)+1)] w (FourP (some v) (b+1) w)):=hF
   clear hF
   by_cases k0:v < 55296
   ·rw [if_pos k0] at hsm
    have hu:=hsm (by omega)
    have HU:Hid _:=hu
    clear hu hsm hh
    have k1:¬ 56320≤v:=by omega
    have k2:¬ 55296≤v:=by omega
    go_enter Tryz.func77,Tryz.ntmps77
    go_wp2_with fail
    refine Calls.mono (HF.out _) ?_
    rintro e w1 ⟨v',p,rfl,h1,h2⟩
    subst w1
    obtain ⟨rfl,hp⟩:=h1 v rfl
    have HP:Hid _:=hp
    clear hp h1
    go_wp2_with fail
    refine Calls.mono (utf8_ok v' _ (by omega)) ?_
    rintro e w1 ⟨t,rfl,ht,hB⟩
    have HT:Hid _:=ht
    clear ht
    go_wp2_with fail
    go_ret3
    rw [HU.out]
    exact ⟨_,_,rfl,fun _=>⟨HT.out,by have:=HP.out;have:=HB.out;show p=((a+6:Nat):Int);omega⟩,hB⟩
   ·rw [if_neg k0] at hsm
    by_cases k1:57343 < v
    ·rw [if_pos k1] at hsm
     have hu:=hsm (by omega)
     have HU:Hid _:=hu
     clear hu hsm hh
     have k2:56320≤v:=by omega
     have k3:¬ v < 57344:=by omega
     have k4:55296≤v:=by omega
     have k5:¬ v < 56320:=by omega
     go_enter Tryz.func77,Tryz.ntmps77
     go_wp2_with fail
     refine Calls.mono (HF.out _) ?_
     rintro e w1 ⟨v',p,rfl,h1,h2⟩
     subst w1
     obtain ⟨rfl,hp⟩:=h1 v rfl
     have HP:Hid _:=hp
     clear hp h1
     go_wp2_with fail
     refine Calls.mono (utf8_ok v' _ (by omega)) ?_
     rintro e w1 ⟨t,rfl,ht,hB⟩
     have HT:Hid _:=ht
     clear ht
     go_wp2_with fail
     go_ret3
     rw [HU.out]
     exact ⟨_,_,rfl,fun _=>⟨HT.out,by have:=HP.out;have:=HB.out;show p=((a+6:Nat):Int);omega⟩,hB⟩
    ·rw [if_neg k1] at hsm
     by_cases k2:56320≤v
     ·have hu:=hh ⟨k2,by omega⟩
      have HU:Hid _:=hu
      clear hu hsm hh
      have k3:v < 57344:=by omega
      go_enter Tryz.func77,Tryz.ntmps77
      go_wp2_with fail
      refine Calls.mono (HF.out _) ?_
      rintro e w1 ⟨v',p,rfl,h1,h2⟩
      subst w1
      obtain ⟨rfl,hp⟩:=h1 v rfl
      clear hp h1
      go_wp2_with fail
      go_ret3
      obtain ⟨u1,u2,ok⟩:=u
      have hok:ok=false:=HU.out
      subst hok
      exact ⟨_,_,rfl,fun h=>(by cases h),Below.refl _ _⟩
     ·have hu:=hsm (by omega)
      have hrel:=half_rel (s:=s) (a:=a) (first:=v) (by have:=HB.out;omega)
      rw [← hu] at hrel
      have hS:=fun f=>second_at s ((b:Int)+1+4) (a+6) f (by have:=HB.out;omega) hs (by have:=HB.out;omega)
      obtain ⟨Q,hQ⟩:∃ Q,secR s (a+6)=Q:=⟨_,rfl⟩
      simp only [hQ] at hrel hS
      clear hu hsm hh hQ
      have k4:55296≤v:=by omega
      have k5:v < 56320:=by omega
      have HS:Aside (∀ (f:Int) (w:World),Calls Tryz.prog 99 #[.string s,.int .i64 ((b:Int)+1+4),.int .i64 f] w (SecP Q (a+6) w)):=hS
      clear hS
      cases Q with
      | none =>
       have hu:u.2.2=false:=hrel
       have HU:Hid _:=hu
       clear hu hrel
       go_enter Tryz.func77,Tryz.ntmps77
       go_wp2_with fail
       refine Calls.mono (HF.out _) ?_
       rintro e w1 ⟨v',p,rfl,h1,h2⟩
       subst w1
       obtain ⟨rfl,hp⟩:=h1 v rfl
       clear h1
       have hp:p=(b:Int)+1+4:=by rw [hp];omega
       subst hp
       go_wp2_with fail
       refine Calls.mono (HS.out _ _) ?_
       rintro e w1 ⟨y,p2,rfl,h1,h2⟩
       subst w1
       go_wp2_with fail
       go_ret3
       obtain ⟨u1,u2,ok⟩:=u
       have hok:ok=false:=HU.out
       subst hok
       exact ⟨_,_,rfl,fun h=>(by cases h),Below.refl _ _⟩
      | some y =>
       obtain ⟨hu,y0,y1⟩:u=(65536+(v - 55296) * 1024+(y - 56320),((a+12:Nat):Int),true)∧56320≤y∧y≤57343:=hrel
       have HU:Hid _:=hu
       clear hu
       go_enter Tryz.func77,Tryz.ntmps77
       go_wp2_with fail
       refine Calls.mono (HF.out _) ?_
       rintro e w1 ⟨v',p,rfl,h1,h2⟩
       subst w1
       obtain ⟨rfl,hp⟩:=h1 v rfl
       clear h1
       have hp:p=(b:Int)+1+4:=by rw [hp];omega
       subst hp
       go_wp2_with fail
       refine Calls.mono (HS.out _ _) ?_
       rintro e w1 ⟨y',p2,rfl,h1,h2⟩
       subst w1
       obtain ⟨rfl,hp2⟩:=h1 y rfl
       have HP:Hid _:=hp2
       clear hp2 h1
       go_wp2_with fail
       refine Calls.mono (utf8_ok (65536+(v' - 55296) * 1024+y' - 56320) _ (by omega)) ?_
       rintro e w1 ⟨t,rfl,ht,hB⟩
       have HT:Hid _:=ht
       clear ht
       go_wp2_with fail
       go_ret3
       rw [HU.out]
       refine ⟨_,_,rfl,fun _=>⟨?_,?_⟩,hB⟩
       ·rw [HT.out,show 65536+(v' - 55296) * 1024+y' - 56320=65536+(v' - 55296) * 1024+(y' - 56320) by omega]
       ·have:=HP.out
        show p2=((a+12:Nat):Int)
        omega
 rw [if_neg c8] at hu
 have HU:Hid _:=hu
 clear hu hb
 go_enter Tryz.func77,Tryz.ntmps77
 go_wp2_with fail
 go_ret3
 rw [← HU.out]
 exact ⟨_,_,rfl,fun h=>(by cases h),Below.refl _ _⟩
end Go.Proofs.Tryz
