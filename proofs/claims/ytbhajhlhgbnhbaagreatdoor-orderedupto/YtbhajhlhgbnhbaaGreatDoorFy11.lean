import Derived.Test.YtbhajhlhgbnhbaaGreatDoorFy8
import Derived.Test.YtbhajhlhgbnhbaaGreatDoorFu1
set_option linter.all false
namespace Go.Proofs.Tryz
set_option maxHeartbeats 16000000
open Go.RowKit
set_option maxRecDepth 10000
def wdL (s wd:ByteArray) (p:Nat) (t:Bys):Bg:=if (wordV s wd wd.size 0 p).2 then ((wordV s wd wd.size 0 p).1,some (.inl t)) else ((wordV s wd wd.size 0 p).1,none)
def strB (s:ByteArray) (p:Nat):Bg:=if (strAt s p).2.2 then ((strAt s p).2.1,some (.inl (quoteL (strAt s p).1))) else ((strAt s p).2.1,none)
def numB (s:ByteArray) (p:Nat):Bg:=match (numL s p).1 with
 | some n=>((numL s p).2,some (.inl (Lib.itoa n)))
 | none=>((numL s p).2,none)
def nullW:ByteArray:=⟨#[110,117,108,108]⟩
def falseW:ByteArray:=⟨#[102,97,108,115,101]⟩
def trueW:ByteArray:=⟨#[116,114,117,101]⟩
def begC (s:ByteArray) (p n:Nat) (c:Int):Bg :=
 if c=110 then wdL s nullW p [110,117,108,108]
 else if c=102 then wdL s falseW p (boolT false)
 else if c=116 then wdL s trueW p (boolT true)
 else if c=34 then strB s p
 else if c=91 then bhL s p n false
 else if c=123 then bhL s p n true
 else if c=45 then numB s p
 else if digB c then numB s p
 else (p,none)
def begL (s:ByteArray) (a n:Nat):Bg:=begC s (blk s a) n (byteAt s (blk s a))
theorem parsed_range {l:Bys}{n:Int} (h:parsedV l=some n) : -9223372036854775808≤n∧n≤9223372036854775807:=by
 unfold parsedV at h
 split at h
 ·rename_i v hv
  cases h
  unfold Lib.parseIntB at hv
  split at hv
  ·cases hv
  ·simp only at hv
   split at hv
   ·cases hv
   ·cases hv
   ·split at hv
    ·cases hv
    ·split at hv
     ·cases hv
     ·cases hv
      rename_i h1 h2
      split
      ·rename_i hneg
       simp [hneg] at h2
       omega
      ·rename_i hneg
       simp [hneg] at h1
       omega
 ·cases h
theorem numAt_range {s:ByteArray}{p b:Nat}{n:Int} (h:(numAt s p b).1=some n) : -9223372036854775808≤n∧n≤9223372036854775807:=by
 unfold numAt at h
 split at h
 ·cases hp:parsedV (s.extract p (numEnd s b)).data.toList with
  | some m=>rw [hp] at h;cases h;exact parsed_range hp
  | none=>rw [hp] at h;cases h
 ·cases h
theorem num_range {s:ByteArray}{p:Nat}{n:Int} (h:(numL s p).1=some n) : -9223372036854775808≤n∧n≤9223372036854775807:=numAt_range h
theorem word_le {s wd:ByteArray} (hz:∀ i,i < wd.size→byteAt wd i≠0):∀ (k i a:Nat),i+k≤wd.size→a≤s.size→(wordV s wd k i a).1≤s.size
 | 0,_,a,_,h=>h
 | k+1,i,a,hk,h=>by
  rw [wordV]
  split
  ·rename_i e
   have:a < s.size:=byte_pos (by rw [e];exact hz i (by omega))
   exact word_le hz k (i+1) (a+1) (by omega) (by omega)
  ·exact h
theorem begin_ok2 (hC:ComparesStr) (hA:AppendsRune) {w w0:World}{vb a:Nat}{s:ByteArray}{hs:List Hd} (hP:∀ w',Below vb w0 w'→ParsesAt w') (hb:Below vb w0 w) (hat:At w vb s a hs) (ha:a≤s.size) (hm:s.size≤10000000) (hn:hs.length≤64) :
  Calls Tryz.prog 25 #[.pointer (some ⟨vb,0,none⟩)] w fun e w'=>BgPost vb s (begL s a hs.length) hs e w'∧Fr (fun b=>vb≤b) w w':=by
 obtain ⟨ov,hv,st⟩:=hat.blk
 clear hat
 obtain ⟨_,_,_,_,_,_,vl⟩:=three_facts' hv
 have hpl:=blk_le ha
 have hsk:Calls Tryz.prog 26 #[.pointer (some ⟨vb,0,none⟩)] w fun e w'=>e = .returned (.tuple #[])∧VBlk w' vb s (blk s a) ov∧Fr (· = vb) w w':=skipV_ok hv ha hm
 unfold begL
 obtain ⟨p,hp⟩:∃ p,blk s a=p:=⟨_,rfl⟩
 rw [hp] at hsk hpl ⊢
 clear hp
 obtain ⟨b,hbb⟩:∃ b,byteAt s p=b:=⟨_,rfl⟩
 rw [hbb]
 have HS:Aside (Calls Tryz.prog 26 #[.pointer (some ⟨vb,0,none⟩)] w fun e w'=>e = .returned (.tuple #[])∧VBlk w' vb s p ov∧Fr (· = vb) w w'):=hsk
 have ST:Aside (Stk w vb ov hs):=st
 have HBB:Hid _:=hbb
 have hbd:=byte_range s p
 rw [hbb] at hbd
 have hlt:b≠0→p < s.size:=fun h=>byte_pos (by rw [hbb];exact h)
 have HLT:Aside _:=hlt
 clear hsk st hbb hlt
 obtain ⟨R,hR⟩:∃ R,begC s p hs.length b=R:=⟨_,rfl⟩
 rw [hR]
 unfold begC at hR
 by_cases n110:b=110
 ·rw [if_pos n110] at hR
  have k110:(b == 110)=true:=by simpa using n110
  have hplt:p < s.size:=HLT.out (by omega)
  have HR:Hid _:=hR
  clear hR n110 hbd
  go_enter Tryz.func25,Tryz.ntmps25
  go_wp2_with fail
  refine Calls.mono HS.out ?_
  rintro e w1 ⟨rfl,v1,fr1⟩
  have hA1:=v1.va hpl.2 hm
  have f1:Fr (fun b=>vb≤b) w w1:=fr1.mono (fun _ e=>by omega)
  have s1:Aside (Stk w1 vb ov hs):=ST.out.frame fr1.vb fr1.size
  have hb1:Below vb w0 w1:=f1.lowN (fun _ e=>e) hb (by omega)
  go_wp2_with (first
   | (go_at_call 28;refine (nextV_ok hA1).mono ?_;rintro e w2 ⟨rfl,m2,rfl⟩;rw [HBB.out])
   | (go_at_call 71;refine (vIsDigit_any _ _).mono ?_;rintro e w2' ⟨rfl,hw⟩;subst w2';rw [hdg]))
  refine Calls.mono (word_ok (T:=95) (u:=(.agg #[])) (wd:=nullW) (v1.drewN m2) hpl.2 hm (by decide) (by decide)) ?_
  rintro e w3 ⟨rfl,v3,fr3⟩
  have s3:Aside (Stk w3 vb ov hs):=(s1.out.frame (w':=w1.drewN m2) (fun _ _ _=>rfl) (Nat.le_refl _)).frame fr3.vb fr3.size
  have f3:Fr (fun b=>vb≤b) w w3:=(f1.drewN m2).trans fr3 (fun _ _ e=>by omega)
  unfold wdL at HR
  cases hok:(wordV s nullW nullW.size 0 p).2 with
  | true =>
   rw [hok,if_pos rfl] at HR
   simp only [orNil,if_true]
   go_wp2_with fail
   refine bodyPost_ret (v:=.tuple #[.iface 95 (.agg #[]),.bool true]) (by simp [results,Tryz.results25,go_sem]) rfl ?_
   rw [← HR.out]
   exact ⟨⟨(95,(.agg #[])),rfl,⟨_,v3,s3.out,Vl.leaf (.inl ⟨rfl,rfl⟩)⟩⟩,f3⟩
  | false =>
   rw [hok,if_neg (by simp)] at HR
   simp only [orNil,Bool.false_eq_true,if_false]
   go_wp2_with fail
   refine bodyPost_ret (v:=.tuple #[.nilIface,.bool false]) (by simp [results,Tryz.results25,go_sem]) rfl ?_
   rw [← HR.out]
   exact ⟨⟨⟨_,rfl⟩,_,v3⟩,f3⟩
 rw [if_neg n110] at hR
 by_cases n102:b=102
 ·rw [if_pos n102] at hR
  have k110:(b == 110)=false:=by simpa using n110
  have k102:(b == 102)=true:=by simpa using n102
  have hplt:p < s.size:=HLT.out (by omega)
  have HR:Hid _:=hR
  clear hR n110 n102 hbd
  go_enter Tryz.func25,Tryz.ntmps25
  go_wp2_with fail
  refine Calls.mono HS.out ?_
  rintro e w1 ⟨rfl,v1,fr1⟩
  have hA1:=v1.va hpl.2 hm
  have f1:Fr (fun b=>vb≤b) w w1:=fr1.mono (fun _ e=>by omega)
  have s1:Aside (Stk w1 vb ov hs):=ST.out.frame fr1.vb fr1.size
  have hb1:Below vb w0 w1:=f1.lowN (fun _ e=>e) hb (by omega)
  go_wp2_with (first
   | (go_at_call 28;refine (nextV_ok hA1).mono ?_;rintro e w2 ⟨rfl,m2,rfl⟩;rw [HBB.out])
   | (go_at_call 71;refine (vIsDigit_any _ _).mono ?_;rintro e w2' ⟨rfl,hw⟩;subst w2';rw [hdg]))
  refine Calls.mono (word_ok (T:=96) (u:=(.bool false)) (wd:=falseW) (v1.drewN m2) hpl.2 hm (by decide) (by decide)) ?_
  rintro e w3 ⟨rfl,v3,fr3⟩
  have s3:Aside (Stk w3 vb ov hs):=(s1.out.frame (w':=w1.drewN m2) (fun _ _ _=>rfl) (Nat.le_refl _)).frame fr3.vb fr3.size
  have f3:Fr (fun b=>vb≤b) w w3:=(f1.drewN m2).trans fr3 (fun _ _ e=>by omega)
  unfold wdL at HR
  cases hok:(wordV s falseW falseW.size 0 p).2 with
  | true =>
   rw [hok,if_pos rfl] at HR
   simp only [orNil,if_true]
   go_wp2_with fail
   refine bodyPost_ret (v:=.tuple #[.iface 96 (.bool false),.bool true]) (by simp [results,Tryz.results25,go_sem]) rfl ?_
   rw [← HR.out]
   exact ⟨⟨(96,(.bool false)),rfl,⟨_,v3,s3.out,Vl.leaf (.inr (.inl ⟨false,rfl,rfl⟩))⟩⟩,f3⟩
  | false =>
   rw [hok,if_neg (by simp)] at HR
   simp only [orNil,Bool.false_eq_true,if_false]
   go_wp2_with fail
   refine bodyPost_ret (v:=.tuple #[.nilIface,.bool false]) (by simp [results,Tryz.results25,go_sem]) rfl ?_
   rw [← HR.out]
   exact ⟨⟨⟨_,rfl⟩,_,v3⟩,f3⟩
 rw [if_neg n102] at hR
 by_cases n116:b=116
 ·rw [if_pos n116] at hR
  have k110:(b == 110)=false:=by simpa using n110
  have k102:(b == 102)=false:=by simpa using n102
  have k116:(b == 116)=true:=by simpa using n116
  have hplt:p < s.size:=HLT.out (by omega)
  have HR:Hid _:=hR
  clear hR n110 n102 n116 hbd
  go_enter Tryz.func25,Tryz.ntmps25
  go_wp2_with fail
  refine Calls.mono HS.out ?_
  rintro e w1 ⟨rfl,v1,fr1⟩
  have hA1:=v1.va hpl.2 hm
  have f1:Fr (fun b=>vb≤b) w w1:=fr1.mono (fun _ e=>by omega)
  have s1:Aside (Stk w1 vb ov hs):=ST.out.frame fr1.vb fr1.size
  have hb1:Below vb w0 w1:=f1.lowN (fun _ e=>e) hb (by omega)
  go_wp2_with (first
   | (go_at_call 28;refine (nextV_ok hA1).mono ?_;rintro e w2 ⟨rfl,m2,rfl⟩;rw [HBB.out])
   | (go_at_call 71;refine (vIsDigit_any _ _).mono ?_;rintro e w2' ⟨rfl,hw⟩;subst w2';rw [hdg]))
  refine Calls.mono (word_ok (T:=96) (u:=(.bool true)) (wd:=trueW) (v1.drewN m2) hpl.2 hm (by decide) (by decide)) ?_
  rintro e w3 ⟨rfl,v3,fr3⟩
  have s3:Aside (Stk w3 vb ov hs):=(s1.out.frame (w':=w1.drewN m2) (fun _ _ _=>rfl) (Nat.le_refl _)).frame fr3.vb fr3.size
  have f3:Fr (fun b=>vb≤b) w w3:=(f1.drewN m2).trans fr3 (fun _ _ e=>by omega)
  unfold wdL at HR
  cases hok:(wordV s trueW trueW.size 0 p).2 with
  | true =>
   rw [hok,if_pos rfl] at HR
   simp only [orNil,if_true]
   go_wp2_with fail
   refine bodyPost_ret (v:=.tuple #[.iface 96 (.bool true),.bool true]) (by simp [results,Tryz.results25,go_sem]) rfl ?_
   rw [← HR.out]
   exact ⟨⟨(96,(.bool true)),rfl,⟨_,v3,s3.out,Vl.leaf (.inr (.inl ⟨true,rfl,rfl⟩))⟩⟩,f3⟩
  | false =>
   rw [hok,if_neg (by simp)] at HR
   simp only [orNil,Bool.false_eq_true,if_false]
   go_wp2_with fail
   refine bodyPost_ret (v:=.tuple #[.nilIface,.bool false]) (by simp [results,Tryz.results25,go_sem]) rfl ?_
   rw [← HR.out]
   exact ⟨⟨⟨_,rfl⟩,_,v3⟩,f3⟩
 rw [if_neg n116] at hR
 by_cases n34:b=34
 ·rw [if_pos n34] at hR
  have k110:(b == 110)=false:=by simpa using n110
  have k102:(b == 102)=false:=by simpa using n102
  have k116:(b == 116)=false:=by simpa using n116
  have k34:(b == 34)=true:=by simpa using n34
  have hplt:p < s.size:=HLT.out (by omega)
  have HR:Hid _:=hR
  clear hR n110 n102 n116 n34 hbd
  go_enter Tryz.func25,Tryz.ntmps25
  go_wp2_with fail
  refine Calls.mono HS.out ?_
  rintro e w1 ⟨rfl,v1,fr1⟩
  have hA1:=v1.va hpl.2 hm
  have f1:Fr (fun b=>vb≤b) w w1:=fr1.mono (fun _ e=>by omega)
  have s1:Aside (Stk w1 vb ov hs):=ST.out.frame fr1.vb fr1.size
  have hb1:Below vb w0 w1:=f1.lowN (fun _ e=>e) hb (by omega)
  go_wp2_with (first
   | (go_at_call 28;refine (nextV_ok hA1).mono ?_;rintro e w2 ⟨rfl,m2,rfl⟩;rw [HBB.out])
   | (go_at_call 71;refine (vIsDigit_any _ _).mono ?_;rintro e w2' ⟨rfl,hw⟩;subst w2';rw [hdg]))
  refine Calls.mono (readString_ok hA (v1.drewN m2) hplt hm) ?_
  rintro e w3 ⟨⟨t,rfl,ht⟩,v3,fr3⟩
  have s3:Aside (Stk w3 vb ov hs):=(s1.out.frame (w':=w1.drewN m2) (fun _ _ _=>rfl) (Nat.le_refl _)).frame fr3.vb fr3.size
  have f3:Fr (fun b=>vb≤b) w w3:=(f1.drewN m2).trans fr3 (fun _ _ e=>by omega)
  unfold strB at HR
  go_wp2_with fail
  refine bodyPost_ret (v:=.tuple #[.iface 100 (.string t),.bool (strAt s p).2.2]) (by simp [results,Tryz.results25,go_sem]) rfl ?_
  rw [← HR.out]
  have hts:t.size≤50000000:=by
   have h1:=str_len (s:=s) (s.size+1) (p+1) [] (by omega)
   have h2:t.data.toList.length=t.size:=size_list t
   rw [ht] at h2
   have h3:(strAt s p).1=(strL s (s.size+1) (p+1) []).1:=rfl
   rw [h3] at h2
   simp only [List.length_nil] at h1
   omega
  cases hok:(strAt s p).2.2 with
  | true =>
   rw [if_pos rfl]
   have hus:UStr t.data.toList:=by
    rw [ht]
    exact str_chunks (s.size+1) (p+1) [] (by omega) UStr.nil hok
   exact ⟨⟨(100,.string t),rfl,⟨_,v3,s3.out,Vl.leaf (.inr (.inr (.inr ⟨t,⟨hts,hus⟩,rfl,by rw [ht]⟩)))⟩⟩,f3⟩
  | false =>
   rw [if_neg (by simp)]
   exact ⟨⟨⟨_,rfl⟩,_,v3⟩,f3⟩
 rw [if_neg n34] at hR
 by_cases n91:b=91
 ·rw [if_pos n91] at hR
  have k110:(b == 110)=false:=by simpa using n110
  have k102:(b == 102)=false:=by simpa using n102
  have k116:(b == 116)=false:=by simpa using n116
  have k34:(b == 34)=false:=by simpa using n34
  have k91:(b == 91)=true:=by simpa using n91
  have hplt:p < s.size:=HLT.out (by omega)
  have HR:Hid _:=hR
  clear hR n110 n102 n116 n34 n91 hbd
  go_enter Tryz.func25,Tryz.ntmps25
  go_wp2_with fail
  refine Calls.mono HS.out ?_
  rintro e w1 ⟨rfl,v1,fr1⟩
  have hA1:=v1.va hpl.2 hm
  have f1:Fr (fun b=>vb≤b) w w1:=fr1.mono (fun _ e=>by omega)
  have s1:Aside (Stk w1 vb ov hs):=ST.out.frame fr1.vb fr1.size
  have hb1:Below vb w0 w1:=f1.lowN (fun _ e=>e) hb (by omega)
  go_wp2_with (first
   | (go_at_call 28;refine (nextV_ok hA1).mono ?_;rintro e w2 ⟨rfl,m2,rfl⟩;rw [HBB.out])
   | (go_at_call 71;refine (vIsDigit_any _ _).mono ?_;rintro e w2' ⟨rfl,hw⟩;subst w2';rw [hdg]))
  refine Calls.mono (bh_arr hC (hs:=hs) ⟨ov,v1.drewN m2,s1.out.frame (w':=w1.drewN m2) (fun _ _ _=>rfl) (Nat.le_refl _)⟩ hplt hm hn) ?_
  rintro e w3 ⟨hbg,fr3⟩
  rw [HR.out] at hbg
  have f3:Fr (fun b=>vb≤b) w w3:=(f1.drewN m2).trans fr3 (fun _ _ e=>e)
  have HBG:Aside (BgPost vb s R hs e w3):=hbg
  clear hbg HR
  obtain ⟨q,o⟩:=R
  cases o with
  | none =>
   obtain ⟨⟨v,rfl⟩,ov',v3⟩:=HBG.out
   go_wp2_with fail
   exact bodyPost_ret (v:=.tuple #[v,.bool false]) (by simp [results,Tryz.results25,go_sem]) rfl ⟨⟨⟨_,rfl⟩,_,v3⟩,f3⟩
  | some k =>
   cases k with
   | inl t =>
    obtain ⟨⟨T,u⟩,rfl,hAt⟩:=HBG.out
    simp only [iv]
    go_wp2_with fail
    exact bodyPost_ret (v:=.tuple #[.iface T u,.bool true]) (by simp [results,Tryz.results25,go_sem]) rfl ⟨⟨(T,u),rfl,hAt⟩,f3⟩
   | inr l =>
    obtain ⟨rfl,h,hl,hAt⟩:=HBG.out
    go_wp2_with fail
    exact bodyPost_ret (v:=.tuple #[.nilIface,.bool true]) (by simp [results,Tryz.results25,go_sem]) rfl ⟨⟨rfl,h,hl,hAt⟩,f3⟩
 rw [if_neg n91] at hR
 by_cases n123:b=123
 ·rw [if_pos n123] at hR
  have k110:(b == 110)=false:=by simpa using n110
  have k102:(b == 102)=false:=by simpa using n102
  have k116:(b == 116)=false:=by simpa using n116
  have k34:(b == 34)=false:=by simpa using n34
  have k91:(b == 91)=false:=by simpa using n91
  have k123:(b == 123)=true:=by simpa using n123
  have hplt:p < s.size:=HLT.out (by omega)
  have HR:Hid _:=hR
  clear hR n110 n102 n116 n34 n91 n123 hbd
  go_enter Tryz.func25,Tryz.ntmps25
  go_wp2_with fail
  refine Calls.mono HS.out ?_
  rintro e w1 ⟨rfl,v1,fr1⟩
  have hA1:=v1.va hpl.2 hm
  have f1:Fr (fun b=>vb≤b) w w1:=fr1.mono (fun _ e=>by omega)
  have s1:Aside (Stk w1 vb ov hs):=ST.out.frame fr1.vb fr1.size
  have hb1:Below vb w0 w1:=f1.lowN (fun _ e=>e) hb (by omega)
  go_wp2_with (first
   | (go_at_call 28;refine (nextV_ok hA1).mono ?_;rintro e w2 ⟨rfl,m2,rfl⟩;rw [HBB.out])
   | (go_at_call 71;refine (vIsDigit_any _ _).mono ?_;rintro e w2' ⟨rfl,hw⟩;subst w2';rw [hdg]))
  refine Calls.mono (bh_obj hC hA (hs:=hs) ⟨ov,v1.drewN m2,s1.out.frame (w':=w1.drewN m2) (fun _ _ _=>rfl) (Nat.le_refl _)⟩ hplt hm hn) ?_
  rintro e w3 ⟨hbg,fr3⟩
  rw [HR.out] at hbg
  have f3:Fr (fun b=>vb≤b) w w3:=(f1.drewN m2).trans fr3 (fun _ _ e=>e)
  have HBG:Aside (BgPost vb s R hs e w3):=hbg
  clear hbg HR
  obtain ⟨q,o⟩:=R
  cases o with
  | none =>
   obtain ⟨⟨v,rfl⟩,ov',v3⟩:=HBG.out
   go_wp2_with fail
   exact bodyPost_ret (v:=.tuple #[v,.bool false]) (by simp [results,Tryz.results25,go_sem]) rfl ⟨⟨⟨_,rfl⟩,_,v3⟩,f3⟩
  | some k =>
   cases k with
   | inl t =>
    obtain ⟨⟨T,u⟩,rfl,hAt⟩:=HBG.out
    simp only [iv]
    go_wp2_with fail
    exact bodyPost_ret (v:=.tuple #[.iface T u,.bool true]) (by simp [results,Tryz.results25,go_sem]) rfl ⟨⟨(T,u),rfl,hAt⟩,f3⟩
   | inr l =>
    obtain ⟨rfl,h,hl,hAt⟩:=HBG.out
    go_wp2_with fail
    exact bodyPost_ret (v:=.tuple #[.nilIface,.bool true]) (by simp [results,Tryz.results25,go_sem]) rfl ⟨⟨rfl,h,hl,hAt⟩,f3⟩
 rw [if_neg n123] at hR
 by_cases n45:b=45
 ·rw [if_pos n45] at hR
  have k110:(b == 110)=false:=by simpa using n110
  have k102:(b == 102)=false:=by simpa using n102
  have k116:(b == 116)=false:=by simpa using n116
  have k34:(b == 34)=false:=by simpa using n34
  have k91:(b == 91)=false:=by simpa using n91
  have k123:(b == 123)=false:=by simpa using n123
  have k45:(b == 45)=true:=by simpa using n45
  have hplt:p < s.size:=HLT.out (by omega)
  have HR:Hid _:=hR
  clear hR n110 n102 n116 n34 n91 n123 n45 hbd
  go_enter Tryz.func25,Tryz.ntmps25
  go_wp2_with fail
  refine Calls.mono HS.out ?_
  rintro e w1 ⟨rfl,v1,fr1⟩
  have hA1:=v1.va hpl.2 hm
  have f1:Fr (fun b=>vb≤b) w w1:=fr1.mono (fun _ e=>by omega)
  have s1:Aside (Stk w1 vb ov hs):=ST.out.frame fr1.vb fr1.size
  have hb1:Below vb w0 w1:=f1.lowN (fun _ e=>e) hb (by omega)
  go_wp2_with (first
   | (go_at_call 28;refine (nextV_ok hA1).mono ?_;rintro e w2 ⟨rfl,m2,rfl⟩;rw [HBB.out])
   | (go_at_call 71;refine (vIsDigit_any _ _).mono ?_;rintro e w2' ⟨rfl,hw⟩;subst w2';rw [hdg]))
  refine Calls.mono (number_ok hP (hb1.trans (belowD _ _ _)) (v1.drewN m2) hpl.2 hm) ?_
  rintro e w3 ⟨rfl,v3,fr3⟩
  have s3:Aside (Stk w3 vb ov hs):=(s1.out.frame (w':=w1.drewN m2) (fun _ _ _=>rfl) (Nat.le_refl _)).frame fr3.vb fr3.size
  have f3:Fr (fun b=>vb≤b) w w3:=(f1.drewN m2).trans fr3 (fun _ _ e=>by omega)
  unfold numB at HR
  cases hok:(numL s p).1 with
  | some n =>
   rw [hok] at HR
   simp only [numO,numV,Option.isSome_some]
   go_wp2_with fail
   refine bodyPost_ret (v:=.tuple #[.iface 98 (.int .i64 n),.bool true]) (by simp [results,Tryz.results25,go_sem]) rfl ?_
   rw [← HR.out]
   have hr:=num_range hok
   exact ⟨⟨(98,.int .i64 n),rfl,⟨_,v3,s3.out,Vl.leaf (.inr (.inr (.inl ⟨n,hr.1,hr.2,rfl,rfl⟩)))⟩⟩,f3⟩
  | none =>
   rw [hok] at HR
   simp only [numO,Option.isSome_none]
   go_wp2_with fail
   refine bodyPost_ret (v:=.tuple #[.nilIface,.bool false]) (by simp [results,Tryz.results25,go_sem]) rfl ?_
   rw [← HR.out]
   exact ⟨⟨⟨_,rfl⟩,_,v3⟩,f3⟩
 rw [if_neg n45] at hR
 cases hdg0:digB b with
 | true =>
  rw [hdg0,if_pos rfl] at hR
  have hdg:(decide (48≤b) && decide (b≤57))=true:=hdg0
  have k110:(b == 110)=false:=by simpa using n110
  have k102:(b == 102)=false:=by simpa using n102
  have k116:(b == 116)=false:=by simpa using n116
  have k34:(b == 34)=false:=by simpa using n34
  have k91:(b == 91)=false:=by simpa using n91
  have k123:(b == 123)=false:=by simpa using n123
  have k45:(b == 45)=false:=by simpa using n45
  have HR:Hid _:=hR
  clear hR n110 n102 n116 n34 n91 n123 n45 hbd hdg0
  go_enter Tryz.func25,Tryz.ntmps25
  go_wp2_with fail
  refine Calls.mono HS.out ?_
  rintro e w1 ⟨rfl,v1,fr1⟩
  have hA1:=v1.va hpl.2 hm
  have f1:Fr (fun b=>vb≤b) w w1:=fr1.mono (fun _ e=>by omega)
  have s1:Aside (Stk w1 vb ov hs):=ST.out.frame fr1.vb fr1.size
  have hb1:Below vb w0 w1:=f1.lowN (fun _ e=>e) hb (by omega)
  go_wp2_with (first
   | (go_at_call 28;refine (nextV_ok hA1).mono ?_;rintro e w2 ⟨rfl,m2,rfl⟩;rw [HBB.out])
   | (go_at_call 71;refine (vIsDigit_any _ _).mono ?_;rintro e w2' ⟨rfl,hw⟩;subst w2';rw [hdg]))
  refine Calls.mono (number_ok hP (hb1.trans (belowD _ _ _)) (v1.drewN m2) hpl.2 hm) ?_
  rintro e w3 ⟨rfl,v3,fr3⟩
  have s3:Aside (Stk w3 vb ov hs):=(s1.out.frame (w':=w1.drewN m2) (fun _ _ _=>rfl) (Nat.le_refl _)).frame fr3.vb fr3.size
  have f3:Fr (fun b=>vb≤b) w w3:=(f1.drewN m2).trans fr3 (fun _ _ e=>by omega)
  unfold numB at HR
  cases hok:(numL s p).1 with
  | some n =>
   rw [hok] at HR
   simp only [numO,numV,Option.isSome_some]
   go_wp2_with fail
   refine bodyPost_ret (v:=.tuple #[.iface 98 (.int .i64 n),.bool true]) (by simp [results,Tryz.results25,go_sem]) rfl ?_
   rw [← HR.out]
   have hr:=num_range hok
   exact ⟨⟨(98,.int .i64 n),rfl,⟨_,v3,s3.out,Vl.leaf (.inr (.inr (.inl ⟨n,hr.1,hr.2,rfl,rfl⟩)))⟩⟩,f3⟩
  | none =>
   rw [hok] at HR
   simp only [numO,Option.isSome_none]
   go_wp2_with fail
   refine bodyPost_ret (v:=.tuple #[.nilIface,.bool false]) (by simp [results,Tryz.results25,go_sem]) rfl ?_
   rw [← HR.out]
   exact ⟨⟨⟨_,rfl⟩,_,v3⟩,f3⟩
 | false =>
  rw [hdg0,if_neg (by simp)] at hR
  have hdg:(decide (48≤b) && decide (b≤57))=false:=hdg0
  have k110:(b == 110)=false:=by simpa using n110
  have k102:(b == 102)=false:=by simpa using n102
  have k116:(b == 116)=false:=by simpa using n116
  have k34:(b == 34)=false:=by simpa using n34
  have k91:(b == 91)=false:=by simpa using n91
  have k123:(b == 123)=false:=by simpa using n123
  have k45:(b == 45)=false:=by simpa using n45
  have HR:Hid _:=hR
  clear hR n110 n102 n116 n34 n91 n123 n45 hbd hdg0
  go_enter Tryz.func25,Tryz.ntmps25
  go_wp2_with fail
  refine Calls.mono HS.out ?_
  rintro e w1 ⟨rfl,v1,fr1⟩
  have hA1:=v1.va hpl.2 hm
  have f1:Fr (fun b=>vb≤b) w w1:=fr1.mono (fun _ e=>by omega)
  have s1:Aside (Stk w1 vb ov hs):=ST.out.frame fr1.vb fr1.size
  have hb1:Below vb w0 w1:=f1.lowN (fun _ e=>e) hb (by omega)
  go_wp2_with (first
   | (go_at_call 28;refine (nextV_ok hA1).mono ?_;rintro e w2 ⟨rfl,m2,rfl⟩;rw [HBB.out])
   | (go_at_call 71;refine (vIsDigit_any _ _).mono ?_;rintro e w2' ⟨rfl,hw⟩;subst w2';rw [hdg]))
  refine bodyPost_ret (v:=.tuple #[.nilIface,.bool false]) (by simp [results,Tryz.results25,go_sem]) rfl ?_
  rw [← HR.out]
  exact ⟨⟨⟨_,rfl⟩,_,v1.drewN _⟩,f1.drewN _⟩
theorem str_go {s:ByteArray}:∀ (k a:Nat) (cs:List UInt8),a≤s.size→(strL s k a cs).2.2=true→∃ p:Nat,(strL s k a cs).2.1=p∧a < p∧p≤s.size
 | 0,a,cs,_,h=>by simp [strL] at h
 | k+1,a,cs,hle,h=>by
  rw [strL] at h ⊢
  split at h
  ·cases h
  ·rename_i hz
   rw [if_neg hz]
   split at h
   ·rename_i h34
    rw [if_pos h34]
    exact ⟨a+1,by simp only;omega,by omega,by omega⟩
   ·rename_i h34
    rw [if_neg h34]
    split at h
    ·cases h
    ·rename_i h32
     rw [if_neg h32]
     split at h
     ·rename_i h92
      rw [if_pos h92]
      split at h
      ·rename_i hok
       rw [if_pos hok]
       obtain ⟨_,_,q,hq,hq1,hq2⟩:=esc_good (s:=s) (a:=a) (by omega) hok
       rw [hq,Int.toNat_natCast] at h ⊢
       obtain ⟨p,e1,e2,e3⟩:=str_go k q _ hq2 h
       exact ⟨p,e1,by omega,e3⟩
      ·cases h
     ·rename_i h92
      rw [if_neg h92]
      split at h
      ·cases h
      ·rename_i hf
       rw [if_neg hf]
       have ht:=tail_place (s:=s) (followV (byteAt s a)).2.2.toNat (a+1) (followV (byteAt s a)).1 (followV (byteAt s a)).2.1 (by omega)
       split at h
       ·rename_i hok
        rw [if_pos hok]
        obtain ⟨p,e1,e2,e3⟩:=str_go k _ _ ht.2 h
        exact ⟨p,e1,by omega,e3⟩
       ·cases h
theorem strAt_go {s:ByteArray}{a:Nat} (h:a < s.size) (hok:(strAt s a).2.2=true):a < (strAt s a).2.1∧(strAt s a).2.1≤s.size:=by
 obtain ⟨p,e1,e2,e3⟩:=str_go (s.size+1) (a+1) [] (by omega) hok
 unfold strAt
 simp only [e1,Int.toNat_natCast]
 omega
theorem word_go {s wd:ByteArray}:∀ (k i a:Nat),(wordV s wd k i a).2=true→(wordV s wd k i a).1=a+k
 | 0,_,a,_=>rfl
 | k+1,i,a,h=>by
  rw [wordV] at h ⊢
  split at h
  ·rename_i e
   rw [if_pos e,word_go k (i+1) (a+1) h]
   omega
  ·cases h
theorem num_go {s:ByteArray}{p:Nat} (h:(numL s p).1.isSome=true):p < (numL s p).2∧(numL s p).2≤s.size:=by
 unfold numL at h ⊢
 obtain ⟨b,hb⟩:∃ b,(if byteAt s p=45 then p+1 else p)=b:=⟨_,rfl⟩
 have hpb:p≤b:=by rw [← hb];split <;> omega
 rw [hb] at h ⊢
 unfold numAt at h ⊢
 split at h
 ·rename_i hd
  rw [if_pos hd]
  have:=numEnd_range hd
  cases hp:parsedV (s.extract p (numEnd s b)).data.toList with
  | some m=>simp only [numP];omega
  | none=>rw [hp] at h;cases h
 ·cases h
theorem keyAt_go {s:ByteArray}{a:Nat} (ha:a≤s.size) (hok:(keyAt s a).2.2=true):a < (keyAt s a).2.1:=by
 have h1:=blk_le ha
 unfold keyAt at hok ⊢
 split at hok
 ·rename_i h34
  rw [if_pos h34]
  have hlt:blk s a < s.size:=byte_pos (by rw [h34];omega)
  split at hok
  ·rename_i hs
   rw [if_pos hs]
   have h2:=strAt_go hlt hs
   have h3:=blk_le h2.2
   split at hok
   ·rename_i h58
    rw [if_pos h58]
    simp only;omega
   ·cases hok
  ·cases hok
 ·cases hok
theorem bhL_go {s:ByteArray}{a n:Nat}{obj:Bool}{p:Nat}{k:Sum Bys HL} (ha:a < s.size) (h:bhL s a n obj=(p,some k)):a < p∧p≤s.size:=by
 have h1:=blk_le (s:=s) (a:=a+1) (by omega)
 unfold bhL at h
 split at h
 ·cases h
 ·split at h
  ·rename_i hc
   cases h
   have:blk s (a+1) < s.size:=byte_pos (by rw [hc];cases obj <;> simp [clB])
   omega
  ·split at h
   ·split at h
    ·rename_i hk
     cases h
     have:=keyAt_go h1.2 hk
     have:=keyAt_le (s:=s) h1.2
     omega
    ·cases h
   ·cases h
    omega
theorem begL_go {s:ByteArray}{a n:Nat}{p:Nat}{k:Sum Bys HL} (ha:a≤s.size) (h:begL s a n=(p,some k)):a < p∧p≤s.size:=by
 have h1:=blk_le ha
 unfold begL at h
 obtain ⟨q,hq⟩:∃ q,blk s a=q:=⟨_,rfl⟩
 rw [hq] at h h1
 have hlt:byteAt s q≠0→q < s.size:=byte_pos
 have wd:∀ (wd:ByteArray) (t:Bys),(∀ i,i < wd.size→byteAt wd i≠0)→0 < wd.size→wdL s wd q t=(p,some k)→a < p∧p≤s.size:=fun wd t hz h0 e=>by
  unfold wdL at e
  split at e
  ·rename_i hok
   have e1:=word_go (s:=s) (wd:=wd) wd.size 0 q hok
   have e2:=word_le (s:=s) hz wd.size 0 q (by omega) h1.2
   cases e
   omega
  ·cases e
 have nm:numB s q=(p,some k)→a < p∧p≤s.size:=fun e=>by
  unfold numB at e
  cases hn:(numL s q).1 with
  | some n =>
   have:=num_go (s:=s) (p:=q) (by rw [hn];rfl)
   rw [hn] at e
   cases e
   omega
  | none=>rw [hn] at e;cases e
 unfold begC at h
 split at h
 ·exact wd _ _ (by decide) (by decide) h
 ·split at h
  ·exact wd _ _ (by decide) (by decide) h
  ·split at h
   ·exact wd _ _ (by decide) (by decide) h
   ·split at h
    ·rename_i hc
     unfold strB at h
     split at h
     ·rename_i hok
      have:=strAt_go (hlt (by rw [hc];omega)) hok
      cases h
      omega
     ·cases h
    ·split at h
     ·rename_i hc
      have:=bhL_go (hlt (by rw [hc];omega)) h
      omega
     ·split at h
      ·rename_i hc
       have:=bhL_go (hlt (by rw [hc];omega)) h
       omega
      ·split at h
       ·exact nm h
       ·split at h
        ·exact nm h
        ·cases h
def runL (s:ByteArray):Nat→Option Bys→Nat→List HL→Option Bys×Nat
 | 0,_,a,_=>(none,a)
 | k+1,none,a,st=>match begL s a st.length with
  | (p,none)=>(none,p)
  | (p,some (.inl t))=>runL s k (some t) p st
  | (p,some (.inr l))=>runL s k none p (l :: st)
 | _+1,some t,a,[]=>(if blk s a=s.size then some t else none,blk s a)
 | k+1,some t,a,l :: st =>
  if byteAt s (blk s a)=44 then
   (if l.obj then (if (keyAt s (blk s a+1)).2.2 then runL s k none (keyAt s (blk s a+1)).2.1 ({ l.add t with key:=(keyAt s (blk s a+1)).1 } :: st) else (none,(keyAt s (blk s a+1)).2.1))
   else runL s k none (blk s a+1) (l.add t :: st))
  else if byteAt s (blk s a)=clB l.obj then runL s k (some (l.add t).text) (blk s a+1) st
  else (none,blk s a)
def CN (n:Nat) (hs:List Hd):Prop:=∀ h∈hs,h.its.length≤n∧h.ms.length≤n
theorem CN.mono {n m:Nat}{hs:List Hd} (h:CN n hs) (hm:n≤m):CN m hs:=fun x hx=>⟨Nat.le_trans (h x hx).1 hm,Nat.le_trans (h x hx).2 hm⟩
def absR (hs:List Hd):List HL:=(hs.map Hd.abs).reverse
theorem absR_app (hs:List Hd) (h:Hd):absR (hs ++ [h])=h.abs :: absR hs:=by simp [absR]
theorem absR_len (hs:List Hd):(absR hs).length=hs.length:=by simp [absR]
def WhPost (vb:Nat) (s:ByteArray) (R:Option Bys×Nat) (e:Ending) (w:World):Prop:=match R.1 with
 | some t=>∃ x:IV,e = .returned (.tuple #[iv x,.bool true])∧Vl w (fun b=>vb < b∧b < w.heap.size) x t
 | none=>(∃ v,e = .returned (.tuple #[v,.bool false]))∧∃ ov,VBlk w vb s R.2 ov
theorem push64 {s:ByteArray}{a n p:Nat}{l:HL} (hn:n≤64) (h:begL s a n=(p,some (.inr l))):n+1≤64∧l.its=[]∧l.ms=[]:=by
 have bh:∀ q obj,bhL s q n obj=(p,some (.inr l))→n+1≤64∧l.its=[]∧l.ms=[]:=fun q obj e=>by
  unfold bhL at e
  split at e
  ·cases e
  ·rename_i h64
   have:n+1≤64:=by omega
   split at e
   ·cases e
   ·split at e
    ·split at e
     ·cases e;exact ⟨this,rfl,rfl⟩
     ·cases e
    ·cases e;exact ⟨this,rfl,rfl⟩
 have wd:∀ q wd t,wdL s wd q t≠(p,some (.inr l)):=fun q wd t e=>by
  unfold wdL at e
  split at e <;> cases e
 have nm:∀ q,numB s q≠(p,some (.inr l)):=fun q e=>by
  unfold numB at e
  split at e <;> cases e
 unfold begL begC at h
 split at h
 ·exact absurd h (wd _ _ _)
 ·split at h
  ·exact absurd h (wd _ _ _)
  ·split at h
   ·exact absurd h (wd _ _ _)
   ·split at h
    ·unfold strB at h
     split at h <;> cases h
    ·split at h
     ·exact bh _ _ h
     ·split at h
      ·exact bh _ _ h
      ·split at h
       ·exact absurd h (nm _)
       ·split at h
        ·exact absurd h (nm _)
        ·cases h
theorem whole_ok (hC:ComparesStr) (hA:AppendsRune) {w w0:World}{vb:Nat}{s:ByteArray} (hP:∀ w',Below vb w0 w'→ParsesAt w') (hb:Below vb w0 w) (hat:At w vb s 0 []) (hm:s.size≤10000000) :
  Calls Tryz.prog 12 #[.pointer (some ⟨vb,0,none⟩)] w fun e w'=>WhPost vb s (runL s (s.size+1) none 0 []) e w'∧Fr (fun b=>vb≤b) w w':=by
 obtain ⟨R,hR⟩:∃ R,runL s (s.size+1) none 0 []=R:=⟨_,rfl⟩
 rw [hR]
 have HR:Hid _:=hR
 have HAT:Aside (At w vb s 0 []):=hat
 have HBEG:Aside (∀ (w1:World) (a:Nat) (hs:List Hd),Fr (fun b=>vb≤b) w w1→At w1 vb s a hs→a≤s.size→hs.length≤64→Calls Tryz.prog 25 #[.pointer (some ⟨vb,0,none⟩)] w1 fun e w'=>BgPost vb s (begL s a hs.length) hs e w'∧Fr (fun b=>vb≤b) w1 w'):=by
  show ∀ (w1:World) (a:Nat) (hs:List Hd),_
  intro w1 a hs fr h1 h2 h3
  exact begin_ok2 hC hA hP (fr.lowN (fun _ e=>e) hb (by obtain ⟨ov,hv,_⟩:=hat.blk;have:=(three_facts' hv).2.2.2.2.2.2;omega)) h1 h2 hm h3
 clear hR hat
 go_enter Tryz.func12,Tryz.ntmps12
 go_wp2_with fail
 go_step3
 go_wp2_with fail
 go_step3
 go_wp2_with fail
 go_loopg [4] (s.size+1) (fun k v wr=>∃ (a:Nat) (hs:List Hd),a≤s.size∧s.size+1≤a+k∧hs.length≤64∧Aside (CN a hs)∧Aside (At wr vb s a hs)∧Fr (fun b=>vb≤b) w wr∧Hid (runL s k none a (absR hs)=R))
 case atStart=>exact ⟨0,[],by omega,by omega,by simp,fun h hh=>by simp at hh,HAT,Fr.refl _ _,HR⟩
 case round =>
  clear HAT HR
  obtain ⟨a,hs,ha,hk,hn,hcn,hat,hfr,hr⟩:=hrel
  match gk,hk,hr with
  | 0,hk,hr=>omega
  | k+1,hk,hr =>
   have hr':=hr.out
   rw [runL,absR_len] at hr'
   clear hr
   go_wp2_with fail
   refine Calls.mono (HBEG.out _ a hs hfr hat.out ha hn) ?_
   rintro e w1 ⟨hbg,fr1⟩
   have hgo:=fun p q=>begL_go (s:=s) (a:=a) (n:=hs.length) (p:=p) (k:=q) ha
   have h64:=fun p l=>push64 (s:=s) (a:=a) (n:=hs.length) (p:=p) (l:=l) hn
   obtain ⟨B,hB⟩:∃ B,begL s a hs.length=B:=⟨_,rfl⟩
   rw [hB] at hbg hr'
   simp only [hB] at hgo h64
   clear hB hat
   obtain ⟨p,o⟩:=B
   have f1:Fr (fun b=>vb≤b) w w1:=hfr.trans fr1 (fun _ _ e=>e)
   cases o with
   | none =>
    obtain ⟨⟨v,rfl⟩,ov,v1⟩:=hbg
    have hr2:(none,p)=R:=hr'
    have HR2:Hid _:=hr2
    clear hr' hr2 hgo h64
    go_wp2_with fail
    simp only [Exit.noGoto]
    refine bodyPost_ret (v:=.tuple #[.nilIface,.bool false]) (by simp [results,Tryz.results12,go_sem]) rfl ?_
    rw [← HR2.out]
    exact ⟨⟨⟨_,rfl⟩,_,v1⟩,f1⟩
   | some q =>
    cases q with
    | inr l =>
     obtain ⟨rfl,h,hl,hat1⟩:=hbg
     have hg:=hgo p (.inr l) rfl
     have h6:=h64 p l rfl
     have hr2:runL s k none p (l :: absR hs)=R:=hr'
     have HR2:Hid _:=hr2
     clear hr' hr2 hgo h64
     have HAT1:Aside _:=hat1
     clear hat1
     go_wp2_with fail
     go_roundg k
     case measure=>omega
     case rel =>
      refine ⟨p,hs ++ [h],hg.2,by omega,by simp;omega,?_,HAT1,f1,?_⟩
      ·show CN _ _
       intro x hx
       rcases List.mem_append.1 hx with hx | hx
       ·exact (CN.mono hcn.out (by omega)) x hx
       ·rw [List.mem_singleton] at hx
        subst hx
        have e1:x.abs.its=[]:=by rw [hl];exact h6.2.1
        have e2:x.abs.ms=[]:=by rw [hl];exact h6.2.2
        have e3:x.its.length=0:=by have:=congrArg List.length e1;simpa [Hd.abs] using this
        have e4:x.ms.length=0:=by have:=congrArg List.length e2;simpa [Hd.abs] using this
        omega
      ·show _=_
       rw [absR_app,hl]
       exact HR2.out
    | inl t =>
     obtain ⟨⟨T,u⟩,rfl,hav⟩:=hbg
     have hg:=hgo p (.inl t) rfl
     have hr2:runL s k (some t) p (absR hs)=R:=hr'
     have HR2:Hid _:=hr2
     have HAV:Aside (AtV w1 vb s p hs (T,u) t):=hav
     have HCN:Hid (∃ c,c < p∧CN c hs):=⟨a,hg.1,hcn.out⟩
     clear hr' hr2 hgo h64 hav hcn
     simp only [iv]
     go_wp2_with fail
     go_loopg [4] k (fun k' v wr=>∃ (a:Nat) (hs:List Hd) (T:Nat) (u:Value) (t:Bys),v = .iface T u∧a≤s.size∧s.size+1≤a+k'∧k'≤k∧hs.length≤64∧Hid (∃ c,c < a∧CN c hs)∧Aside (AtV wr vb s a hs (T,u) t)∧Fr (fun b=>vb≤b) w wr∧Hid (runL s k' (some t) a (absR hs)=R))
     case atStart=>exact ⟨p,hs,T,u,t,rfl,hg.2,by omega,Nat.le_refl _,hn,HCN,HAV,f1,HR2⟩
     case round =>
      clear HR2 HAV HCN hg f1 fr1 hn ha hk
      obtain ⟨a,hs,T,u,t,rfl,ha,hk,hkk,hn,hcn,hav,hfr,hr⟩:=hrel
      match gk,hk,hkk,hr with
      | 0,hk,hkk,hr=>omega
      | k'+1,hk,hkk,hr =>
       obtain ⟨ov,hv,st,vl⟩:=hav.out
       have hr':=hr.out
       clear hr hav
       have hsk:Calls Tryz.prog 26 #[.pointer (some ⟨vb,0,none⟩)] _ fun e w'=>e = .returned (.tuple #[])∧VBlk w' vb s (blk s a) ov∧Fr (· = vb) _ w':=skipV_ok hv ha hm
       have hpl:=blk_le ha
       have HSK:Aside _:=hsk
       rcases List.eq_nil_or_concat hs with e | ⟨lo,h,e⟩
       ·subst e
        have hr2:(if blk s a=s.size then some t else none,blk s a)=R:=by simpa [runL,absR] using hr'
        have HR2:Hid _:=hr2
        clear hr' hr2
        obtain ⟨oa,ol,oc,rfl⟩:=owns_shape2 st.own
        have hol:ol=0:=by
         rcases st.own.2 with ⟨e,h0⟩ | ⟨gg,cc,cur,e,_⟩
         ·cases e;rfl
         ·cases e;rfl
        subst hol
        go_wp2_with fail
        refine Calls.mono HSK.out ?_
        rintro e w2 ⟨rfl,v2,fr2⟩
        obtain ⟨x0,x1,x2,y0,y1,y2,xl⟩:=three_facts' v2
        have s2:=st.frame fr2.vb fr2.size
        have vl2:=vl.frame fr2.vb fr2.size
        have f2:Fr (fun b=>vb≤b) w w2:=hfr.trans fr2 (fun _ _ e=>by omega)
        by_cases hz:blk s a=s.size
        ·rw [if_pos hz] at HR2
         have hz':(blk s a:Int)=(s.size:Int):=by omega
         go_wp2_with fail
         go_quiet (fail)
         go_wp2_with fail
         try rw [Exit.noGoto_ret]
         refine bodyPost_ret (v:=.tuple #[.iface T u,.bool true]) (by simp [results,Tryz.results12,go_sem]) rfl ?_
         rw [← HR2.out]
         exact ⟨⟨(T,u),rfl,(Vl.mono (w':=w2.drewN nq) vl2 (fun b hb=>⟨⟨hb.1,hb.2.1⟩,rfl⟩))⟩,f2.drewN _⟩
        ·rw [if_neg hz] at HR2
         have hz':¬ (blk s a:Int)=(s.size:Int):=by omega
         go_wp2_with fail
         go_quiet (fail)
         go_wp2_with fail
         try rw [Exit.noGoto_ret]
         refine bodyPost_ret (v:=.tuple #[.iface T u,.bool false]) (by simp [results,Tryz.results12,go_sem,hz']) rfl ?_
         rw [← HR2.out]
         exact ⟨⟨⟨_,rfl⟩,_,v2.drewN _⟩,f2.drewN _⟩
       ·subst e
        rw [List.concat_eq_append] at *
        obtain ⟨g,cap,rfl,hgv,hcap,hcm,ht⟩:=st.top
        obtain ⟨q,hq⟩:∃ q,blk s a=q:=⟨_,rfl⟩
        rw [absR_app,runL,hq] at hr'
        rw [hq] at hpl
        have HSK2:Aside (Calls Tryz.prog 26 #[.pointer (some ⟨vb,0,none⟩)] wr fun e w'=>e = .returned (.tuple #[])∧VBlk w' vb s q (.slice (some ⟨g,0,none⟩) (lo.length+1) cap)∧Fr (· = vb) wr w'):=by
         have:=HSK.out
         rw [hq] at this
         exact this
        have ST:Aside (Stk wr vb (.slice (some ⟨g,0,none⟩) (lo.length+1) cap) (lo ++ [h])):=st
        have VL:Aside (Vl wr (Done wr vb (.slice (some ⟨g,0,none⟩) (lo.length+1) cap) (lo ++ [h])) (T,u) t):=vl
        have hlo:lo.length≤63:=by simp at hn;omega
        clear hsk HSK st vl hq ht
        cases ho:h.obj with
        | false =>
         have hab:h.abs.obj=false:=ho
         rw [hab] at hr'
         have hcount:h.its.length≤10000000:=by
          obtain ⟨c,hc,hcn'⟩:=hcn.out
          have:=hcn' h (by simp)
          omega
         by_cases n44:byteAt s q=44
         ·rw [if_pos n44] at hr'
          have b44:(byteAt s q == 44)=true:=by simpa using n44
          have hqlt:q < s.size:=byte_pos (by rw [n44];omega)
          rw [if_neg (by simp)] at hr'
          have HR2:Hid _:=hr'
          clear hr' n44
          go_wp2_with fail
          refine Calls.mono HSK2.out ?_
          rintro e w2 ⟨rfl,v2,fr2⟩
          have s2:Aside (Stk w2 vb (.slice (some ⟨g,0,none⟩) (lo.length+1) cap) (lo ++ [h])):=ST.out.frame fr2.vb fr2.size
          have vl2:Aside (Vl w2 (Done w2 vb (.slice (some ⟨g,0,none⟩) (lo.length+1) cap) (lo ++ [h])) (T,u) t):=Vl.frame VL.out fr2.vb fr2.size
          have f2:Fr (fun b=>vb≤b) w w2:=hfr.trans fr2 (fun _ _ e=>by omega)
          obtain ⟨x0,x1,x2,y0,y1,y2,xl⟩:=three_facts' v2
          have hz0:(((lo.length+1:Nat):Int) == 0)=false:=by simp;omega
          go_wp2_with fail
          go_quiet (fail)
          go_wp2_with fail
          refine Calls.mono (add_arr (s2.out.frame (w':=w2.drewN nq) (fun _ _ _=>rfl) (Nat.le_refl _)) (Vl.frame (w':=w2.drewN nq) vl2.out (fun _ _ _=>rfl) (Nat.le_refl _)) ho hcount) ?_
          rintro e w3 ⟨rfl,⟨row,st3⟩,fr3⟩
          obtain ⟨h3,hh3⟩:∃ h3,h.add row (T,u) t=h3:=⟨_,rfl⟩
          rw [hh3] at st3
          have ha3:h3.abs=h.abs.add t:=by rw [← hh3];exact add_abs h row (T,u) t
          have ho3:h3.obj=false:=by rw [← hh3];unfold Hd.add;rw [ho];first | exact ho | rfl
          have hc3:h3.its.length≤h.its.length+1∧h3.ms.length≤h.ms.length+1:=by rw [← hh3];unfold Hd.add;split <;> simp
          have v3:VBlk w3 vb s q (.slice (some ⟨g,0,none⟩) (lo.length+1) cap):=(v2.drewN nq).same (fr3.block vb (by simpa using xl) (by omega))
          have f3:Fr (fun b=>vb≤b) w w3:=(f2.drewN nq).trans fr3 (fun _ _ e=>by omega)
          have S3:Aside (Stk w3 vb (.slice (some ⟨g,0,none⟩) (lo.length+1) cap) (lo ++ [h3])):=st3
          obtain ⟨g',cap',e',_,_,_,ht3⟩:=st3.top
          cases e'
          obtain ⟨t0,t1,t2,t3,tf,tl⟩:=ht3.facts
          simp only [ho3,Bool.false_eq_true,if_false] at t0
          obtain ⟨z0,z1,z2,j0,j1,j2,zl⟩:=three_facts' v3
          have hA3:=v3.va hpl.2 hm
          clear st3 fr3 ht3 t1 t2 t3 hh3
          go_wp2_with (go_at_call 28;refine (nextV_ok hA3).mono ?_;rintro e w4 ⟨rfl,m4,rfl⟩)
          have v5:VBlk ((w3.drewN m4).setCell ⟨vb,1,none⟩ (.int .i64 ((q:Int)+1))) vb s (q+1) (.slice (some ⟨g,0,none⟩) (lo.length+1) cap):=(v3.drewN m4).set (b:=q+1)
          have s5:Stk ((w3.drewN m4).setCell ⟨vb,1,none⟩ (.int .i64 ((q:Int)+1))) vb (.slice (some ⟨g,0,none⟩) (lo.length+1) cap) (lo ++ [h3]):=S3.out.frame (fun b hb _=>Below.heap_setCell _ _ _ _ (by simp;omega)) (by simp)
          go_roundg k'
          case measure=>omega
          case rel =>
           refine ⟨q+1,lo ++ [h3],by omega,by omega,by simp;omega,?_,⟨_,v5,s5⟩,(f3.drewN m4).setCell _ (.inl (Nat.le_refl _)),?_⟩
           ·obtain ⟨c,hc,hcn'⟩:=hcn.out
            show CN _ _
            intro x hx
            rcases List.mem_append.1 hx with hx | hx
            ·have:=hcn' x (by simp [hx]);constructor <;> omega
            ·rw [List.mem_singleton] at hx
             subst hx
             have:=hcn' h (by simp)
             constructor <;> omega
           ·show _=_
            rw [absR_app,ha3]
            exact HR2.out
         ·rw [if_neg n44] at hr'
          have b44:(byteAt s q == 44)=false:=by simpa using n44
          by_cases ncl:byteAt s q=93
          ·rw [if_pos (by rw [ncl];rfl)] at hr'
           have bcl:(byteAt s q == 93)=true:=by simpa using ncl
           have hqlt:q < s.size:=byte_pos (by rw [ncl];omega)
           have HR2:Hid _:=hr'
           clear hr' n44 ncl
           go_wp2_with fail
           refine Calls.mono HSK2.out ?_
           rintro e w2 ⟨rfl,v2,fr2⟩
           have s2:Aside (Stk w2 vb (.slice (some ⟨g,0,none⟩) (lo.length+1) cap) (lo ++ [h])):=ST.out.frame fr2.vb fr2.size
           have vl2:Aside (Vl w2 (Done w2 vb (.slice (some ⟨g,0,none⟩) (lo.length+1) cap) (lo ++ [h])) (T,u) t):=Vl.frame VL.out fr2.vb fr2.size
           have f2:Fr (fun b=>vb≤b) w w2:=hfr.trans fr2 (fun _ _ e=>by omega)
           obtain ⟨x0,x1,x2,y0,y1,y2,xl⟩:=three_facts' v2
           have hz0:(((lo.length+1:Nat):Int) == 0)=false:=by simp;omega
           go_wp2_with fail
           go_quiet (fail)
           go_wp2_with fail
           refine Calls.mono (add_arr (s2.out.frame (w':=w2.drewN nq) (fun _ _ _=>rfl) (Nat.le_refl _)) (Vl.frame (w':=w2.drewN nq) vl2.out (fun _ _ _=>rfl) (Nat.le_refl _)) ho hcount) ?_
           rintro e w3 ⟨rfl,⟨row,st3⟩,fr3⟩
           obtain ⟨h3,hh3⟩:∃ h3,h.add row (T,u) t=h3:=⟨_,rfl⟩
           rw [hh3] at st3
           have ha3:h3.abs=h.abs.add t:=by rw [← hh3];exact add_abs h row (T,u) t
           have ho3:h3.obj=false:=by rw [← hh3];unfold Hd.add;rw [ho];first | exact ho | rfl
           have hc3:h3.its.length≤h.its.length+1∧h3.ms.length≤h.ms.length+1:=by rw [← hh3];unfold Hd.add;split <;> simp
           have v3:VBlk w3 vb s q (.slice (some ⟨g,0,none⟩) (lo.length+1) cap):=(v2.drewN nq).same (fr3.block vb (by simpa using xl) (by omega))
           have f3:Fr (fun b=>vb≤b) w w3:=(f2.drewN nq).trans fr3 (fun _ _ e=>by omega)
           have S3:Aside (Stk w3 vb (.slice (some ⟨g,0,none⟩) (lo.length+1) cap) (lo ++ [h3])):=st3
           obtain ⟨g',cap',e',_,_,_,ht3⟩:=st3.top
           cases e'
           obtain ⟨t0,t1,t2,t3,tf,tl⟩:=ht3.facts
           simp only [ho3,Bool.false_eq_true,if_false] at t0
           obtain ⟨z0,z1,z2,j0,j1,j2,zl⟩:=three_facts' v3
           have hA3:=v3.va hpl.2 hm
           clear st3 fr3 ht3 t1 t2 t3 hh3
           go_wp2_with (go_at_call 28;refine (nextV_ok hA3).mono ?_;rintro e w4 ⟨rfl,m4,rfl⟩)
           refine Calls.mono (close_ok2 hC (v3.drewN m4) (S3.out.frame (w':=w3.drewN m4) (fun _ _ _=>rfl) (Nat.le_refl _)) (by omega) (by omega) (by obtain ⟨c,hc,hcn'⟩:=hcn.out;have:=hcn' h (by simp);omega)) ?_
           rintro e w5 ⟨⟨T5,u5⟩,rfl,hav5,fr5⟩
           have HAV5:Aside _:=hav5
           clear hav5
           simp only [iv]
           go_wp2_with fail
           go_roundg k'
           case measure=>omega
           case rel =>
            refine ⟨q+1,lo,T5,u5,h3.text,rfl,by omega,by omega,by omega,by omega,?_,HAV5,(f3.drewN m4).trans fr5 (fun _ _ e=>e),?_⟩
            ·obtain ⟨c,hc,hcn'⟩:=hcn.out
             exact ⟨c,by omega,fun x hx=>hcn' x (by simp [hx])⟩
            ·show _=_
             rw [text_abs,ha3]
             exact HR2.out
          ·rw [if_neg (by intro e;exact ncl e)] at hr'
           have bcl:(byteAt s q == 93)=false:=by simpa using ncl
           have HR2:Hid _:=hr'
           clear hr' n44 ncl
           go_wp2_with fail
           refine Calls.mono HSK2.out ?_
           rintro e w2 ⟨rfl,v2,fr2⟩
           have s2:Aside (Stk w2 vb (.slice (some ⟨g,0,none⟩) (lo.length+1) cap) (lo ++ [h])):=ST.out.frame fr2.vb fr2.size
           have vl2:Aside (Vl w2 (Done w2 vb (.slice (some ⟨g,0,none⟩) (lo.length+1) cap) (lo ++ [h])) (T,u) t):=Vl.frame VL.out fr2.vb fr2.size
           have f2:Fr (fun b=>vb≤b) w w2:=hfr.trans fr2 (fun _ _ e=>by omega)
           obtain ⟨x0,x1,x2,y0,y1,y2,xl⟩:=three_facts' v2
           have hz0:(((lo.length+1:Nat):Int) == 0)=false:=by simp;omega
           go_wp2_with fail
           go_quiet (fail)
           go_wp2_with fail
           refine Calls.mono (add_arr (s2.out.frame (w':=w2.drewN nq) (fun _ _ _=>rfl) (Nat.le_refl _)) (Vl.frame (w':=w2.drewN nq) vl2.out (fun _ _ _=>rfl) (Nat.le_refl _)) ho hcount) ?_
           rintro e w3 ⟨rfl,⟨row,st3⟩,fr3⟩
           obtain ⟨h3,hh3⟩:∃ h3,h.add row (T,u) t=h3:=⟨_,rfl⟩
           rw [hh3] at st3
           have ha3:h3.abs=h.abs.add t:=by rw [← hh3];exact add_abs h row (T,u) t
           have ho3:h3.obj=false:=by rw [← hh3];unfold Hd.add;rw [ho];first | exact ho | rfl
           have hc3:h3.its.length≤h.its.length+1∧h3.ms.length≤h.ms.length+1:=by rw [← hh3];unfold Hd.add;split <;> simp
           have v3:VBlk w3 vb s q (.slice (some ⟨g,0,none⟩) (lo.length+1) cap):=(v2.drewN nq).same (fr3.block vb (by simpa using xl) (by omega))
           have f3:Fr (fun b=>vb≤b) w w3:=(f2.drewN nq).trans fr3 (fun _ _ e=>by omega)
           have S3:Aside (Stk w3 vb (.slice (some ⟨g,0,none⟩) (lo.length+1) cap) (lo ++ [h3])):=st3
           obtain ⟨g',cap',e',_,_,_,ht3⟩:=st3.top
           cases e'
           obtain ⟨t0,t1,t2,t3,tf,tl⟩:=ht3.facts
           simp only [ho3,Bool.false_eq_true,if_false] at t0
           obtain ⟨z0,z1,z2,j0,j1,j2,zl⟩:=three_facts' v3
           have hA3:=v3.va hpl.2 hm
           clear st3 fr3 ht3 t1 t2 t3 hh3
           go_wp2_with (go_at_call 28;refine (nextV_ok hA3).mono ?_;rintro e w4 ⟨rfl,m4,rfl⟩)
           simp only [Exit.noGoto]
           refine bodyPost_ret (v:=.tuple #[.nilIface,.bool false]) (by simp [results,Tryz.results12,go_sem]) rfl ?_
           rw [← HR2.out]
           exact ⟨⟨⟨_,rfl⟩,_,v3.drewN _⟩,f3.drewN _⟩
        | true =>
         have hab:h.abs.obj=true:=ho
         rw [hab] at hr'
         have hcount:h.ms.length≤10000000:=by
          obtain ⟨c,hc,hcn'⟩:=hcn.out
          have:=hcn' h (by simp)
          omega
         by_cases n44:byteAt s q=44
         ·rw [if_pos n44] at hr'
          have b44:(byteAt s q == 44)=true:=by simpa using n44
          have hqlt:q < s.size:=byte_pos (by rw [n44];omega)
          rw [if_pos rfl] at hr'
          have hkl:=keyAt_le (s:=s) (a:=q+1) (by omega)
          have hkg:=keyAt_go (s:=s) (a:=q+1) (by omega)
          obtain ⟨Ky,hKy⟩:∃ Ky,keyAt s (q+1)=Ky:=⟨_,rfl⟩
          rw [hKy] at hr' hkl hkg
          have HKY:Hid _:=hKy
          obtain ⟨kb,kp,kok⟩:=Ky
          simp only at hr' hkl hkg
          have HR2:Hid _:=hr'
          clear hr' n44 hKy
          go_wp2_with fail
          refine Calls.mono HSK2.out ?_
          rintro e w2 ⟨rfl,v2,fr2⟩
          have s2:Aside (Stk w2 vb (.slice (some ⟨g,0,none⟩) (lo.length+1) cap) (lo ++ [h])):=ST.out.frame fr2.vb fr2.size
          have vl2:Aside (Vl w2 (Done w2 vb (.slice (some ⟨g,0,none⟩) (lo.length+1) cap) (lo ++ [h])) (T,u) t):=Vl.frame VL.out fr2.vb fr2.size
          have f2:Fr (fun b=>vb≤b) w w2:=hfr.trans fr2 (fun _ _ e=>by omega)
          obtain ⟨x0,x1,x2,y0,y1,y2,xl⟩:=three_facts' v2
          have hz0:(((lo.length+1:Nat):Int) == 0)=false:=by simp;omega
          go_wp2_with fail
          go_quiet (fail)
          go_wp2_with fail
          refine Calls.mono (add_obj (s2.out.frame (w':=w2.drewN nq) (fun _ _ _=>rfl) (Nat.le_refl _)) (Vl.frame (w':=w2.drewN nq) vl2.out (fun _ _ _=>rfl) (Nat.le_refl _)) ho hcount) ?_
          rintro e w3 ⟨rfl,⟨row,st3⟩,fr3⟩
          obtain ⟨h3,hh3⟩:∃ h3,h.add row (T,u) t=h3:=⟨_,rfl⟩
          rw [hh3] at st3
          have ha3:h3.abs=h.abs.add t:=by rw [← hh3];exact add_abs h row (T,u) t
          have ho3:h3.obj=true:=by rw [← hh3];unfold Hd.add;rw [ho];first | exact ho | rfl
          have hc3:h3.its.length≤h.its.length+1∧h3.ms.length≤h.ms.length+1:=by rw [← hh3];unfold Hd.add;split <;> simp
          have v3:VBlk w3 vb s q (.slice (some ⟨g,0,none⟩) (lo.length+1) cap):=(v2.drewN nq).same (fr3.block vb (by simpa using xl) (by omega))
          have f3:Fr (fun b=>vb≤b) w w3:=(f2.drewN nq).trans fr3 (fun _ _ e=>by omega)
          have S3:Aside (Stk w3 vb (.slice (some ⟨g,0,none⟩) (lo.length+1) cap) (lo ++ [h3])):=st3
          obtain ⟨g',cap',e',_,_,_,ht3⟩:=st3.top
          cases e'
          obtain ⟨t0,t1,t2,t3,tf,tl⟩:=ht3.facts
          simp only [ho3,if_true] at t0
          obtain ⟨z0,z1,z2,j0,j1,j2,zl⟩:=three_facts' v3
          have hA3:=v3.va hpl.2 hm
          clear st3 fr3 ht3 t1 t2 t3 hh3
          go_wp2_with (go_at_call 28;refine (nextV_ok hA3).mono ?_;rintro e w4 ⟨rfl,m4,rfl⟩)
          have v5:VBlk ((w3.drewN m4).setCell ⟨vb,1,none⟩ (.int .i64 ((q:Int)+1))) vb s (q+1) (.slice (some ⟨g,0,none⟩) (lo.length+1) cap):=(v3.drewN m4).set (b:=q+1)
          have s5:Stk ((w3.drewN m4).setCell ⟨vb,1,none⟩ (.int .i64 ((q:Int)+1))) vb (.slice (some ⟨g,0,none⟩) (lo.length+1) cap) (lo ++ [h3]):=S3.out.frame (fun b hb _=>Below.heap_setCell _ _ _ _ (by simp;omega)) (by simp)
          have s5':Aside (Stk ((w3.drewN m4).setCell ⟨vb,1,none⟩ (.int .i64 ((q:Int)+1))) vb (.slice (some ⟨g,0,none⟩) (lo.length+1) cap) (lo ++ [h3])):=s5
          clear s5
          refine Calls.mono (readKey_ok hA v5 s5'.out (by omega) hm (by omega)) ?_
          rw [HKY.out]
          rintro e w6 ⟨rfl,v6,⟨kk,hk6,hst6⟩,fr6⟩
          simp only at v6 hk6 hst6
          have HST6:Aside (kok=true→Stk w6 vb (.slice (some ⟨g,0,none⟩) (lo.length+1) cap) (lo ++ [{ h3 with key:=kk }])):=hst6
          clear hst6
          have f6:Fr (fun b=>vb≤b) w w6:=((f3.drewN m4).setCell _ (.inl (Nat.le_refl _))).trans fr6 (fun _ _ e=>e)
          cases kok with
          | false =>
           have hr3:(none,kp)=R:=by simpa using HR2.out
           have HR3:Hid ((none,kp)=R):=hr3
           clear hr3
           go_wp2_with fail
           simp only [Exit.noGoto]
           refine bodyPost_ret (v:=.tuple #[.nilIface,.bool false]) (by simp [results,Tryz.results12,go_sem]) rfl ?_
           rw [← HR3.out]
           exact ⟨⟨⟨_,rfl⟩,_,v6⟩,f6⟩
          | true =>
           have hkg':=hkg rfl
           go_wp2_with fail
           go_roundg k'
           case measure=>omega
           case rel =>
            refine ⟨kp,lo ++ [{ h3 with key:=kk }],hkl,by omega,by simp;omega,?_,⟨_,v6,HST6.out (by first | rfl | trivial)⟩,f6,?_⟩
            ·obtain ⟨c,hc,hcn'⟩:=hcn.out
             show CN _ _
             intro x hx
             rcases List.mem_append.1 hx with hx | hx
             ·have:=hcn' x (by simp [hx]);constructor <;> omega
             ·rw [List.mem_singleton] at hx
              subst hx
              have:=hcn' h (by simp)
              constructor <;> (simp only;omega)
            ·show _=_
             rw [absR_app]
             have e1:({ h3 with key:=kk }:Hd).abs = { h3.abs with key:=kb }:=by rw [← hk6];rfl
             rw [e1,ha3]
             have:=HR2.out
             simpa using this
         ·rw [if_neg n44] at hr'
          have b44:(byteAt s q == 44)=false:=by simpa using n44
          by_cases ncl:byteAt s q=125
          ·rw [if_pos (by rw [ncl];rfl)] at hr'
           have bcl:(byteAt s q == 125)=true:=by simpa using ncl
           have hqlt:q < s.size:=byte_pos (by rw [ncl];omega)
           have HR2:Hid _:=hr'
           clear hr' n44 ncl
           go_wp2_with fail
           refine Calls.mono HSK2.out ?_
           rintro e w2 ⟨rfl,v2,fr2⟩
           have s2:Aside (Stk w2 vb (.slice (some ⟨g,0,none⟩) (lo.length+1) cap) (lo ++ [h])):=ST.out.frame fr2.vb fr2.size
           have vl2:Aside (Vl w2 (Done w2 vb (.slice (some ⟨g,0,none⟩) (lo.length+1) cap) (lo ++ [h])) (T,u) t):=Vl.frame VL.out fr2.vb fr2.size
           have f2:Fr (fun b=>vb≤b) w w2:=hfr.trans fr2 (fun _ _ e=>by omega)
           obtain ⟨x0,x1,x2,y0,y1,y2,xl⟩:=three_facts' v2
           have hz0:(((lo.length+1:Nat):Int) == 0)=false:=by simp;omega
           go_wp2_with fail
           go_quiet (fail)
           go_wp2_with fail
           refine Calls.mono (add_obj (s2.out.frame (w':=w2.drewN nq) (fun _ _ _=>rfl) (Nat.le_refl _)) (Vl.frame (w':=w2.drewN nq) vl2.out (fun _ _ _=>rfl) (Nat.le_refl _)) ho hcount) ?_
           rintro e w3 ⟨rfl,⟨row,st3⟩,fr3⟩
           obtain ⟨h3,hh3⟩:∃ h3,h.add row (T,u) t=h3:=⟨_,rfl⟩
           rw [hh3] at st3
           have ha3:h3.abs=h.abs.add t:=by rw [← hh3];exact add_abs h row (T,u) t
           have ho3:h3.obj=true:=by rw [← hh3];unfold Hd.add;rw [ho];first | exact ho | rfl
           have hc3:h3.its.length≤h.its.length+1∧h3.ms.length≤h.ms.length+1:=by rw [← hh3];unfold Hd.add;split <;> simp
           have v3:VBlk w3 vb s q (.slice (some ⟨g,0,none⟩) (lo.length+1) cap):=(v2.drewN nq).same (fr3.block vb (by simpa using xl) (by omega))
           have f3:Fr (fun b=>vb≤b) w w3:=(f2.drewN nq).trans fr3 (fun _ _ e=>by omega)
           have S3:Aside (Stk w3 vb (.slice (some ⟨g,0,none⟩) (lo.length+1) cap) (lo ++ [h3])):=st3
           obtain ⟨g',cap',e',_,_,_,ht3⟩:=st3.top
           cases e'
           obtain ⟨t0,t1,t2,t3,tf,tl⟩:=ht3.facts
           simp only [ho3,if_true] at t0
           obtain ⟨z0,z1,z2,j0,j1,j2,zl⟩:=three_facts' v3
           have hA3:=v3.va hpl.2 hm
           clear st3 fr3 ht3 t1 t2 t3 hh3
           go_wp2_with (go_at_call 28;refine (nextV_ok hA3).mono ?_;rintro e w4 ⟨rfl,m4,rfl⟩)
           refine Calls.mono (close_ok2 hC (v3.drewN m4) (S3.out.frame (w':=w3.drewN m4) (fun _ _ _=>rfl) (Nat.le_refl _)) (by omega) (by omega) (by obtain ⟨c,hc,hcn'⟩:=hcn.out;have:=hcn' h (by simp);omega)) ?_
           rintro e w5 ⟨⟨T5,u5⟩,rfl,hav5,fr5⟩
           have HAV5:Aside _:=hav5
           clear hav5
           simp only [iv]
           go_wp2_with fail
           go_roundg k'
           case measure=>omega
           case rel =>
            refine ⟨q+1,lo,T5,u5,h3.text,rfl,by omega,by omega,by omega,by omega,?_,HAV5,(f3.drewN m4).trans fr5 (fun _ _ e=>e),?_⟩
            ·obtain ⟨c,hc,hcn'⟩:=hcn.out
             exact ⟨c,by omega,fun x hx=>hcn' x (by simp [hx])⟩
            ·show _=_
             rw [text_abs,ha3]
             exact HR2.out
          ·rw [if_neg (by intro e;exact ncl e)] at hr'
           have bcl:(byteAt s q == 125)=false:=by simpa using ncl
           have HR2:Hid _:=hr'
           clear hr' n44 ncl
           go_wp2_with fail
           refine Calls.mono HSK2.out ?_
           rintro e w2 ⟨rfl,v2,fr2⟩
           have s2:Aside (Stk w2 vb (.slice (some ⟨g,0,none⟩) (lo.length+1) cap) (lo ++ [h])):=ST.out.frame fr2.vb fr2.size
           have vl2:Aside (Vl w2 (Done w2 vb (.slice (some ⟨g,0,none⟩) (lo.length+1) cap) (lo ++ [h])) (T,u) t):=Vl.frame VL.out fr2.vb fr2.size
           have f2:Fr (fun b=>vb≤b) w w2:=hfr.trans fr2 (fun _ _ e=>by omega)
           obtain ⟨x0,x1,x2,y0,y1,y2,xl⟩:=three_facts' v2
           have hz0:(((lo.length+1:Nat):Int) == 0)=false:=by simp;omega
           go_wp2_with fail
           go_quiet (fail)
           go_wp2_with fail
           refine Calls.mono (add_obj (s2.out.frame (w':=w2.drewN nq) (fun _ _ _=>rfl) (Nat.le_refl _)) (Vl.frame (w':=w2.drewN nq) vl2.out (fun _ _ _=>rfl) (Nat.le_refl _)) ho hcount) ?_
           rintro e w3 ⟨rfl,⟨row,st3⟩,fr3⟩
           obtain ⟨h3,hh3⟩:∃ h3,h.add row (T,u) t=h3:=⟨_,rfl⟩
           rw [hh3] at st3
           have ha3:h3.abs=h.abs.add t:=by rw [← hh3];exact add_abs h row (T,u) t
           have ho3:h3.obj=true:=by rw [← hh3];unfold Hd.add;rw [ho];first | exact ho | rfl
           have hc3:h3.its.length≤h.its.length+1∧h3.ms.length≤h.ms.length+1:=by rw [← hh3];unfold Hd.add;split <;> simp
           have v3:VBlk w3 vb s q (.slice (some ⟨g,0,none⟩) (lo.length+1) cap):=(v2.drewN nq).same (fr3.block vb (by simpa using xl) (by omega))
           have f3:Fr (fun b=>vb≤b) w w3:=(f2.drewN nq).trans fr3 (fun _ _ e=>by omega)
           have S3:Aside (Stk w3 vb (.slice (some ⟨g,0,none⟩) (lo.length+1) cap) (lo ++ [h3])):=st3
           obtain ⟨g',cap',e',_,_,_,ht3⟩:=st3.top
           cases e'
           obtain ⟨t0,t1,t2,t3,tf,tl⟩:=ht3.facts
           simp only [ho3,if_true] at t0
           obtain ⟨z0,z1,z2,j0,j1,j2,zl⟩:=three_facts' v3
           have hA3:=v3.va hpl.2 hm
           clear st3 fr3 ht3 t1 t2 t3 hh3
           go_wp2_with (go_at_call 28;refine (nextV_ok hA3).mono ?_;rintro e w4 ⟨rfl,m4,rfl⟩)
           simp only [Exit.noGoto]
           refine bodyPost_ret (v:=.tuple #[.nilIface,.bool false]) (by simp [results,Tryz.results12,go_sem]) rfl ?_
           rw [← HR2.out]
           exact ⟨⟨⟨_,rfl⟩,_,v3.drewN _⟩,f3.drewN _⟩
def readL (s:ByteArray):Option Bys×Nat:=runL s (s.size+1) none 0 []
def RdPost (n:Nat) (R:Option Bys×Nat) (e:Ending) (w:World):Prop:=match R.1 with
 | some t=>∃ x:IV,e = .returned (.tuple #[iv x,.int .i64 0,.bool true])∧Vl w (fun b=>n≤b∧b < w.heap.size) x t
 | none=>e = .returned (.tuple #[.nilIface,.int .i64 R.2,.bool false])
theorem read_any (hC:ComparesStr) (hA:AppendsRune) {w:World}{s:ByteArray} (hP:∀ w',Below w.heap.size w w'→ParsesAt w') (hm:s.size≤10000000) :
  Calls Tryz.prog 7 #[.string s] w fun e w'=>RdPost w.heap.size (readL s) e w'∧Below w.heap.size w w':=by
 have hb0:Below w.heap.size w (w.alloc (.cells #[.string s,.int .i64 0,.slice none 0 0] 47)):=below_alloc w _
 have hv0:VBlk (w.alloc (.cells #[.string s,.int .i64 0,.slice none 0 0] 47)) w.heap.size s 0 (.slice none 0 0):=heap_new w _
 have hw:=whole_ok hC hA (vb:=w.heap.size) (w0:=w) (s:=s) hP hb0 ⟨_,hv0,stk_nil _ _⟩ hm
 have hw:Calls Tryz.prog 12 #[.pointer (some ⟨w.heap.size,0,none⟩)] (w.alloc (.cells #[.string s,.int .i64 0,.slice none 0 0] 47)) fun e w'=>WhPost w.heap.size s (readL s) e w'∧Fr (fun b=>w.heap.size≤b) (w.alloc (.cells #[.string s,.int .i64 0,.slice none 0 0] 47)) w':=hw
 obtain ⟨R,hR⟩:∃ R,readL s=R:=⟨_,rfl⟩
 rw [hR] at hw ⊢
 have HW:Aside (Calls Tryz.prog 12 #[.pointer (some ⟨w.heap.size,0,none⟩)] (w.alloc (.cells #[.string s,.int .i64 0,.slice none 0 0] 47)) fun e w'=>WhPost w.heap.size s R e w'∧Fr (fun b=>w.heap.size≤b) (w.alloc (.cells #[.string s,.int .i64 0,.slice none 0 0] 47)) w'):=hw
 clear hw hR hP hb0 hv0
 obtain ⟨o,p⟩:=R
 go_enter Tryz.func7,Tryz.ntmps7
 go_wp2_with fail
 refine Calls.mono HW.out ?_
 rintro e w1 ⟨hwp,fr1⟩
 have hB:Below w.heap.size w w1:=fr1.lowN (fun _ e=>e) (below_alloc w _) (by simp)
 have HB:Aside _:=hB
 clear hB fr1
 cases o with
 | some t =>
  obtain ⟨⟨T,u⟩,rfl,hv⟩:=hwp
  simp only [iv]
  go_wp2_with fail
  refine bodyPost_ret (v:=.tuple #[.iface T u,.int .i64 0,.bool true]) (by simp [results,Tryz.results7,go_sem]) rfl ⟨⟨(T,u),rfl,hv.mono (fun b hb=>⟨⟨by omega,hb.2⟩,rfl⟩)⟩,HB.out⟩
 | none =>
  obtain ⟨⟨v,rfl⟩,ov,hv⟩:=hwp
  obtain ⟨c0,c1,c2,f0,f1,f2,hl⟩:=three_facts' hv
  simp only at c1
  go_wp2_with fail
  go_quiet (fail)
  go_wp2_with fail
  refine bodyPost_ret (v:=.tuple #[.nilIface,.int .i64 p,.bool false]) (by simp [results,Tryz.results7,go_sem]) rfl ⟨rfl,HB.out.trans (belowD _ _ _)⟩
end Go.Proofs.Tryz
