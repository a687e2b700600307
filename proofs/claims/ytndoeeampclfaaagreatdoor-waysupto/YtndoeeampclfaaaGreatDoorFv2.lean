import Derived.Test.YtndoeeampclfaaaGreatDoorWe4
import Derived.Test.YtndoeeampclfaaaGreatDoorWj0
import Derived.Test.YtndoeeampclfaaaGreatDoorWk7
import Derived.Test.YtndoeeampclfaaaGreatDoorFz8
set_option linter.all false
namespace Go.Proofs.Tryz
set_option maxHeartbeats 16000000
open Go.RowKit
set_option maxRecDepth 10000
theorem outside_true (w:World):Calls Tryz.prog 263 #[.iface 96 (.bool true),.iface 96 (.bool true)] w fun e w'=>e = .returned (.int .i64 0)∧∃ q,w'=w.drewN q:=by
 have m0:=missVNull;have m1:=missVNumber;have m2:=missVString;have m3:=missVArray;have m4:=missVObject;have m5:=hitVBool
 go_enter Tryz.func263,Tryz.ntmps263
 go_wp2_with (first
  | (go_at_call 293;refine (truth_ok true _).mono ?_;rintro e w1 ⟨rfl,rfl⟩)
  | (go_at_call 265;refine (cmpInt_id _ _).mono ?_;rintro e w3 ⟨rfl,hw3⟩;subst hw3))
 go_ret
 exact ⟨rfl,0,rfl⟩
theorem parts_true (w:World):Calls Tryz.prog 264 #[.iface 96 (.bool true)] w fun e w'=>e = .returned (.slice none 0 0)∧∃ q,w'=w.drewN q:=by
 have m0:=missVNull;have m1:=missVNumber;have m2:=missVString;have m3:=missVArray;have m4:=missVObject;have m5:=hitVBool
 go_enter Tryz.func264,Tryz.ntmps264
 go_wp2_with fail
 go_ret
 exact ⟨rfl,0,rfl⟩
theorem Compare_true (w:World):Calls Tryz.prog 223 #[.iface 96 (.bool true),.iface 96 (.bool true)] w fun e w'=>e = .returned (.int .i64 0)∧∃ q,w'=w.drewN q:=by
 go_enter Tryz.func223,Tryz.ntmps223
 go_wp2_with fail
 go_step3
 go_wp2_with fail
 go_step3
 go_wp2_with fail
 refine wp_loop_rounds 1 ?_
 rw [rounds_succ]
 go_wp2_with (first
  | (go_at_call 263;refine (outside_true _).mono ?_;rintro e w1 ⟨rfl,q1,hw1⟩;subst hw1)
  | (go_at_call 264;refine (parts_true _).mono ?_;rintro e w2 ⟨rfl,q2,hw2⟩;subst hw2))
 refine wp_loop_rounds 1 ?_
 rw [rounds_succ]
 go_wp2_with fail
 simp only [Exit.noGoto]
 exact bodyPost_ret (v:=.int .i64 0) (by simp [results,Tryz.results223,go_sem]) rfl ⟨rfl,_,rfl⟩
end Go.Proofs.Tryz
namespace Go.Proofs.Tryz
set_option maxHeartbeats 16000000
open Go.RowKit
set_option maxRecDepth 10000
theorem row_cnt {w:World}{N e s n:Nat}{v:Value}{xs:List Value} (h:w.ownsRow N e s v n xs):n≤9223372036854775807:=by
 rcases h.2 with ⟨_,h0⟩ | ⟨g,cap,cur,_,_,_,hn,hm,_,_⟩
 ·omega
 ·have:cap≤9223372036854775807:=by simpa [maxLen] using hm
  omega
theorem FOk.cnt {w:World}{W:Nat}{f:Fm} (h:FOk w W f):f.texts.length≤9223372036854775807:=by
 have h1:=h.1
 by_cases ho:f.obj=true
 ·rw [if_pos ho] at h1
  rw [texts_len_obj ho]
  exact row_cnt h1.1
 ·rw [if_neg ho] at h1
  rw [texts_len_arr (by simpa using ho)]
  exact row_cnt h1.1
theorem rest_pos (f:Fm):1≤f.rest.length:=by unfold Fm.rest;rw [List.length_append,List.length_singleton];omega
theorem restAll_len (fs:List Fm):fs.length≤(restAll fs).length:=by
 induction fs with
 | nil=>simp [restAll]
 | cons f fs ih =>
  have:=rest_pos f
  simp only [restAll,List.reverse_cons,List.flatMap_append,List.length_append,List.length_cons,List.flatMap_cons,List.flatMap_nil,List.append_nil] at ih ⊢
  omega
theorem step_ok (hA:AppendsIntK) {w:World}{B W:Nat}{out:Bys}{fs:List Fm} (h:WS w B W out fs) (hne:fs≠[]) (ho:out.length≤8000000000) (hr:(restAll fs).length≤1000000000) (ht:Lib.TabBelow Tryz.prog W w "internal/strconv.uint64pow10" .u64 Lib.pow10Tab) :
  Calls Tryz.prog 14 #[.pointer (some ⟨W,0,none⟩)] w fun e w'=>e = .returned (.tuple #[])∧StepW B W out fs w w':=by
 obtain ⟨lo,f,rfl⟩:∃ lo f,fs=lo ++ [f]:=⟨fs.dropLast,fs.getLast hne,(List.dropLast_concat_getLast hne).symm⟩
 have hok:=h.ok f (by simp)
 have hcnt:=hok.cnt
 have hnx:=hok.2.2
 rw [restAll_app,List.length_append] at hr
 have hlo:=restAll_len lo
 by_cases hend:f.next=f.texts.length
 ·cases hob:f.obj with
  | false=>exact step_end_arr h hend hob (by omega) (by omega) hcnt
  | true=>exact step_end_obj h hend hob (by omega) (by omega) hcnt
 ·by_cases h0:f.next=0
  ·cases hob:f.obj with
   | false=>exact step_arr0 hA h (by omega) h0 hob (by omega) (by omega) hcnt ht
   | true=>exact step_obj0 hA h (by omega) h0 hob (by omega) (by omega) hcnt (by omega) ht
  ·cases hob:f.obj with
   | false=>exact step_arrN hA h (by omega) (by omega) hob (by omega) (by omega) hcnt ht
   | true=>exact step_objN hA h (by omega) (by omega) hob (by omega) (by omega) hcnt (by omega) ht
def WrI (B W:Nat) (c:Bys) (w:World) (out:Bys) (fs:List Fm):Prop:=WS w B W out fs∧out ++ restAll fs=c
theorem WrI.len {B W:Nat}{c:Bys}{w:World}{out:Bys}{fs:List Fm} (h:WrI B W c w out fs):out.length+(restAll fs).length=c.length:=by
 rw [← h.2,List.length_append]
theorem Canonical_any (hA:AppendsIntK) {w:World}{v:IV}{c:Bys} (hv:Vl w (· < w.heap.size) v c) (hc:c.length≤1000000000) (hne:c≠[]) (ht:Lib.TabBelow Tryz.prog w.heap.size w "internal/strconv.uint64pow10" .u64 Lib.pow10Tab) :
  Calls Tryz.prog 8 #[iv v] w fun e w'=>e = .returned (.string ⟨c.toArray⟩)∧Below w.heap.size w w':=by
 have hbA:Below w.heap.size w (w.alloc (.cells #[.slice none 0 0,.slice none 0 0] 53)):=below_alloc w _
 have hW0:WS (w.alloc (.cells #[.slice none 0 0,.slice none 0 0] 53)) (w.heap.size+1) w.heap.size [] []:=⟨by omega,by simp,⟨_,_,heap_new w _,World.ownsRow_nil _ _ _ _,World.ownsRow_nil _ _ _ _⟩,by simp⟩
 have hbe:=wbegin_any hA (v:=v) (c:=c) (hv.mono (fun q hq=>⟨hq,hbA.block q hq⟩)) hW0 (by simp) (by simp) (fun w' h'=>ht w' (hbA.trans (h'.mono (by omega))))
 obtain ⟨T,u⟩:=v
 have hst:∀ w1,Fr (fun k=>k=w.heap.size∨w.heap.size+1≤k) (w.alloc (.cells #[.slice none 0 0,.slice none 0 0] 53)) w1→Below w.heap.size w w1:=fun w1 hf=>hbA.trans ⟨hf.os,hf.tape,hf.output,hf.size,fun k hk=>hf.block k (by simp;omega) (by rintro (e | e) <;> omega)⟩
 have hstep:∀ w1 out fs,WrI (w.heap.size+1) w.heap.size c w1 out fs→fs≠[]→Below w.heap.size w w1→Calls Tryz.prog 14 #[.pointer (some ⟨w.heap.size,0,none⟩)] w1 fun e w'=>e = .returned (.tuple #[])∧(∃ out' fs',WrI (w.heap.size+1) w.heap.size c w' out' fs'∧out.length < out'.length)∧Fr (fun k=>k=w.heap.size∨w.heap.size+1≤k) w1 w':=fun w1 out fs hI hne hb=>by
  have hl:=hI.len
  refine (step_ok hA hI.1 hne (by omega) (by omega) (fun w' h'=>ht w' (hb.trans h'))).mono ?_
  rintro e w' ⟨rfl,⟨out',fs',h1,h2,h3⟩,h4⟩
  exact ⟨rfl,⟨out',fs',⟨h1,h2.trans hI.2⟩,h3⟩,h4⟩
 have HST:Aside _:=hst
 have HSTEP:Aside _:=hstep
 have HBE:Aside _:=hbe
 clear hst hstep hbe hv ht hW0 hbA
 go_enter Tryz.func8,Tryz.ntmps8
 go_wp2_with fail
 refine Calls.mono HBE.out ?_
 rintro e w1 ⟨rfl,⟨⟨out1,new1,hws1,hr1,_⟩,fr1⟩⟩
 have hI1:WrI (w.heap.size+1) w.heap.size c w1 out1 new1:=⟨by simpa using hws1,by simpa [restAll] using hr1⟩
 have HI1:Aside _:=hI1
 have FR1:Aside _:=fr1
 clear hI1 fr1 hws1 hr1
 go_wp2_with fail
 go_loopg [9] c.length (fun k v9 wr=>∃ (out:Bys) (fs:List Fm),c.length≤out.length+k∧Aside (WrI (w.heap.size+1) w.heap.size c wr out fs)∧Aside (Fr (fun k=>k=w.heap.size∨w.heap.size+1≤k) (w.alloc (.cells #[.slice none 0 0,.slice none 0 0] 53)) wr))
 case atStart=>exact ⟨out1,new1,by omega,HI1,FR1⟩
 case round =>
  obtain ⟨out,fs,hk,HI,HF⟩:=hrel
  obtain ⟨ov,pv,hb,hown,hpv⟩:=HI.out.1.has
  obtain ⟨c0,c1,c2,c3,c4⟩:=two_c0 hb
  have hlen:=HI.out.len
  obtain ⟨ra,rc,rfl⟩:∃ ra rc,pv = .slice ra fs.length rc:=by
   rcases hpv.2 with ⟨e,h0⟩ | ⟨g',c',cur,e,_⟩
   ·exact ⟨none,0,by rw [e,h0]⟩
   ·exact ⟨_,_,e⟩
  obtain ⟨oa,ol,oc,rfl⟩:=owns_shape hown
  by_cases hfs:fs=[]
  ·subst hfs
   have hoc:out=c:=by have:=HI.out.2;simpa [restAll] using this
   subst hoc
   obtain ⟨g,cp,hge,hcb⟩:=owns_bytes hown hne
   cases hge
   have hcv:=run_convert_bytes_back (P:=Tryz.prog) wr 50 9 5 ⟨g,0,none⟩ oc out Tryz.underlying50 Tryz.underlying5 Tryz.underlying9 hcb
   simp only [List.length_nil] at c1
   clear hcb hown hpv hb
   go_wp2_with fail
   go_ret
   exact ⟨rfl,HST.out _ HF.out⟩
  ·obtain ⟨n,hn⟩:∃ n,fs.length=n:=⟨_,rfl⟩
   have hn0:(0:Int) < (n:Int):=by have:=List.length_pos_iff.2 hfs;omega
   rw [hn] at c1
   have HS:Aside _:=HSTEP.out wr out fs HI.out hfs (HST.out _ HF.out)
   clear hown hpv hb hn
   go_wp2_with fail
   refine Calls.mono HS.out ?_
   rintro e w2 ⟨rfl,⟨out',fs',hI',hlt'⟩,hf'⟩
   have hl':=hI'.len
   have HI':Aside _:=hI'
   have HF':Aside _:=hf'
   clear hI' hf'
   go_wp2_with fail
   go_roundg (c.length - out'.length)
   case measure=>omega
   case rel=>exact ⟨out',fs',by omega,HI',HF.out.trans HF'.out (fun _ _ e=>e)⟩
end Go.Proofs.Tryz
namespace Go.Proofs.Tryz
set_option maxHeartbeats 16000000
open Go.RowKit
set_option maxRecDepth 10000
theorem blanks_spec {s:ByteArray}:∀ (k a:Nat),s.size < a+k→a≤s.size→(∀ i,a≤i→i < blanksV s k a→blankB (byteAt s i)=true)∧blankB (byteAt s (blanksV s k a))=false
 | 0,a,h,h'=>by omega
 | k+1,a,h,h'=>by
  rw [blanksV]
  split
  ·rename_i hb
   have hlt:=blank_lt hb
   obtain ⟨h1,h2⟩:=blanks_spec (s:=s) k (a+1) (by omega) (by omega)
   refine ⟨fun i hi hi2=>?_,h2⟩
   by_cases e:i=a
   ·rw [e];exact hb
   ·exact h1 i (by omega) hi2
  ·rename_i hb
   exact ⟨fun i hi hi2=>by omega,by simpa using hb⟩
theorem blanks_char {s:ByteArray}{b:Nat} (hb:blankB (byteAt s b)=false):∀ (n k a:Nat),a+n=b→n < k→(∀ i,a≤i→i < b→blankB (byteAt s i)=true)→blanksV s k a=b
 | 0,0,a,_,hk,_=>by omega
 | 0,k+1,a,e,hk,h=>by
  rw [Nat.add_zero] at e
  rw [blanksV,e,hb]
  simp
 | n+1,0,a,e,hk,h=>by omega
 | n+1,k+1,a,e,hk,h=>by
  rw [blanksV,if_pos (h a (by omega) (by omega)),blanks_char hb n k (a+1) (by omega) (by omega) (fun i hi hi2=>h i (by omega) hi2)]
theorem blk_spec {s:ByteArray}{a:Nat} (h:a≤s.size):(∀ i,a≤i→i < blk s a→blankB (byteAt s i)=true)∧blankB (byteAt s (blk s a))=false:=blanks_spec _ _ (by omega) h
theorem blk_char {s:ByteArray}{a b:Nat} (hab:a≤b) (hs:b≤s.size) (hb:blankB (byteAt s b)=false) (h:∀ i,a≤i→i < b→blankB (byteAt s i)=true):blk s a=b :=
 blanks_char hb (b - a) _ a (by omega) (by omega) h
structure Around (s t:ByteArray) (d:Nat):Prop where
 byte:∀ i,i < s.size→byteAt t (i+d)=byteAt s i
 size:s.size+d < t.size
 post:∀ i,s.size+d≤i→i < t.size→blankB (byteAt t i)=true
 part:∀ a n,a+n≤s.size→(t.data.toList.drop (a+d)).take n=(s.data.toList.drop a).take n
variable {s t : ByteArray} {d : Nat}
theorem Around.pos (h:Around s t d) {i:Nat} (hb:byteAt s i≠0):byteAt t (i+d)=byteAt s i:=h.byte i (byte_pos hb)
theorem Around.blk (h:Around s t d) {a:Nat} (ha:a≤s.size) (hb:blk s a < s.size):blk t (a+d)=blk s a+d:=by
 obtain ⟨h1,h2⟩:=blk_spec ha
 have h3:=blk_le ha
 have:=h.size
 refine blk_char (by omega) (by omega) (by rw [h.byte _ hb];exact h2) (fun i hi hi2=>?_)
 have:=h1 (i - d) (by omega) (by omega)
 rw [← h.byte (i - d) (by omega),show i - d+d=i by omega] at this
 exact this
theorem Around.blkEnd (h:Around s t d) {a:Nat} (ha:a≤s.size) (hb:Go.Proofs.Tryz.blk s a=s.size):Go.Proofs.Tryz.blk t (a+d)=t.size:=by
 obtain ⟨h1,h2⟩:=blk_spec ha
 have:=h.size
 refine blk_char (by omega) (by omega) (by rw [byteAt_end (by omega)];rfl) (fun i hi hi2=>?_)
 by_cases hlt:i < s.size+d
 ·have:=h1 (i - d) (by omega) (by omega)
  rw [← h.byte (i - d) (by omega),show i - d+d=i by omega] at this
  exact this
 ·exact h.post i (by omega) hi2
theorem Around.blkAt (h:Around s t d) {a:Nat} (ha:a≤s.size) (hb:byteAt s (Go.Proofs.Tryz.blk s a)≠0):Go.Proofs.Tryz.blk t (a+d)=Go.Proofs.Tryz.blk s a+d∧byteAt t (Go.Proofs.Tryz.blk s a+d)=byteAt s (Go.Proofs.Tryz.blk s a) :=
 ⟨h.blk ha (byte_pos hb),h.pos hb⟩
theorem Around.word (h:Around s t d) {wd:ByteArray} (hz:∀ i,i < wd.size→byteAt wd i≠0):∀ (k i a:Nat),i+k≤wd.size→(wordV s wd k i a).2=true→wordV t wd k i (a+d)=((wordV s wd k i a).1+d,true)
 | 0,_,_,_,_=>rfl
 | k+1,i,a,hi,hok=>by
  rw [wordV] at hok ⊢
  split at hok
  ·rename_i e
   rw [wordV,if_pos e]
   rw [if_pos (by rw [h.pos (by rw [e];exact hz i (by omega)),e]),show a+d+1=a+1+d by omega]
   exact h.word hz k (i+1) (a+1) (by omega) hok
  ·cases hok
theorem Around.tail (h:Around s t d):∀ (k a:Nat) (lo hi:Int),a≤s.size→(tailL s k a lo hi).2=true→tailL t k (a+d) lo hi=((tailL s k a lo hi).1+d,true)
 | 0,_,_,_,_,_=>rfl
 | k+1,a,lo,hi,ha,hok=>by
  have hz:=h.size
  rw [tailL] at hok ⊢
  split at hok
  ·cases hok
  ·rename_i h0
   rw [tailL,if_neg h0]
   split at hok
   ·cases hok
   ·rename_i h1
    rw [if_neg h1]
    split at hok
    ·cases hok
    ·rename_i h2
     rw [if_neg h2,if_neg (by omega),h.byte a (by omega),if_neg h1,if_neg h2,show a+d+1=a+1+d by omega]
     exact h.tail k (a+1) 128 191 (by omega) hok
theorem Around.half (h:Around s t d) {start:Nat}{first:Int}:∀ (k i:Nat) (sec:Int),(halfL s start first k i sec).2.2=true→halfL t (start+d) first k i sec=((halfL s start first k i sec).1,(halfL s start first k i sec).2.1+d,true)
 | 0,_,_,_=>by
  simp only [halfL]
  congr 2
  omega
 | k+1,i,sec,hok=>by
  have hz:=h.size
  have hp:byteAt s (start+6+i)≠0→byteAt t (start+d+6+i)=byteAt s (start+6+i)∧¬ start+d+6+i=t.size:=fun hb=>by
   have h1:=h.pos hb
   have:=byte_pos hb
   rw [show start+6+i+d=start+d+6+i by omega] at h1
   exact ⟨h1,by omega⟩
  rw [halfL] at hok ⊢
  split at hok
  ·cases hok
  ·rename_i hz0
   rw [halfL,if_neg hz0]
   split at hok
   ·rename_i h0
    rw [if_pos h0,if_pos h0]
    split at hok
    ·rename_i h1
     obtain ⟨e1,e2⟩:=hp (by rw [h1];omega)
     rw [if_pos h1,if_neg e2,e1,if_pos h1]
     exact h.half k _ _ hok
    ·cases hok
   ·rename_i h0
    rw [if_neg h0,if_neg h0]
    split at hok
    ·rename_i h1
     rw [if_pos h1,if_pos h1]
     split at hok
     ·rename_i h2
      obtain ⟨e1,e2⟩:=hp (by rw [h2];omega)
      rw [if_pos h2,if_neg e2,e1,if_pos h2]
      exact h.half k _ _ hok
     ·cases hok
    ·rename_i h1
     rw [if_neg h1,if_neg h1]
     cases hd:hexV (byteAt s (start+6+i)) with
     | none=>rw [hd] at hok;cases hok
     | some x =>
      obtain ⟨e1,e2⟩:=hp (fun e=>by rw [e] at hd;cases hd)
      rw [hd] at hok
      rw [if_neg e2,e1,hd]
      simp only at hok ⊢
      split at hok
      ·rename_i h2
       rw [if_pos h2,if_pos h2]
       exact h.half k _ _ hok
      ·cases hok
theorem Around.uni (h:Around s t d) {start:Nat}:∀ (k i:Nat) (ch:Int),(uniL s start k i ch).2.2=true→uniL t (start+d) k i ch=((uniL s start k i ch).1,(uniL s start k i ch).2.1+d,true)
 | 0,_,ch,hok=>by
  rw [uniL] at hok ⊢
  rw [uniL]
  split at hok
  ·rename_i h0
   rw [if_pos h0,if_pos h0]
   simp only
   congr 2
   omega
  ·rename_i h0
   rw [if_neg h0,if_neg h0]
   split at hok
   ·rename_i h1
    rw [if_pos h1,if_pos h1]
    simp only
    congr 2
    omega
   ·rename_i h1
    rw [if_neg h1,if_neg h1]
    exact h.half _ _ _ hok
 | k+1,i,ch,hok=>by
  have hz:=h.size
  have hp:byteAt s (start+2+i)≠0→byteAt t (start+d+2+i)=byteAt s (start+2+i)∧¬ start+d+2+i=t.size:=fun hb=>by
   have h1:=h.pos hb
   have:=byte_pos hb
   rw [show start+2+i+d=start+d+2+i by omega] at h1
   exact ⟨h1,by omega⟩
  rw [uniL] at hok ⊢
  split at hok
  ·cases hok
  ·rename_i hz0
   rw [uniL,if_neg hz0]
   cases hd:hexV (byteAt s (start+2+i)) with
   | none=>rw [hd] at hok;cases hok
   | some x =>
    obtain ⟨e1,e2⟩:=hp (fun e=>by rw [e] at hd;cases hd)
    rw [hd] at hok
    rw [if_neg e2,e1,hd]
    simp only at hok ⊢
    split at hok
    ·rename_i h1
     rw [if_pos h1,if_pos h1]
     split at hok
     ·cases hok
     ·rename_i h2
      rw [if_neg h2,if_neg h2]
      exact h.uni k _ _ hok
    ·rename_i h1
     rw [if_neg h1,if_neg h1]
     exact h.uni k _ _ hok
theorem Around.escC (h:Around s t d) {a:Nat}{c:Int} (hok:(Go.Proofs.Tryz.escC s a c).2.2=true):Go.Proofs.Tryz.escC t (a+d) c=((Go.Proofs.Tryz.escC s a c).1,(Go.Proofs.Tryz.escC s a c).2.1+d,true):=by
 unfold Go.Proofs.Tryz.escC at hok ⊢
 by_cases h34:c=34
 ·subst h34
  simp
  omega
 by_cases h92:c=92
 ·subst h92
  simp
  omega
 by_cases h47:c=47
 ·subst h47
  simp
  omega
 by_cases h98:c=98
 ·subst h98
  simp
  omega
 by_cases h102:c=102
 ·subst h102
  simp
  omega
 by_cases h110:c=110
 ·subst h110
  simp
  omega
 by_cases h114:c=114
 ·subst h114
  simp
  omega
 by_cases h116:c=116
 ·subst h116
  simp
  omega
 by_cases h117:c=117
 ·simp only [if_neg h34,if_neg h92,if_neg h47,if_neg h98,if_neg h102,if_neg h110,if_neg h114,if_neg h116,if_pos h117] at hok ⊢
  exact h.uni _ _ _ hok
 ·simp only [if_neg h34,if_neg h92,if_neg h47,if_neg h98,if_neg h102,if_neg h110,if_neg h114,if_neg h116,if_neg h117] at hok
  cases hok
theorem Around.esc (h:Around s t d) {a:Nat} (hok:(escV s a).2.2=true):escV t (a+d)=((escV s a).1,(escV s a).2.1+d,true):=by
 have hz:=h.size
 unfold escV at hok ⊢
 split at hok
 ·cases hok
 ·rename_i h0
  rw [if_neg h0]
  have hb:byteAt s (a+1)≠0:=fun e=>by rw [e] at hok;simp [Go.Proofs.Tryz.escC] at hok
  have h1:=h.pos hb
  have:=byte_pos hb
  rw [show a+1+d=a+d+1 by omega] at h1
  rw [if_neg (by omega),h1]
  exact h.escC hok
theorem Around.str (h:Around s t d):∀ (k k' a:Nat) (cs:Bys),k≤k'→a≤s.size→(strL s k a cs).2.2=true→strL t k' (a+d) cs=((strL s k a cs).1,(strL s k a cs).2.1+d,true)
 | 0,_,_,_,_,_,hok=>by simp [strL] at hok
 | k+1,0,_,_,hk,_,_=>by omega
 | k+1,k'+1,a,cs,hk,ha,hok=>by
  have hz:=h.size
  rw [strL] at hok ⊢
  split at hok
  ·cases hok
  ·rename_i h0
   have hb:=h.byte a (by omega)
   rw [strL,if_neg h0,if_neg (by omega),hb]
   split at hok
   ·rename_i h34
    rw [if_pos h34,if_pos h34]
    simp only
    congr 2
    omega
   ·rename_i h34
    rw [if_neg h34,if_neg h34]
    split at hok
    ·cases hok
    ·rename_i h32
     rw [if_neg h32,if_neg h32]
     split at hok
     ·rename_i h92
      rw [if_pos h92,if_pos h92]
      split at hok
      ·rename_i he
       rw [if_pos he,h.esc he]
       obtain ⟨_,_,q,hq,hq1,hq2⟩:=esc_good (s:=s) (a:=a) (by omega) he
       simp only [if_true]
       rw [hq,Int.toNat_natCast] at hok ⊢
       rw [show ((q:Int)+d).toNat=q+d by omega]
       exact h.str k k' q _ (by omega) hq2 hok
      ·cases hok
     ·rename_i h92
      rw [if_neg h92,if_neg h92]
      split at hok
      ·cases hok
      ·rename_i hf
       rw [if_neg hf,if_neg hf]
       have ht:=tail_place (s:=s) (followV (byteAt s a)).2.2.toNat (a+1) (followV (byteAt s a)).1 (followV (byteAt s a)).2.1 (by omega)
       split at hok
       ·rename_i he
        rw [if_pos he]
        have e1:=h.tail _ (a+1) _ _ (by omega) he
        rw [show a+1+d=a+d+1 by omega] at e1
        rw [e1]
        simp only [if_true]
        rw [show (tailL s (followV (byteAt s a)).2.2.toNat (a+1) (followV (byteAt s a)).1 (followV (byteAt s a)).2.1).1+d - (a+d)=(tailL s (followV (byteAt s a)).2.2.toNat (a+1) (followV (byteAt s a)).1 (followV (byteAt s a)).2.1).1 - a by omega,h.part a _ (by omega)]
        exact h.str k k' _ _ (by omega) ht.2 hok
       ·cases hok
theorem Around.strAt (h:Around s t d) {a:Nat} (ha:a < s.size) (hok:(Go.Proofs.Tryz.strAt s a).2.2=true):Go.Proofs.Tryz.strAt t (a+d)=((Go.Proofs.Tryz.strAt s a).1,(Go.Proofs.Tryz.strAt s a).2.1+d,true):=by
 have hz:=h.size
 obtain ⟨p,e1,e2,e3⟩:=str_go (s.size+1) (a+1) [] (by omega) hok
 have:=h.str (s.size+1) (t.size+1) (a+1) [] (by omega) (by omega) hok
 unfold Go.Proofs.Tryz.strAt
 rw [show a+d+1=a+1+d by omega,this,e1]
 simp only [Int.toNat_natCast]
 congr 2
theorem Around.keyAt (h:Around s t d) {a:Nat} (ha:a≤s.size) (hok:(Go.Proofs.Tryz.keyAt s a).2.2=true):Go.Proofs.Tryz.keyAt t (a+d)=((Go.Proofs.Tryz.keyAt s a).1,(Go.Proofs.Tryz.keyAt s a).2.1+d,true):=by
 unfold Go.Proofs.Tryz.keyAt at hok ⊢
 split at hok
 ·rename_i h34
  obtain ⟨e1,e2⟩:=h.blkAt ha (by rw [h34];omega)
  have hlt:Go.Proofs.Tryz.blk s a < s.size:=byte_pos (by rw [h34];omega)
  rw [if_pos h34,e1,e2,if_pos h34]
  split at hok
  ·rename_i hs
   have h2:=strAt_go hlt hs
   rw [if_pos hs,h.strAt hlt hs]
   simp only [if_true]
   split at hok
   ·rename_i h58
    obtain ⟨e3,e4⟩:=h.blkAt h2.2 (by rw [h58];omega)
    rw [if_pos h58,e3,e4,if_pos h58]
    simp only
    congr 2
    omega
   ·cases hok
  ·cases hok
 ·cases hok
theorem Around.digs (h:Around s t d):∀ (k k' a:Nat),k≤k'→s.size < a+k→a≤s.size→digsV t k' (a+d)=digsV s k a+d
 | 0,_,a,_,h1,h2=>by omega
 | k+1,0,a,hk,_,_=>by omega
 | k+1,k'+1,a,hk,h1,h2=>by
  have hz:=h.size
  rw [digsV,digsV]
  by_cases hlt:a < s.size
  ·rw [h.byte a hlt]
   split
   ·rw [show a+d+1=a+1+d by omega]
    exact h.digs k k' (a+1) (by omega) (by omega) (by omega)
   ·rfl
  ·have e:a=s.size:=by omega
   have h0:digB (byteAt s a)=false:=by rw [byteAt_end (by omega)];rfl
   have h3:digB (byteAt t (a+d))=false:=by
    have:=h.post (a+d) (by omega) (by omega)
    unfold blankB at this
    unfold digB
    simp at this ⊢
    omega
   rw [h0,h3]
   simp
theorem Around.num (h:Around s t d) {p:Nat}{n:Int} (hok:(numL s p).1=some n):numL t (p+d)=(some n,(numL s p).2+d):=by
 have hz:=h.size
 have hgo:=num_go (s:=s) (p:=p) (by rw [hok];rfl)
 unfold numL at hok hgo ⊢
 rw [h.byte p (by omega)]
 obtain ⟨b,hb⟩:∃ b,(if byteAt s p=45 then p+1 else p)=b:=⟨_,rfl⟩
 have hb2:(if byteAt s p=45 then p+d+1 else p+d)=b+d:=by rw [← hb];split <;> omega
 rw [hb] at hok hgo ⊢
 rw [hb2]
 unfold numAt at hok hgo ⊢
 split at hok
 ·rename_i hd
  have hlt:=dig_lt hd
  have hr:=numEnd_range hd
  rw [if_pos hd] at hgo ⊢
  have he:numEnd t (b+d)=numEnd s b+d:=by
   unfold numEnd
   rw [h.byte b hlt]
   split
   ·omega
   ·rw [show b+d+1=b+1+d by omega]
    exact h.digs (s.size+1) (t.size+1) (b+1) (by omega) (by omega) (by omega)
  rw [h.byte b hlt,if_pos hd,he]
  cases hq:parsedV (s.extract p (numEnd s b)).data.toList with
  | none=>rw [hq] at hok;cases hok
  | some m =>
   rw [hq] at hok hgo
   simp only [numP] at hok hgo
   cases hok
   have hx:(t.extract (p+d) (numEnd s b+d)).data.toList=(s.extract p (numEnd s b)).data.toList:=by
    have:=h.part p (numEnd s b - p) (by omega)
    simpa [ByteArray.data_extract,show numEnd s b+d - (p+d)=numEnd s b - p by omega] using this
   rw [hx,hq]
   rfl
 ·cases hok
theorem Around.hold (h:Around s t d) {a n p:Nat}{obj:Bool}{k:Sum Bys HL} (ha:a < s.size) (hp:k.isRight=true→p < s.size) (hok:bhL s a n obj=(p,some k)):bhL t (a+d) n obj=(p+d,some k):=by
 unfold bhL at hok ⊢
 rw [show a+d+1=a+1+d by omega]
 split at hok
 ·cases hok
 ·rename_i hn
  rw [if_neg hn]
  split at hok
  ·rename_i hc
   obtain ⟨e1,e2⟩:=h.blkAt (a:=a+1) (by omega) (by rw [hc];unfold clB;split <;> omega)
   cases hok
   rw [e1,e2,if_pos hc]
   congr 1
   omega
  ·rename_i hc
   split at hok
   ·rename_i ho
    split at hok
    ·rename_i hk
     have h34:byteAt s (Go.Proofs.Tryz.blk s (Go.Proofs.Tryz.blk s (a+1)))=34:=by
      unfold Go.Proofs.Tryz.keyAt at hk
      split at hk
      ·assumption
      ·cases hk
     have h1:=blk_le (s:=s) (a:=a+1) (by omega)
     have e0:Go.Proofs.Tryz.blk s (Go.Proofs.Tryz.blk s (a+1))=Go.Proofs.Tryz.blk s (a+1):=blk_none (blk_spec (by omega)).2
     rw [e0] at h34
     obtain ⟨e1,e2⟩:=h.blkAt (a:=a+1) (by omega) (by rw [h34];omega)
     cases hok
     rw [e1,e2,if_neg hc,if_pos ho,h.keyAt h1.2 hk]
     rfl
    ·cases hok
   ·rename_i ho
    cases hok
    have hlt:=hp rfl
    have e1:=h.blk (a:=a+1) (by omega) hlt
    rw [e1,h.byte _ hlt,if_neg hc,if_neg ho]
theorem Around.beg (h:Around s t d) {a n p:Nat}{k:Sum Bys HL} (ha:a≤s.size) (hp:k.isRight=true→p < s.size) (hok:begL s a n=(p,some k)):begL t (a+d) n=(p+d,some k):=by
 unfold begL at hok ⊢
 have hb:byteAt s (Go.Proofs.Tryz.blk s a)≠0:=fun e=>by rw [e] at hok;simp [begC,digB] at hok
 obtain ⟨e1,e2⟩:=h.blkAt ha hb
 have hlt:=byte_pos hb
 rw [e1,e2]
 obtain ⟨q,hq⟩:∃ q,Go.Proofs.Tryz.blk s a=q:=⟨_,rfl⟩
 rw [hq] at hok hlt ⊢
 have wd:∀ (wd:ByteArray) (x:Bys),(∀ i,i < wd.size→byteAt wd i≠0)→wdL s wd q x=(p,some k)→wdL t wd (q+d) x=(p+d,some k):=fun wd x hz e=>by
  unfold wdL at e ⊢
  split at e
  ·rename_i hw
   cases e
   rw [h.word hz _ _ _ (by omega) hw]
   rfl
  ·cases e
 have nm:numB s q=(p,some k)→numB t (q+d)=(p+d,some k):=fun e=>by
  unfold numB at e ⊢
  cases hn:(numL s q).1 with
  | some n =>
   rw [hn] at e
   cases e
   rw [h.num hn]
  | none=>rw [hn] at e;cases e
 unfold begC at hok ⊢
 split at hok
 ·rename_i hc
  rw [if_pos hc]
  exact wd _ _ (by decide) hok
 ·rename_i hc
  rw [if_neg hc]
  split at hok
  ·rename_i hc
   rw [if_pos hc]
   exact wd _ _ (by decide) hok
  ·rename_i hc
   rw [if_neg hc]
   split at hok
   ·rename_i hc
    rw [if_pos hc]
    exact wd _ _ (by decide) hok
   ·rename_i hc
    rw [if_neg hc]
    split at hok
    ·rename_i hc
     rw [if_pos hc]
     unfold strB at hok ⊢
     split at hok
     ·rename_i hs
      cases hok
      rw [h.strAt hlt hs]
      rfl
     ·cases hok
    ·rename_i hc
     rw [if_neg hc]
     split at hok
     ·rename_i hc
      rw [if_pos hc]
      exact h.hold hlt hp hok
     ·rename_i hc
      rw [if_neg hc]
      split at hok
      ·rename_i hc
       rw [if_pos hc]
       exact h.hold hlt hp hok
      ·rename_i hc
       rw [if_neg hc]
       split at hok
       ·rename_i hc
        rw [if_pos hc]
        exact nm hok
       ·rename_i hc
        rw [if_neg hc]
        split at hok
        ·rename_i hc
         rw [if_pos hc]
         exact nm hok
        ·cases hok
theorem run_more {s:ByteArray}{k a p:Nat}{st:List HL}{c:Bys} (ha:a≤s.size) (h:runL s k none a st=(some c,p)):a < s.size:=by
 cases k with
 | zero=>simp [runL] at h
 | succ k =>
  rw [runL] at h
  rcases Nat.lt_or_ge a s.size with hl | hl
  ·exact hl
  ·have e:begL s a st.length=(a,none):=by
    unfold begL
    rw [blk_none (by rw [byteAt_end hl];rfl),byteAt_end hl]
    rfl
   rw [e] at h
   cases h
theorem Around.run (h:Around s t d):∀ (k k':Nat) (hand:Option Bys) (a:Nat) (st:List HL) (c:Bys) (p:Nat),k≤k'→a≤s.size→runL s k hand a st=(some c,p)→∃ p',runL t k' hand (a+d) st=(some c,p')
 | 0,_,_,_,_,_,_,_,_,e=>by simp [runL] at e
 | k+1,0,_,_,_,_,_,hk,_,_=>by omega
 | k+1,k'+1,none,a,st,c,p,hk,ha,e=>by
  rw [runL] at e ⊢
  cases hR:begL s a st.length with
  | mk q x =>
   rw [hR] at e
   cases x with
   | none=>cases e
   | some x =>
    have hgo:=begL_go ha hR
    cases x with
    | inl u =>
     rw [h.beg ha (by simp) hR]
     exact h.run k k' _ _ _ _ _ (by omega) hgo.2 e
    | inr l =>
     rw [h.beg ha (fun _=>run_more hgo.2 e) hR]
     exact h.run k k' _ _ _ _ _ (by omega) hgo.2 e
 | k+1,k'+1,some u,a,[],c,p,hk,ha,e=>by
  rw [runL] at e ⊢
  split at e
  ·rename_i hb
   cases e
   rw [if_pos (h.blkEnd ha hb)]
   exact ⟨_,rfl⟩
  ·cases e
 | k+1,k'+1,some u,a,l :: st,c,p,hk,ha,e=>by
  have h1:=blk_le ha
  rw [runL] at e ⊢
  split at e
  ·rename_i h44
   have hlt:Go.Proofs.Tryz.blk s a < s.size:=byte_pos (by rw [h44];omega)
   obtain ⟨e1,e2⟩:=h.blkAt ha (by rw [h44];omega)
   rw [e1,e2,if_pos h44]
   split at e
   ·rename_i ho
    rw [if_pos ho]
    split at e
    ·rename_i hky
     have h3:=keyAt_le (s:=s) (a:=Go.Proofs.Tryz.blk s a+1) (by omega)
     rw [show Go.Proofs.Tryz.blk s a+d+1=Go.Proofs.Tryz.blk s a+1+d by omega,h.keyAt (by omega) hky]
     exact h.run k k' _ _ _ _ _ (by omega) h3 e
    ·cases e
   ·rename_i ho
    rw [if_neg ho,show Go.Proofs.Tryz.blk s a+d+1=Go.Proofs.Tryz.blk s a+1+d by omega]
    exact h.run k k' _ _ _ _ _ (by omega) (by omega) e
  ·rename_i h44
   split at e
   ·rename_i hcl
    have hne:byteAt s (Go.Proofs.Tryz.blk s a)≠0:=by rw [hcl];unfold clB;split <;> omega
    have hlt:Go.Proofs.Tryz.blk s a < s.size:=byte_pos hne
    obtain ⟨e1,e2⟩:=h.blkAt ha hne
    rw [e1,e2,if_neg h44,if_pos hcl,show Go.Proofs.Tryz.blk s a+d+1=Go.Proofs.Tryz.blk s a+1+d by omega]
    exact h.run k k' _ _ _ _ _ (by omega) (by omega) e
   ·cases e
end Go.Proofs.Tryz
namespace Go.Proofs.Tryz
set_option maxHeartbeats 16000000
open Go.RowKit
set_option maxRecDepth 100000
theorem Fr.belowN {D:Nat→Prop}{n:Nat}{a w w':World} (h:Fr D w w') (hD:∀ k,D k→n≤k) (hb:Below n a w) (hn:n≤w.heap.size):Below n a w' :=
 hb.trans ⟨h.os,h.tape,h.output,h.size,fun k hk=>h.block k (by omega) (fun e=>by have:=hD k e;omega)⟩
theorem four_facts {w:World}{b:Nat}{x y z v:Value}{t:TypeId} (h:w.heap[b]? = some (.cells #[x,y,z,v] t (0,0))):(w.cell? ⟨b,0,none⟩=some x∧w.cell? ⟨b,1,none⟩=some y∧w.cell? ⟨b,2,none⟩=some z∧w.cell? ⟨b,3,none⟩=some v)∧(w.frozen? ⟨b,0,none⟩=false∧w.frozen? ⟨b,1,none⟩=false∧w.frozen? ⟨b,2,none⟩=false∧w.frozen? ⟨b,3,none⟩=false)∧b < w.heap.size:=by
 refine ⟨⟨?_,?_,?_,?_⟩,⟨?_,?_,?_,?_⟩,lt_of_block h⟩ <;> simp [World.cell?,World.frozen?,h]
def resV (st:Int) (o:Value) (e:ByteArray):Value:=.agg #[.int .u8 st,o,.string e,.int .i64 0]
structure Asks (w:World):Prop where
 cmp:ComparesStr
 rune:AppendsRune
 int:ParsesInt
 app:AppendsIntK
 parse:∀ w',Below w.heap.size w w'→ParsesAt w'
 signs:SignsIn w
 tab:Lib.TabBelow Tryz.prog w.heap.size w "internal/strconv.uint64pow10" .u64 Lib.pow10Tab
theorem Asks.below {w w':World} (h:Asks w) (k:Below w.heap.size w w'):Asks w' :=
 ⟨h.cmp,h.rune,h.int,h.app,fun w2 k2=>h.parse w2 (k.trans (k2.mono k.size)),h.signs.below k,tab_up h.tab k k.size⟩
theorem read_some {w:World} (h:Asks w) {s:ByteArray}{c:Bys}{p:Nat} (hm:s.size≤10000000) (hr:readL s=(some c,p)) :
  Calls Tryz.prog 7 #[.string s] w fun e w'=>(∃ T u,e = .returned (.tuple #[.iface T u,.int .i64 0,.bool true])∧Vl w' (· < w'.heap.size) (T,u) c)∧Below w.heap.size w w':=by
 refine (read_any h.cmp h.rune h.parse hm).mono ?_
 rintro e w' ⟨hp,k⟩
 rw [hr] at hp
 obtain ⟨⟨T,u⟩,he,hv⟩:=hp
 exact ⟨⟨T,u,he,hv.mono (fun g hg=>⟨hg.2,rfl⟩)⟩,k⟩
theorem read_none {w:World} (h:Asks w) {s:ByteArray}{p:Nat} (hm:s.size≤10000000) (hr:readL s=(none,p)) :
  Calls Tryz.prog 7 #[.string s] w fun e w'=>e = .returned (.tuple #[.nilIface,.int .i64 p,.bool false])∧Below w.heap.size w w':=by
 refine (read_any h.cmp h.rune h.parse hm).mono ?_
 rintro e w' ⟨hp,k⟩
 rw [hr] at hp
 exact ⟨hp,k⟩
theorem canon_at {w:World} (h:Asks w) {x:IV}{c:Bys} (hv:Vl w (· < w.heap.size) x c) (hc:c.length≤1000000000) (hne:c≠[]):CanonAt w x ⟨c.toArray⟩:=fun w' k =>
 Canonical_any h.app (hv.mono (fun q hq=>⟨Nat.lt_of_lt_of_le hq k.size,k.block q hq⟩)) hc hne (h.below k).tab
end Go.Proofs.Tryz
namespace Go.Proofs.Tryz
set_option maxHeartbeats 16000000
open Go.RowKit
set_option maxRecDepth 10000
theorem KeptV.set2 {w:World}{b T:Nat}{c:Array Value}{fz:Nat×Nat}{u v:Value} (hb:w.heap[b]? = some (.cells c T fz)) (h1:T≠32) (h2:T≠107):KeptV w ((w.setCell ⟨b,0,none⟩ u).setCell ⟨b,1,none⟩ v):=fun k c' fz' e=>by
 have hne:k≠b:=fun e2=>by
  rw [e2,hb] at e
  rcases e with e | e
  ·cases e;exact h1 rfl
  ·cases e;exact h2 rfl
 rw [Below.heap_setCell _ _ _ _ (by simpa using hne),Below.heap_setCell _ _ _ _ (by simpa using hne)]
theorem must_arr (r:Value) (w:World):Calls Tryz.prog 154 #[.iface 86 r] w fun e w'=>e = .returned r∧w'=w:=by
 have m3:=hitVArray
 go_enter Tryz.func154,Tryz.ntmps154
 go_wp2
 go_ret
 exact ⟨rfl,rfl⟩
theorem spot_at (hC:ComparesStr) {w:World}{x s y:IV} (h:At1 w x s y):Calls Tryz.prog 47 #[.agg #[iv x,.pointer none],iv s] w fun e w'=>e = .returned (.agg #[iv y,.pointer none])∧Below w.heap.size w w' :=
 at_ok (B:=w.heap.size) (w0:=w) (fun w' hs _=>At_ok1 hC (h.keep (fun b c fz e=>hs b (by rcases e with e | e <;> exact lt_of_block e)))) (SameOn.refl _ _) (Nat.le_refl _)
theorem along_ok (hC:ComparesStr) {w:World}{x y:IV}{p:Option Addr}{n c:Nat}{ss:List IV} (h:AtP w x ss y) (hp:Sl w (.slice p n c) ss) (hn:ss.length=n) (hl:n≤100000) :
  Calls Tryz.prog 116 #[.agg #[iv x,.pointer none],.iface 86 (.slice p n c)] w fun e w'=>e = .returned (.agg #[iv y,.pointer none])∧Below w.heap.size w w':=by
 obtain ⟨T,u⟩:=x
 obtain ⟨Ty,uy⟩:=y
 have HN:Hid (ss.length=n):=hn
 have HP:Aside (Sl w (.slice p n c) ss):=hp
 have H:Aside (AtP w (T,u) ss (Ty,uy)):=h
 clear hn hp h
 simp only [iv]
 go_enter Tryz.func116,Tryz.ntmps116
 go_wp2_with (go_at_call 154;refine (must_arr _ _).mono ?_;rintro e w1 ⟨rfl,hw1⟩;subst hw1)
 go_loopg [10] n (fun k v10 wr=>∃ (i T:Nat) (u:Value),i+k=n∧v10 = .int .i64 i∧SpotBox wr w.heap.size (.iface T u)∧SpotBox wr (w.heap.size+1) .nilIface∧Below w.heap.size w wr∧Aside (AtP wr (T,u) (ss.drop i) (Ty,uy)))
 case atStart=>exact ⟨0,T,u,by omega,rfl,(SpotBox.new w _).alloc _,heap_new2' w _ _,below_alloc2 w _ _,H.out.keep (KeptV.of_below (below_alloc2 w _ _))⟩
 case round =>
  obtain ⟨i,T,u,hi,rfl,hb1,hb2,hb,HA⟩:=hrel
  obtain ⟨q0,q1,q2,q3,q4⟩:=hb1.facts
  obtain ⟨r0,r1,r2,r3,r4⟩:=hb2.facts
  match gk,hi with
  | 0,hi =>
   have hz:¬ (i:Int) < (n:Int):=by omega
   have e0:(T,u)=(Ty,uy):=by
    have:=HA.out
    rw [List.drop_of_length_le (by rw [HN.out];omega)] at this
    exact this
   cases e0
   go_wp2_with fail
   exact bodyPost_ret (v:=.agg #[.iface Ty uy,.pointer none]) (by simp [results,Tryz.results116,go_sem,r0,r1,r4]) rfl ⟨rfl,(hb.setCell (p:=⟨w.heap.size+1,0,none⟩) (by simp) _).setCell (p:=⟨w.heap.size+1,1,none⟩) (by simp) _⟩
  | k+1,hi =>
   have hz:(i:Int) < (n:Int):=by omega
   have hlt:i < ss.length:=by rw [HN.out];omega
   obtain ⟨⟨Ts,us⟩,hs⟩:∃ s,ss[i]? = some s:=⟨_,List.getElem?_eq_getElem hlt⟩
   obtain ⟨a,o,rfl,hla,hc⟩:=HP.out.at hs
   simp only [iv] at hc
   have f0:=(hb.cell (p:=⟨a,o+i,none⟩) hla).trans hc
   have hA:=HA.out
   rw [List.drop_eq_getElem_cons hlt,(List.getElem?_eq_some_iff.1 hs).2] at hA
   obtain ⟨⟨Tz,uz⟩,h1,h2⟩:=hA
   have HAT:Aside (Calls Tryz.prog 47 #[.agg #[.iface T u,.pointer none],.iface Ts us] wr fun e w'=>e = .returned (.agg #[.iface Tz uz,.pointer none])∧Below wr.heap.size wr w'):=spot_at hC h1
   have H2:Aside (AtP wr (Tz,uz) (ss.drop (i+1)) (Ty,uy)):=h2
   clear h1 h2 hs hc
   go_wp2_with (go_at_call 47;refine Calls.mono HAT.out ?_;rintro e w1 ⟨rfl,k1⟩;obtain ⟨s0,s1,s2,s3,s4⟩:=(hb1.same (k1.block _ hb1.lt)).facts)
   have c1:SpotBox w1 w.heap.size (.iface T u):=hb1.same (k1.block _ hb1.lt)
   have c2:SpotBox w1 (w.heap.size+1) .nilIface:=hb2.same (k1.block _ hb2.lt)
   have hb':=hb.trans (k1.mono hb.size)
   go_roundg k
   case measure=>omega
   case rel =>
    refine ⟨i+1,Tz,uz,by omega,by simp,two_set1 (two_set0 c1),?_,(hb'.setCell (p:=⟨w.heap.size,0,none⟩) (Nat.le_refl _) _).setCell (p:=⟨w.heap.size,1,none⟩) (Nat.le_refl _) _,H2.out.keep ((KeptV.of_below k1).trans (KeptV.set2 c1 (by decide) (by decide)))⟩
    exact c2.same (by rw [Below.heap_setCell _ _ _ _ (by simp),Below.heap_setCell _ _ _ _ (by simp)])
end Go.Proofs.Tryz
namespace Go.Proofs.Tryz
set_option maxHeartbeats 16000000
open Go.RowKit
set_option maxRecDepth 10000
noncomputable def maskU (U:Nat→Prop) (w:World):World:={ w with heap:=w.heap.mapIdx fun k o=>open Classical in if U k then o else .deferred none }
theorem maskU_at (U:Nat→Prop) (w:World) (k:Nat):(maskU U w).heap[k]? = (w.heap[k]?).map fun o=>open Classical in if U k then o else .deferred none:=by
 unfold maskU
 simp [Array.getElem?_mapIdx]
theorem maskU_in {U:Nat→Prop}{w:World}{k:Nat} (h:U k):(maskU U w).heap[k]? = w.heap[k]?:=by
 rw [maskU_at]
 cases w.heap[k]? with
 | none=>rfl
 | some o=>simp [h]
theorem maskU_cells {U:Nat→Prop}{w:World}{k:Nat}{c:Array Value}{T:Nat}{fz:Nat×Nat} (h:(maskU U w).heap[k]? = some (.cells c T fz)):U k:=by
 refine Classical.byContradiction (fun hn=>?_)
 rw [maskU_at] at h
 cases hw:w.heap[k]? with
 | none=>rw [hw] at h;cases h
 | some o=>rw [hw] at h;simp [hn] at h
theorem maskU_size (U:Nat→Prop) (w:World):(maskU U w).heap.size=w.heap.size:=by simp [maskU]
theorem maskU_same (U:Nat→Prop) (w:World):SameOn U w (maskU U w):=fun _ hk=>maskU_in hk
theorem kept_mask {U:Nat→Prop}{w w':World} (h:SameOn U w w'):KeptV (maskU U w) w':=fun k c fz e=>by
 have hu:U k:=by rcases e with e | e <;> exact maskU_cells e
 rw [maskU_in hu]
 exact h k hu
theorem kept_masks {U U':Nat→Prop}{w w':World} (h:SameOn U w w') (hU:∀ k,U k→U' k):KeptV (maskU U w) (maskU U' w'):=fun k c fz e=>by
 have hu:U k:=by rcases e with e | e <;> exact maskU_cells e
 rw [maskU_in hu,maskU_in (hU k hu)]
 exact h k hu
theorem HoldsP.masked {P:SP}{G:Nat→Prop}{w:World}{s:Sp} (h:HoldsP P G w s):P (maskU G w) s:=h.2 _ (maskU_same G w) (Nat.le_of_eq (maskU_size G w).symm)
theorem At1.fn {w:World}{x s y y':IV} (h:At1 w x s y) (h':At1 w x s y'):y=y':=by
 rcases h with ⟨a,n,c,i,xs,rfl,rfl,e3,e4,e5,e6⟩ | ⟨a,n,c,q,k,tx,L,rfl,rfl,e3,e4,e5,e6⟩
 ·have:=h'.arr e5
  rw [e6] at this
  exact Option.some.inj this
 ·exact h'.obj e5 e4 e6
theorem atP_fn {w:World}:∀ {ss:List IV}{x y y':IV},AtP w x ss y→AtP w x ss y'→y=y'
 | [],_,_,_,h,h'=>by
  have h:_=_:=h
  have h':_=_:=h'
  rw [← h,← h']
 | s :: ss,x,y,y',⟨z,a1,a2⟩,⟨z',b1,b2⟩=>by
  have:=a1.fn b1
  subst this
  exact atP_fn a2 b2
theorem At1.own {w:World}{x s y:IV} (h:At1 w x s y):∃ g c T fz,x.2.ownBlock=some g∧w.heap[g]? = some (.cells c T fz):=by
 rcases h with ⟨a,n,c,i,xs,rfl,rfl,e3,e4,e5,e6⟩ | ⟨a,n,c,q,k,tx,L,rfl,rfl,e3,e4,e5,e6⟩
 ·obtain ⟨cs,fz,hk⟩:=own_kind e5 a rfl
  exact ⟨a,cs,_,fz,rfl,hk⟩
 ·obtain ⟨cs,fz,hk⟩:=own_kind e5 a rfl
  exact ⟨a,cs,_,fz,rfl,hk⟩
theorem WithV.masked {w:World}{x s z y:IV}{U:Nat→Prop} (h:WithV w x s z y) (hx:∀ g,x.2.ownBlock=some g→U g) (hy:∀ g,y.2.ownBlock=some g→U g):WithV (maskU U w) x s z y:=by
 rcases h with ⟨a,n,c,i,g,c',xs,rfl,rfl,e3,e4,e5,rfl,e7⟩ | ⟨a,n,c,q,g,c',k,x0,tx,L,rfl,rfl,e3,e4,e5,e6,rfl,e8⟩
 ·exact .inl ⟨a,n,c,i,g,c',xs,rfl,rfl,e3,e4,owns_same e5 (fun k hk=>maskU_in (hx k hk)),rfl,owns_same e7 (fun k hk=>maskU_in (hy k hk))⟩
 ·exact .inr ⟨a,n,c,q,g,c',k,x0,tx,L,rfl,rfl,e3,e4,e5,owns_same e6 (fun k hk=>maskU_in (hx k hk)),rfl,owns_same e8 (fun k hk=>maskU_in (hy k hk))⟩
theorem WithV.own {w:World}{x s z y:IV} (h:WithV w x s z y):∀ g,y.2.ownBlock=some g→g < w.heap.size:=by
 rcases h with ⟨a,n,c,i,g,c',xs,rfl,rfl,e3,e4,e5,rfl,e7⟩ | ⟨a,n,c,q,g,c',k,x0,tx,L,rfl,rfl,e3,e4,e5,e6,rfl,e8⟩
 ·exact fun g' hg'=>(e7.lt g' hg').2
 ·exact fun g' hg'=>(e8.lt g' hg').2
theorem put_masked {N:Nat}{U:Nat→Prop}{w:World} (hU:∀ k,N≤k→k < w.heap.size→U k):∀ {ss:List IV}{x o z y:IV},AtP (maskU U w) x ss o→Put N w x ss z y→Put N (maskU U w) x ss z y
 | [],_,_,_,_,_,h=>h
 | s :: ss,x,o,z,y,⟨x1',a1,a2⟩,⟨x1,y1,b1,b2,b3,b4⟩=>by
  have e:x1'=x1:=(a1.keep (kept_mask (SameOn.refl U w))).fn b1
  subst e
  obtain ⟨g,c,T,fz,hg,hk⟩:=a1.own
  refine ⟨x1',y1,a1,put_masked hU a2 b2,b3.masked (fun g' hg'=>?_) (fun g' hg'=>hU g' (b4 g' hg') (b3.own g' hg')),b4⟩
  rw [hg] at hg'
  cases hg'
  exact maskU_cells hk
end Go.Proofs.Tryz
namespace Go.Proofs.Tryz
set_option maxHeartbeats 16000000
open Go.RowKit
set_option maxRecDepth 10000
theorem owns_some {w:World}{B e s n:Nat}{r:Value}{xs:List Value} (h:w.ownsRow B e s r n xs) (hn:0 < n):∃ g cap,r = .slice (some ⟨g,0,none⟩) n cap:=by
 rcases h.2 with ⟨_,h0⟩ | ⟨g,cap,cur,e1,_⟩
 ·omega
 ·exact ⟨g,cap,e1⟩
theorem owns_len {w:World}{B e s n m c:Nat}{p:Option Addr}{xs:List Value} (h:w.ownsRow B e s (.slice p n c) m xs):m=n:=by
 rcases h.2 with ⟨e1,h0⟩ | ⟨g,cap,cur,e1,_⟩
 ·cases e1;exact h0
 ·cases e1;rfl
theorem rise_of_keys {L M:List El} (h:RiseE L) (e:L.map (·.1)=M.map (·.1)):RiseE M:=by
 have hL:(L.map (·.1)).Pairwise (fun a b:ByteArray=>klt (elKey ((a,((0,.nilIface):IV),[]):El)) (elKey ((b,((0,.nilIface):IV),[]):El))):=by
  rw [List.pairwise_map]
  exact h
 rw [e,List.pairwise_map] at hL
 exact hL
theorem eqv_at1 {w:World}{d m:Nat}{y x s o:IV} (h:Eqv w d m y x) (ha:At1 w x s o):∃ o' d' m',At1 w y s o'∧Eqv w d' m' o' o:=by
 rcases ha with ⟨a,n,c,i,xs,rfl,rfl,e3,e4,e5,e6⟩ | ⟨a,n,c,q,k,tx,L,rfl,rfl,e3,e4,e5,e6⟩
 ·have nleaf:¬ leafK (86,.slice (some ⟨a,0,none⟩) n c):=fun hl=>by
   rcases hl with e | ⟨_,e⟩ | ⟨_,_,_,e⟩ | ⟨_,e⟩ <;> simp at e
  cases d with
  | zero=>exact absurd (h.2.1 ▸ h.2.2) nleaf
  | succ d =>
   rcases h with ⟨_,h1,h⟩ | ⟨r,r',ts,f1,f2,o1,o2,ht,hs⟩ | ⟨r,r',ts,f1,f2,_⟩
   ·exact absurd (h1 ▸ h) nleaf
   ·simp only [Prod.mk.injEq,true_and] at f2
    subst f2
    have hl:=owns_len o2
    rw [hl] at o1 o2
    obtain ⟨g,cap,rfl⟩:=owns_some o1 (by omega)
    have hrow:=row_one e5 o2
    have h2:(xs.map iv)[i]? = some (iv o):=by simp [e6]
    rw [hrow,List.getElem?_map] at h2
    cases hti:ts[i]? with
    | none=>rw [hti] at h2;cases h2
    | some t =>
     rw [hti] at h2
     simp only [Option.map_some,Option.some.injEq] at h2
     have h3:t.2.1=o:=iv_inj h2
     refine ⟨t.1,d,t.2.2,?_,h3 ▸ ht t (List.mem_of_getElem? hti)⟩
     rw [f1]
     refine .inl ⟨g,n,cap,i,ts.map (·.1),rfl,rfl,e3,e4,?_,by simp [hti]⟩
     rw [List.map_map]
     exact o1
   ·simp at f2
 ·have nleaf:¬ leafK (102,.slice (some ⟨a,0,none⟩) n c):=fun hl=>by
   rcases hl with e | ⟨_,e⟩ | ⟨_,_,_,e⟩ | ⟨_,e⟩ <;> simp at e
  cases d with
  | zero=>exact absurd (h.2.1 ▸ h.2.2) nleaf
  | succ d =>
   rcases h with ⟨_,h1,h⟩ | ⟨r,r',ts,f1,f2,_⟩ | ⟨r,r',ts,f1,f2,o1,o2,ht,hs⟩
   ·exact absurd (h1 ▸ h) nleaf
   ·simp at f2
   ·simp only [Prod.mk.injEq,true_and] at f2
    subst f2
    have hl:=owns_len o2
    have hlL:=owns_len e5
    have hRL:(ts.map twR).length=L.length:=by omega
    have hql:=(List.getElem?_eq_some_iff.1 e6).1
    have hLL:(ts.map twL).length=n:=by rw [List.length_map];rw [List.length_map] at hl;omega
    have o1':=o1
    rw [hLL] at o1'
    obtain ⟨g,cap,rfl⟩:=owns_some o1' (by omega)
    rw [hRL] at o2
    have hm:=elC_one (row_one e5 o2)
    obtain ⟨t,hti⟩:∃ t,ts[q]? = some t:=⟨_,List.getElem?_eq_getElem (by rw [List.length_map] at hRL;omega)⟩
    have h2:(k,o)=(t.1,t.2.2.1):=by
     have:=congrArg (·[q]?) hm
     simp only [List.getElem?_map,hti,e6,Option.map_some,twR,Option.some.injEq] at this
     exact this
    simp only [Prod.mk.injEq] at h2
    obtain ⟨hk,ho⟩:=h2
    refine ⟨t.2.1,d,t.2.2.2,?_,ho ▸ ht t (List.mem_of_getElem? hti)⟩
    rw [f1]
    refine .inr ⟨g,n,cap,q,k,[],ts.map twL,rfl,rfl,e3,rise_of_keys e4 ?_,o1,by simp [hti,twL,hk]⟩
    have h5:=congrArg (List.map (fun x:ByteArray×IV=>x.1)) hm
    simp only [List.map_map] at h5
    simp only [List.map_map]
    exact h5
theorem eqv_at {w:World}:∀ {ss:List IV}{d m:Nat}{y x o:IV},Eqv w d m y x→AtP w x ss o→∃ o',AtP w y ss o'
 | [],_,_,y,_,_,_,_=>⟨y,rfl⟩
 | s :: ss,d,m,y,x,o,h,⟨z,h1,h2⟩=>by
  obtain ⟨z',d',m',g1,g2⟩:=eqv_at1 h h1
  obtain ⟨o',g3⟩:=eqv_at g2 h2
  exact ⟨o',z',g1,g3⟩
end Go.Proofs.Tryz
namespace Go.Proofs.Tryz
set_option maxHeartbeats 16000000
open Go.RowKit
set_option maxRecDepth 100000
def fWP:ByteArray:=⟨#[91,112,97,116,104,40,46,46,41,93]⟩
def tWP:Tr:=(.collect (.call1 ⟨#[112,97,116,104]⟩ .desc 1))
theorem readsWP:readAs fWP=some tWP:=by kernel_rfl
def fW1:ByteArray:=⟨#[91,112,97,116,104,40,46,46,41,32,97,115,32,36,112,32,124,32,103,101,116,112,97,116,104,40,36,112,41,93,32,61,61,32,91,46,46,93]⟩
def tW1:Tr:=(.bin (.collect (.bind (.call1 ⟨#[112,97,116,104]⟩ .desc 1) ⟨#[112]⟩ (.call1 ⟨#[103,101,116,112,97,116,104]⟩ (.var ⟨#[112]⟩ 26) 18))) ⟨#[61,61]⟩ (.collect .desc))
theorem readsW1:readAs fW1=some tW1:=by kernel_rfl
def fW2:ByteArray:=⟨#[46,32,97,115,32,36,118,32,124,32,91,112,97,116,104,40,46,46,41,93,32,124,32,109,97,112,40,46,32,97,115,32,36,112,32,124,32,36,118,32,124,32,115,101,116,112,97,116,104,40,36,112,59,32,91,55,93,41,32,124,32,103,101,116,112,97,116,104,40,36,112,41,41,32,124,32,109,97,112,40,46,32,61,61,32,91,55,93,41,32,124,32,91,116,114,117,101,93,32,43,32,46,32,124,32,115,111,114,116,32,124,32,46,91,48,93]⟩
def tW2:Tr:=(.bind .ident ⟨#[118]⟩ (.bin (.collect (.call1 ⟨#[112,97,116,104]⟩ .desc 11)) ⟨#[124]⟩ (.bin (.call1 ⟨#[109,97,112]⟩ (.bind .ident ⟨#[112]⟩ (.bin (.var ⟨#[118]⟩ 37) ⟨#[124]⟩ (.bin (.call2 ⟨#[115,101,116,112,97,116,104]⟩ (.var ⟨#[112]⟩ 50) (.collect (.num 7)) 42) ⟨#[124]⟩ (.call1 ⟨#[103,101,116,112,97,116,104]⟩ (.var ⟨#[112]⟩ 69) 61)))) 23) ⟨#[124]⟩ (.bin (.call1 ⟨#[109,97,112]⟩ (.bin .ident ⟨#[61,61]⟩ (.collect (.num 7))) 76) ⟨#[124]⟩ (.bin (.bin (.collect (.bool true)) ⟨#[43]⟩ .ident) ⟨#[124]⟩ (.bin (.call0 ⟨#[115,111,114,116]⟩ 105) ⟨#[124]⟩ (.index .ident (.num 0))))))))
theorem readsW2:readAs fW2=some tW2:=by kernel_rfl
def fW3:ByteArray:=⟨#[46,32,97,115,32,36,118,32,124,32,91,112,97,116,104,40,46,46,41,93,32,124,32,109,97,112,40,46,32,97,115,32,36,112,32,124,32,36,118,32,124,32,115,101,116,112,97,116,104,40,36,112,59,32,103,101,116,112,97,116,104,40,36,112,41,41,32,61,61,32,36,118,41,32,124,32,91,116,114,117,101,93,32,43,32,46,32,124,32,115,111,114,116,32,124,32,46,91,48,93]⟩
def tW3:Tr:=(.bind .ident ⟨#[118]⟩ (.bin (.collect (.call1 ⟨#[112,97,116,104]⟩ .desc 11)) ⟨#[124]⟩ (.bin (.call1 ⟨#[109,97,112]⟩ (.bind .ident ⟨#[112]⟩ (.bin (.var ⟨#[118]⟩ 37) ⟨#[124]⟩ (.bin (.call2 ⟨#[115,101,116,112,97,116,104]⟩ (.var ⟨#[112]⟩ 50) (.call1 ⟨#[103,101,116,112,97,116,104]⟩ (.var ⟨#[112]⟩ 62) 54) 42) ⟨#[61,61]⟩ (.var ⟨#[118]⟩ 70)))) 23) ⟨#[124]⟩ (.bin (.bin (.collect (.bool true)) ⟨#[43]⟩ .ident) ⟨#[124]⟩ (.bin (.call0 ⟨#[115,111,114,116]⟩ 89) ⟨#[124]⟩ (.index .ident (.num 0)))))))
theorem readsW3:readAs fW3=some tW3:=by kernel_rfl
def fW4:ByteArray:=⟨#[40,46,46,32,124,61,32,46,41,32,61,61,32,46]⟩
def tW4:Tr:=(.bin (.bin .desc ⟨#[124,61]⟩ .ident) ⟨#[61,61]⟩ .ident)
theorem readsW4:readAs fW4=some tW4:=by kernel_rfl
def fW5:ByteArray:=⟨#[40,46,46,32,124,61,32,101,109,112,116,121,41,32,61,61,32,46]⟩
def tW5:Tr:=(.bin (.bin .desc ⟨#[124,61]⟩ (.call0 ⟨#[101,109,112,116,121]⟩ 7)) ⟨#[61,61]⟩ .ident)
theorem readsW5:readAs fW5=some tW5:=by kernel_rfl
def fW6:ByteArray:=⟨#[40,112,97,116,104,40,46,46,41,32,124,32,108,101,110,103,116,104,41,32,62,61,32,48,32,124,32,110,111,116,32,124,32,110,111,116]⟩
def tW6:Tr:=(.bin (.bin (.bin (.call1 ⟨#[112,97,116,104]⟩ .desc 1) ⟨#[124]⟩ (.call0 ⟨#[108,101,110,103,116,104]⟩ 12)) ⟨#[62,61]⟩ (.num 0)) ⟨#[124]⟩ (.bin (.call0 ⟨#[110,111,116]⟩ 27) ⟨#[124]⟩ (.call0 ⟨#[110,111,116]⟩ 33)))
theorem readsW6:readAs fW6=some tW6:=by kernel_rfl
end Go.Proofs.Tryz
namespace Go.Proofs.Tryz
set_option maxHeartbeats 16000000
open Go.RowKit
set_option maxRecDepth 10000
theorem Canon_some {w:World} (h:Asks w) {s:ByteArray}{c:Bys}{p:Nat} (hm:s.size≤10000000) (hr:readL s=(some c,p)) :
  Calls Tryz.prog 5 #[.string s] w fun e w'=>e = .returned (.tuple #[.string ⟨c.toArray⟩,.int .i64 0,.int .i64 0])∧Below w.heap.size w w':=by
 have hcn:=read_in hr
 have hne:c≠[]:=by
  obtain ⟨b,r,e,_⟩:=hcn.1.first
  rw [e];simp
 have hcl:c.length≤1000000000:=by have:=hcn.2;omega
 obtain ⟨out,hout⟩:∃ out:ByteArray,(⟨c.toArray⟩:ByteArray)=out:=⟨_,rfl⟩
 have hrd:=read_some h hm hr
 have hca:∀ w1 T u,Below w.heap.size w w1→Vl w1 (· < w1.heap.size) (T,u) c→Calls Tryz.prog 8 #[.iface T u] w1 fun e w'=>e = .returned (.string out)∧Below w1.heap.size w1 w':=fun w1 T u k hv=>by
  have hq:=Canonical_any (v:=(T,u)) h.app hv hcl hne (h.below k).tab
  rw [hout] at hq
  exact hq
 rw [hout]
 have HRD:Aside _:=hrd
 have HCA:Aside _:=hca
 clear hrd hca h hcn hne hcl hout hr hm
 go_enter Tryz.func5,Tryz.ntmps5
 go_wp2_with (first
  | (go_at_call 7;refine Calls.mono HRD.out ?_;rintro e w1 ⟨⟨T,u,rfl,hv⟩,k1⟩;have HV:Aside _:=hv;clear hv)
  | (go_at_call 8;refine (HCA.out w1 T u k1 HV.out).mono ?_;rintro e w2 ⟨rfl,k2⟩))
 exact bodyPost_ret (v:=.tuple #[.string out,.int .i64 0,.int .i64 0]) (by simp [results,Tryz.results5,go_sem]) rfl ⟨rfl,k1.trans (k2.mono k1.size)⟩
theorem Canon_none {w:World} (h:Asks w) {s:ByteArray}{p:Nat} (hm:s.size≤10000000) (hr:readL s=(none,p)) :
  Calls Tryz.prog 5 #[.string s] w fun e w'=>e = .returned (.tuple #[.string ⟨#[]⟩,.int .i64 1,.int .i64 p])∧Below w.heap.size w w':=by
 have hrd:=read_none h hm hr
 have HRD:Aside _:=hrd
 clear hrd h hr hm
 go_enter Tryz.func5,Tryz.ntmps5
 go_wp2_with (go_at_call 7;refine Calls.mono HRD.out ?_;rintro e w1 ⟨rfl,k1⟩)
 exact bodyPost_ret (v:=.tuple #[.string ⟨#[]⟩,.int .i64 1,.int .i64 p]) (by simp [results,Tryz.results5,go_sem]) rfl ⟨rfl,k1⟩
end Go.Proofs.Tryz
