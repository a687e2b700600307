import Derived.Test.YtndoeeampclfaaaGreatDoorFx6
import Derived.Test.YtndoeeampclfaaaGreatDoorNum
import Derived.Test.YtndoeeampclfaaaGreatDoorFs3
import Derived.Shelf.RegionOpenPlain
import Derived.Deep.RegionHeld3
set_option linter.all false
namespace Go.Proofs.Tryz
set_option maxHeartbeats 16000000
open Go.RowKit
set_option maxRecDepth 10000
structure Va (w:World) (vb:Nat) (s:ByteArray) (a:Nat):Prop where
 text:w.cell? ⟨vb,0,none⟩=some (.string s)
 pos:w.cell? ⟨vb,1,none⟩=some (.int .i64 a)
 free:w.frozen? ⟨vb,1,none⟩=false
 le:a≤s.size
 max:s.size≤10000000
theorem VBlk.va {w:World}{vb a:Nat}{s:ByteArray}{ov:Value}(h:VBlk w vb s a ov) (hle:a≤s.size) (hm:s.size≤10000000):Va w vb s a:=by
 obtain ⟨c0,c1,c2,f0,f1,f2,hl⟩:=three_facts' h
 exact ⟨c0,c1,f1,hle,hm⟩
theorem nextV_ok {w:World}{vb a:Nat}{s:ByteArray}(h:Va w vb s a) :
  Calls Tryz.prog 28 #[.pointer (some ⟨vb,0,none⟩)] w fun e w'=>e = .returned (.int .u8 (byteAt s a))∧∃ n,w'=w.drewN n:=by
 obtain ⟨h0,h1,_,hle,hmax⟩:=h
 by_cases hlt:a < s.size
 ·have e:byteAt s a=(s[a].toNat:Int):=by simp only [byteAt,at_list s a hlt]
  rw [e]
  clear e
  have hne:¬ (a:Int)=(s.size:Int):=by omega
  have hl':(a:Int) < (s.size:Int):=by omega
  have ha0:(0:Int)≤(a:Int):=by omega
  go_enter Tryz.func28,Tryz.ntmps28
  go_wp2_with fail
  go_quiet (fail)
  go_wp2_with fail
  go_quiet (fail)
  go_wp2_with fail
  go_ret
  exact ⟨rfl,_,drewN_two _ _ _⟩
 ·have he:a=s.size:=by omega
  have e:byteAt s a=0:=by simp only [byteAt,List.getElem?_eq_none (show s.data.toList.length≤a by rw [size_list];omega)]
  rw [e]
  clear e
  have hq:(a:Int)=(s.size:Int):=by omega
  subst he
  clear hq hlt
  go_enter Tryz.func28,Tryz.ntmps28
  go_wp2_with fail
  go_quiet (fail)
  go_wp2_with fail
  go_ret
  exact ⟨rfl,_,rfl⟩
def blankB (c:Int):Bool:=c == 32 || c == 9 || c == 10 || c == 13
def blanksV (s:ByteArray):Nat→Nat→Nat
 | 0,a=>a
 | k+1,a=>if blankB (byteAt s a) then blanksV s k (a+1) else a
theorem blank_lt {s:ByteArray}{a:Nat}(h:blankB (byteAt s a)=true):a < s.size:=by
 rcases Nat.lt_or_ge a s.size with h' | h'
 ·exact h'
 ·rw [show byteAt s a=0 by simp only [byteAt,List.getElem?_eq_none (show s.data.toList.length≤a by rw [size_list];omega)]] at h
  cases h
theorem skipV_ok {w:World}{vb a0:Nat}{s:ByteArray}{ov:Value}(h:VBlk w vb s a0 ov) (hle:a0≤s.size) (hm:s.size≤10000000) :
  Calls Tryz.prog 26 #[.pointer (some ⟨vb,0,none⟩)] w fun e w'=>e = .returned (.tuple #[])∧VBlk w' vb s (blanksV s (s.size+1) a0) ov∧Fr (· = vb) w w':=by
 obtain ⟨R,hR⟩:∃ R,blanksV s (s.size+1) a0=R:=⟨_,rfl⟩
 rw [hR]
 have HR:Hid _:=hR
 clear hR
 go_enter Tryz.func26,Tryz.ntmps26
 go_wp2_with fail
 go_loopg [2] (s.size+1) (fun k v wr=>∃ a:Nat,a≤s.size∧s.size+1≤a+k∧VBlk wr vb s a ov∧Fr (· = vb) w wr∧blanksV s k a=R)
 case atStart=>exact ⟨a0,hle,by omega,h,Fr.refl _ _,HR.out⟩
 case round =>
  obtain ⟨a,ha,hk,hv,hfr,hr⟩:=hrel
  obtain ⟨v0,v1,v2,g0,g1,g2,vl⟩:=three_facts' hv
  have hvA:=hv.va ha hm
  match gk,hk,hr with
  | 0,hk,hr=>omega
  | k+1,hk,hr =>
   rw [blanksV] at hr
   cases hb:blankB (byteAt s a) with
   | true =>
    simp only [hb,if_true] at hr
    have hlt:=blank_lt hb
    have HR2:Hid _:=hr
    clear hr
    have hc:byteAt s a=32∨byteAt s a=9∨byteAt s a=10∨byteAt s a=13:=by
     simp only [blankB,Bool.or_eq_true,beq_iff_eq] at hb
     omega
    clear hb
    rcases hc with hc | hc | hc | hc
    all_goals
     go_wp2_with (go_at_call 28;refine (nextV_ok hvA).mono ?_;rintro e w1 ⟨rfl,m,rfl⟩;rw [hc])
     go_roundg k
     case measure=>omega
     case rel=>exact ⟨a+1,by omega,by omega,(hv.drewN _).set,(hfr.drewN _).setCell _ (.inl rfl),HR2.out⟩
   | false =>
    simp only [hb] at hr
    have HR2:Hid _:=hr
    clear hr
    have hc:¬ byteAt s a=32∧¬ byteAt s a=9∧¬ byteAt s a=10∧¬ byteAt s a=13:=by
     simp only [blankB,Bool.or_eq_false_iff,beq_eq_false_iff_ne] at hb
     omega
    clear hb
    obtain ⟨b1,b2,b3,b4⟩:=hc
    go_wp2_with (go_at_call 28;refine (nextV_ok hvA).mono ?_;rintro e w1 ⟨rfl,m,rfl⟩)
    refine bodyPost_ret (v:=.tuple #[]) (by simp [results,Tryz.results26,go_sem]) rfl ⟨rfl,?_,hfr.drewN _⟩
    have:a=R:=by simpa using HR2.out
    subst this
    exact hv.drewN _
end Go.Proofs.Tryz
namespace Go.Proofs.Tryz
set_option maxHeartbeats 16000000
open Go.RowKit
set_option maxRecDepth 10000
def wordV (s wd:ByteArray):Nat→Nat→Nat→Nat×Bool
 | 0,_,a=>(a,true)
 | k+1,i,a=>if byteAt s a=byteAt wd i then wordV s wd k (i+1) (a+1) else (a,false)
def orNil (b:Bool) (v:Value):Value:=if b then v else .nilIface
theorem Va.drewN {w:World}{vb a:Nat}{s:ByteArray}(h:Va w vb s a) (n:Nat):Va (w.drewN n) vb s a:=⟨h.text,h.pos,h.free,h.le,h.max⟩
theorem byte_pos {s:ByteArray}{a:Nat}(h:byteAt s a≠0):a < s.size:=by
 rcases Nat.lt_or_ge a s.size with h' | h'
 ·exact h'
 ·exact absurd (show byteAt s a=0 by simp only [byteAt,List.getElem?_eq_none (show s.data.toList.length≤a by rw [size_list];omega)]) h
theorem word_ok {w:World}{vb a0 T:Nat}{u:Value}{s wd:ByteArray}{ov:Value}(h:VBlk w vb s a0 ov) (hle:a0≤s.size) (hm:s.size≤10000000) (hw:wd.size≤100) (hz:∀ i,i < wd.size→byteAt wd i≠0) :
  Calls Tryz.prog 68 #[.pointer (some ⟨vb,0,none⟩),.string wd,.iface T u] w fun e w'=>e = .returned (.tuple #[orNil (wordV s wd wd.size 0 a0).2 (.iface T u),.bool (wordV s wd wd.size 0 a0).2])∧VBlk w' vb s (wordV s wd wd.size 0 a0).1 ov∧Fr (· = vb) w w':=by
 obtain ⟨R,hR⟩:∃ R,wordV s wd wd.size 0 a0=R:=⟨_,rfl⟩
 rw [hR]
 have HR:Hid _:=hR
 clear hR
 go_enter Tryz.func68,Tryz.ntmps68
 go_wp2_with fail
 go_loopg [11] wd.size (fun k v wr=>∃ (i a:Nat),i+k=wd.size∧a≤s.size∧v = .int .i64 i∧VBlk wr vb s a ov∧Fr (· = vb) w wr∧wordV s wd k i a=R)
 case atStart=>exact ⟨0,a0,by omega,hle,rfl,h,Fr.refl _ _,HR.out⟩
 case round =>
  obtain ⟨i,a,hik,ha,rfl,hv,hfr,hr⟩:=hrel
  obtain ⟨v0,v1,v2,g0,g1,g2,vl⟩:=three_facts' hv
  have hvA:=hv.va ha hm
  match gk,hik,hr with
  | 0,hik,hr =>
   have hi':¬ (i:Int) < (wd.size:Int):=by omega
   have HR2:Hid _:=hr
   clear hr
   go_wp2_with fail
   go_ret2
   rw [← HR2.out]
   exact ⟨rfl,hv,hfr⟩
  | k+1,hik,hr =>
   have hilt:i < wd.size:=by omega
   have hi':(i:Int) < (wd.size:Int):=by omega
   have hi0:(0:Int)≤(i:Int):=by omega
   have hnz:=hz i hilt
   rw [wordV] at hr
   rw [byte_at hilt] at hr hnz
   by_cases hc:byteAt s a=(wd[i].toNat:Int)
   ·rw [if_pos hc] at hr
    have hlt:a < s.size:=byte_pos (by rw [hc];exact hnz)
    have t1:(byteAt s a != (wd[i].toNat:Int))=false:=by simpa using hc
    have HR2:Hid _:=hr
    clear hr hc hnz
    go_wp2_with fail
    go_quiet ((go_at_call 28;exact Calls.quiet_of (nextV_ok (Va.drewN hvA _))))
    go_wp2_with fail
    go_roundg k
    case measure=>omega
    case rel=>exact ⟨i+1,a+1,by omega,by omega,by go_num,(hv.drewN _).set,(hfr.drewN _).setCell _ (.inl rfl),HR2.out⟩
   ·rw [if_neg hc] at hr
    have t1:(byteAt s a != (wd[i].toNat:Int))=true:=by simpa using hc
    have HR2:Hid _:=hr
    clear hr hc hnz
    go_wp2_with fail
    go_quiet ((go_at_call 28;exact Calls.quiet_of (nextV_ok (Va.drewN hvA _))))
    go_wp2_with fail
    go_ret2
    rw [← HR2.out]
    exact ⟨rfl,hv.drewN _,hfr.drewN _⟩
end Go.Proofs.Tryz
namespace Go.Proofs.Tryz
set_option maxHeartbeats 16000000
open Go.RowKit
set_option maxRecDepth 10000
def digB (c:Int):Bool:=decide (48≤c) && decide (c≤57)
def digsV (s:ByteArray):Nat→Nat→Nat
 | 0,a=>a
 | k+1,a=>if digB (byteAt s a) then digsV s k (a+1) else a
def numEnd (s:ByteArray) (a:Nat):Nat:=if byteAt s a=48 then a+1 else digsV s (s.size+1) (a+1)
def parsedV (l:List UInt8):Option Int:=match Lib.parseIntB 64 l with
 | .ok v=>some v
 | _=>none
def numP:Option Int→Nat→Nat→Option Int×Nat
 | some n,_,e=>(some n,e)
 | none,a,_=>(none,a)
def numAt (s:ByteArray) (a b:Nat):Option Int×Nat :=
 if digB (byteAt s b) then
  numP (parsedV (s.extract a (numEnd s b)).data.toList) a (numEnd s b)
 else (none,b)
def numL (s:ByteArray) (a:Nat):Option Int×Nat:=numAt s a (if byteAt s a=45 then a+1 else a)
def numO:Option Int→Value
 | some n=>numV n
 | none=>.nilIface
def parsedE:Option Int→Ending→Prop
 | some v,e=>e = .returned (.tuple #[.int .i64 v,.nilIface])
 | none,e=>∃ x T p,e = .returned (.tuple #[.int .i64 x,.iface T p])
def ParsesAt (w:World):Prop:=∀ s:ByteArray,s.size≤10000000→Calls Tryz.prog 130 #[.string s,.int .i64 10,.int .i64 64] w fun e w'=>parsedE (parsedV s.data.toList) e∧Below w.heap.size w w'
theorem dig_lt {s:ByteArray}{a:Nat}(h:digB (byteAt s a)=true):a < s.size:=by
 refine byte_pos (fun e=>?_)
 rw [e] at h
 simp [digB] at h
theorem digs_ge (s:ByteArray):∀ (k a:Nat),a≤digsV s k a
 | 0,a=>Nat.le_refl _
 | k+1,a=>by
  unfold digsV
  split
  ·have:=digs_ge s k (a+1);omega
  ·exact Nat.le_refl _
theorem digs_le (s:ByteArray):∀ (k a:Nat),a≤s.size→digsV s k a≤s.size
 | 0,a,h=>h
 | k+1,a,h=>by
  unfold digsV
  split
  ·rename_i hd
   exact digs_le s k (a+1) (dig_lt hd)
  ·exact h
theorem Fr.lowN {D:Nat→Prop}{n:Nat}{a w w':World}(h:Fr D w w') (hD:∀ k,D k→n≤k) (hb:Below n a w) (hn:n≤w.heap.size):Below n a w' :=
 hb.trans ⟨h.os,h.tape,h.output,h.size,fun k hk=>h.block k (by omega) (fun e=>by have:=hD k e;omega)⟩
theorem numEnd_range {s:ByteArray}{b:Nat}(h:digB (byteAt s b)=true):b < numEnd s b∧numEnd s b≤s.size:=by
 have hb:=dig_lt h
 unfold numEnd
 split
 ·omega
 ·have:=digs_ge s (s.size+1) (b+1)
  have:=digs_le s (s.size+1) (b+1) hb
  omega
theorem number_ok {w w0:World}{vb a:Nat}{s:ByteArray}{ov:Value}(hP:∀ w',Below vb w0 w'→ParsesAt w') (hb:Below vb w0 w) (h:VBlk w vb s a ov) (ha:a≤s.size) (hm:s.size≤10000000) :
  Calls Tryz.prog 72 #[.pointer (some ⟨vb,0,none⟩)] w fun e w'=>e = .returned (.tuple #[numO (numL s a).1,.bool (numL s a).1.isSome])∧VBlk w' vb s (numL s a).2 ov∧Fr (· = vb) w w':=by
 obtain ⟨c0,c1,c2,f0,f1,f2,hl⟩:=three_facts' h
 have h0:=h.va ha hm
 by_cases h45:byteAt s a=45
 ·have n45:(byteAt s a == 45)=true:=by simpa using h45
  have hlt:a < s.size:=byte_pos (by rw [h45];omega)
  unfold numL
  rw [if_pos h45]
  clear h45
  have vs:∀ m m',Va (((w.drewN m).setCell ⟨vb,1,none⟩ (.int .i64 ((a:Int)+1))).drewN m') vb s (a+1):=fun m m'=>VBlk.va (a:=a+1) (((h.drewN m).set (b:=a+1)).drewN m') (by omega) hm
  have vs0:∀ m,Va ((w.drewN m).setCell ⟨vb,1,none⟩ (.int .i64 ((a:Int)+1))) vb s (a+1):=fun m=>VBlk.va (a:=a+1) ((h.drewN m).set (b:=a+1)) (by omega) hm
  obtain ⟨R,hR⟩:∃ R,numAt s a (a+1)=R:=⟨_,rfl⟩
  rw [hR]
  have HR:Hid _:=hR
  clear hR
  cases hd:digB (byteAt s (a+1)) with
  | false =>
   have hr:numAt s a (a+1)=(none,(a+1)):=by unfold numAt;rw [hd];rfl
   have HR2:Hid _:=hr
   have hd':(decide (48≤byteAt s (a+1)) && decide (byteAt s (a+1)≤57))=false:=hd
   clear hr hd
   go_enter Tryz.func72,Tryz.ntmps72
   go_wp2_with (first
    | (go_at_call 28;refine (nextV_ok h0).mono ?_;rintro e w1 ⟨rfl,m,rfl⟩)
    | (go_at_call 28;refine (nextV_ok (a:=a+1) (by first | exact vs0 _ | exact vs _ _)).mono ?_;rintro e w1 ⟨rfl,m,rfl⟩)
    | (go_at_call 71;refine (vIsDigit_any _ _).mono ?_;rintro e w1 ⟨rfl,hw⟩;subst w1;rw [hd']))
   go_ret2
   rw [← HR.out,HR2.out]
   exact ⟨rfl,((h.drewN _).set (b:=a+1)).drewN _,(((Fr.refl (· = vb) w).drewN _).setCell _ (.inl rfl)).drewN _⟩
  | true =>
   have hbl:=dig_lt hd
   obtain ⟨E,hE⟩:∃ E,numEnd s (a+1)=E:=⟨_,rfl⟩
   have hEr:=numEnd_range hd
   rw [hE] at hEr
   obtain ⟨O,hO⟩:∃ O,parsedV (s.extract a E).data.toList=O:=⟨_,rfl⟩
   have hr:numAt s a (a+1)=numP O a E:=by unfold numAt;rw [hd,hE,hO];rfl
   have HR2:Hid _:=hr
   have hd':(decide (48≤byteAt s (a+1)) && decide (byteAt s (a+1)≤57))=true:=hd
   clear hr hd
   obtain ⟨e1,e2⟩:=hEr
   have HO:Hid _:=hO
   clear hO
   have q0:(0:Int)≤(a:Int):=by omega
   have q1:(a:Int)≤(E:Int):=by omega
   have q2:(E:Int)≤(s.size:Int):=by omega
   have hes:(s.extract a E).size≤10000000:=by simp [ByteArray.size_extract];omega
   by_cases h48:byteAt s (a+1)=48
   ·have n48:(byteAt s (a+1) != 48)=false:=by simpa using h48
    have hE2:(a+1)+1=E:=by rw [← hE];unfold numEnd;rw [if_pos h48]
    have HE2:Hid _:=hE2
    clear hE2 hE h48
    go_enter Tryz.func72,Tryz.ntmps72
    go_wp2_with (first
     | (go_at_call 28;refine (nextV_ok h0).mono ?_;rintro e w1 ⟨rfl,m,rfl⟩)
     | (go_at_call 28;refine (nextV_ok (a:=a+1) (by first | exact vs0 _ | exact vs _ _)).mono ?_;rintro e w1 ⟨rfl,m,rfl⟩)
     | (go_at_call 71;refine (vIsDigit_any _ _).mono ?_;rintro e w1 ⟨rfl,hw⟩;subst w1;rw [hd']))
    go_loopg [41] (s.size+1) (fun k v wr=>∃ j:Nat,j≤s.size∧s.size+1≤j+k∧VBlk wr vb s j ov∧Fr (· = vb) w wr∧j=E)
    case atStart=>exact ⟨(a+1)+1,by omega,by omega,(((h.drewN _).set (b:=a+1)).drewN _).set (b:=(a+1)+1),((((Fr.refl (· = vb) w).drewN _).setCell _ (.inl rfl)).drewN _).setCell _ (.inl rfl),HE2.out⟩
    case round =>
     obtain ⟨j,hj1,hj2,hv,hfr,hj3⟩:=hrel
     obtain ⟨v0,v1,v2,g0,g1,g2,vl⟩:=three_facts' hv
     have hvA:=hv.va hj1 hm
     subst hj3
     go_wp2_with fail
     have hbb:Below vb w0 wr:=hfr.lowN (fun _ e=>by omega) hb (by omega)
     cases O with
     | some n =>
      go_region_held3 (fun w'=>w'.cell? ⟨vb,0,none⟩=some (.string s)∧w'.cell? ⟨vb,1,none⟩=some (.int .i64 j)∧w'.frozen? ⟨vb,1,none⟩=false) (first | exact e4 | go_keep)
       (first | (go_at_call 130;refine (hP _ (by first | exact hbb | exact hbb.trans (belowD _ _ _) | exact (hbb.trans (belowD _ _ _)).trans (belowD _ _ _)) _ hes).mono ?_;rw [HO.out];rintro e w1 ⟨rfl,k1⟩;have e4:w1.cell? ⟨vb,0,none⟩=some (.string s)∧w1.cell? ⟨vb,1,none⟩=some (.int .i64 j)∧w1.frozen? ⟨vb,1,none⟩=false:=⟨(k1.cell (p:=⟨vb,0,none⟩) (by simpa using vl)).trans (by simpa using v0),(k1.cell (p:=⟨vb,1,none⟩) (by simpa using vl)).trans (by simpa using v1),(World.frozen?_of_block (k1.block vb (by simpa using vl))).trans (by simpa using g1)⟩))
      go_wp2_with fail
      refine bodyPost_ret (v:=.tuple #[numV n,.bool true]) (by simp [results,Tryz.results72,go_sem]) rfl ?_
      rw [← HR.out,HR2.out]
      exact ⟨rfl,hv.same (k1.block _ (by simpa using vl)),(hfr.drewN _).trans (Fr.of_below (D:=(· = vb)) k1) (fun _ _ e=>e)⟩
     | none =>
      go_region_held3 (fun w'=>w'.cell? ⟨vb,0,none⟩=some (.string s)∧w'.cell? ⟨vb,1,none⟩=some (.int .i64 j)∧w'.frozen? ⟨vb,1,none⟩=false) (first | exact e4 | go_keep)
       (first | (go_at_call 130;refine (hP _ (by first | exact hbb | exact hbb.trans (belowD _ _ _) | exact (hbb.trans (belowD _ _ _)).trans (belowD _ _ _)) _ hes).mono ?_;rw [HO.out];rintro e w1 ⟨⟨x,T,pp,rfl⟩,k1⟩;have e4:w1.cell? ⟨vb,0,none⟩=some (.string s)∧w1.cell? ⟨vb,1,none⟩=some (.int .i64 j)∧w1.frozen? ⟨vb,1,none⟩=false:=⟨(k1.cell (p:=⟨vb,0,none⟩) (by simpa using vl)).trans (by simpa using v0),(k1.cell (p:=⟨vb,1,none⟩) (by simpa using vl)).trans (by simpa using v1),(World.frozen?_of_block (k1.block vb (by simpa using vl))).trans (by simpa using g1)⟩))
      go_wp2_with fail
      refine bodyPost_ret (v:=.tuple #[.nilIface,.bool false]) (by simp [results,Tryz.results72,go_sem]) rfl ?_
      rw [← HR.out,HR2.out]
      exact ⟨rfl,(hv.same (k1.block _ (by simpa using vl))).set,((hfr.drewN _).trans (Fr.of_below (D:=(· = vb)) k1) (fun _ _ e=>e)).setCell _ (.inl rfl)⟩
   ·have n48:(byteAt s (a+1) != 48)=true:=by simpa using h48
    have hE2:digsV s (s.size+1) ((a+1)+1)=E:=by rw [← hE];unfold numEnd;rw [if_neg h48]
    have HE2:Hid _:=hE2
    clear hE2 hE h48
    go_enter Tryz.func72,Tryz.ntmps72
    go_wp2_with (first
     | (go_at_call 28;refine (nextV_ok h0).mono ?_;rintro e w1 ⟨rfl,m,rfl⟩)
     | (go_at_call 28;refine (nextV_ok (a:=a+1) (by first | exact vs0 _ | exact vs _ _)).mono ?_;rintro e w1 ⟨rfl,m,rfl⟩)
     | (go_at_call 71;refine (vIsDigit_any _ _).mono ?_;rintro e w1 ⟨rfl,hw⟩;subst w1;rw [hd']))
    go_loopg [41] (s.size+1) (fun k v wr=>∃ j:Nat,j≤s.size∧s.size+1≤j+k∧VBlk wr vb s j ov∧Fr (· = vb) w wr∧digsV s k j=E)
    case atStart=>exact ⟨(a+1)+1,by omega,by omega,(((h.drewN _).set (b:=a+1)).drewN _).set (b:=(a+1)+1),((((Fr.refl (· = vb) w).drewN _).setCell _ (.inl rfl)).drewN _).setCell _ (.inl rfl),HE2.out⟩
    case round =>
     obtain ⟨j,hj1,hj2,hv,hfr,hj3⟩:=hrel
     obtain ⟨v0,v1,v2,g0,g1,g2,vl⟩:=three_facts' hv
     have hvA:=hv.va hj1 hm
     match gk,hj2,hj3 with
     | 0,hj2,hj3=>omega
     | k+1,hj2,hj3 =>
      rw [digsV] at hj3
      cases hdj:digB (byteAt s j) with
      | true =>
       have hdj':(decide (48≤byteAt s j) && decide (byteAt s j≤57))=true:=hdj
       have hjl:=dig_lt hdj
       simp only [hdj,if_true] at hj3
       have HJ:Hid _:=hj3
       clear hj3 hdj
       go_wp2_with (first
        | (go_at_call 28;refine (nextV_ok hvA).mono ?_;rintro e w1 ⟨rfl,m,rfl⟩)
        | (go_at_call 71;refine (vIsDigit_any _ _).mono ?_;rintro e w1 ⟨rfl,hw⟩;subst w1;rw [hdj']))
       go_roundg k
       case measure=>omega
       case rel=>exact ⟨j+1,by omega,by omega,(hv.drewN _).set,(hfr.drewN _).setCell _ (.inl rfl),HJ.out⟩
      | false =>
       have hdj':(decide (48≤byteAt s j) && decide (byteAt s j≤57))=false:=hdj
       simp only [hdj,if_false] at hj3
       obtain rfl:j=E:=by simpa using hj3
       clear hj3 hdj
       go_wp2_with (first
        | (go_at_call 28;refine (nextV_ok hvA).mono ?_;rintro e w1 ⟨rfl,m,rfl⟩)
        | (go_at_call 71;refine (vIsDigit_any _ _).mono ?_;rintro e w1 ⟨rfl,hw⟩;subst w1;rw [hdj']))
       have hbb:Below vb w0 wr:=hfr.lowN (fun _ e=>by omega) hb (by omega)
       cases O with
       | some n =>
        go_region_held3 (fun w'=>w'.cell? ⟨vb,0,none⟩=some (.string s)∧w'.cell? ⟨vb,1,none⟩=some (.int .i64 j)∧w'.frozen? ⟨vb,1,none⟩=false) (first | exact e4 | go_keep)
         (first | (go_at_call 130;refine (hP _ (by first | exact hbb | exact hbb.trans (belowD _ _ _) | exact (hbb.trans (belowD _ _ _)).trans (belowD _ _ _)) _ hes).mono ?_;rw [HO.out];rintro e w1 ⟨rfl,k1⟩;have e4:w1.cell? ⟨vb,0,none⟩=some (.string s)∧w1.cell? ⟨vb,1,none⟩=some (.int .i64 j)∧w1.frozen? ⟨vb,1,none⟩=false:=⟨(k1.cell (p:=⟨vb,0,none⟩) (by simpa using vl)).trans (by simpa using v0),(k1.cell (p:=⟨vb,1,none⟩) (by simpa using vl)).trans (by simpa using v1),(World.frozen?_of_block (k1.block vb (by simpa using vl))).trans (by simpa using g1)⟩))
        go_wp2_with fail
        refine bodyPost_ret (v:=.tuple #[numV n,.bool true]) (by simp [results,Tryz.results72,go_sem]) rfl ?_
        rw [← HR.out,HR2.out]
        exact ⟨rfl,hv.same (k1.block _ (by simpa using vl)),(hfr.drewN _).trans (Fr.of_below (D:=(· = vb)) k1) (fun _ _ e=>e)⟩
       | none =>
        go_region_held3 (fun w'=>w'.cell? ⟨vb,0,none⟩=some (.string s)∧w'.cell? ⟨vb,1,none⟩=some (.int .i64 j)∧w'.frozen? ⟨vb,1,none⟩=false) (first | exact e4 | go_keep)
         (first | (go_at_call 130;refine (hP _ (by first | exact hbb | exact hbb.trans (belowD _ _ _) | exact (hbb.trans (belowD _ _ _)).trans (belowD _ _ _)) _ hes).mono ?_;rw [HO.out];rintro e w1 ⟨⟨x,T,pp,rfl⟩,k1⟩;have e4:w1.cell? ⟨vb,0,none⟩=some (.string s)∧w1.cell? ⟨vb,1,none⟩=some (.int .i64 j)∧w1.frozen? ⟨vb,1,none⟩=false:=⟨(k1.cell (p:=⟨vb,0,none⟩) (by simpa using vl)).trans (by simpa using v0),(k1.cell (p:=⟨vb,1,none⟩) (by simpa using vl)).trans (by simpa using v1),(World.frozen?_of_block (k1.block vb (by simpa using vl))).trans (by simpa using g1)⟩))
        go_wp2_with fail
        refine bodyPost_ret (v:=.tuple #[.nilIface,.bool false]) (by simp [results,Tryz.results72,go_sem]) rfl ?_
        rw [← HR.out,HR2.out]
        exact ⟨rfl,(hv.same (k1.block _ (by simpa using vl))).set,((hfr.drewN _).trans (Fr.of_below (D:=(· = vb)) k1) (fun _ _ e=>e)).setCell _ (.inl rfl)⟩
 ·have n45:(byteAt s a == 45)=false:=by simpa using h45
  unfold numL
  rw [if_neg h45]
  clear h45
  obtain ⟨R,hR⟩:∃ R,numAt s a a=R:=⟨_,rfl⟩
  rw [hR]
  have HR:Hid _:=hR
  clear hR
  cases hd:digB (byteAt s a) with
  | false =>
   have hr:numAt s a a=(none,a):=by unfold numAt;rw [hd];rfl
   have HR2:Hid _:=hr
   have hd':(decide (48≤byteAt s a) && decide (byteAt s a≤57))=false:=hd
   clear hr hd
   go_enter Tryz.func72,Tryz.ntmps72
   go_wp2_with (first
    | (go_at_call 28;refine (nextV_ok (by first | exact h0 | exact h0.drewN _)).mono ?_;rintro e w1 ⟨rfl,m,rfl⟩)
    | (go_at_call 71;refine (vIsDigit_any _ _).mono ?_;rintro e w1 ⟨rfl,hw⟩;subst w1;rw [hd']))
   go_ret2
   rw [← HR.out,HR2.out]
   exact ⟨rfl,h.drewN _,(Fr.refl (· = vb) w).drewN _⟩
  | true =>
   have hbl:=dig_lt hd
   obtain ⟨E,hE⟩:∃ E,numEnd s a=E:=⟨_,rfl⟩
   have hEr:=numEnd_range hd
   rw [hE] at hEr
   obtain ⟨O,hO⟩:∃ O,parsedV (s.extract a E).data.toList=O:=⟨_,rfl⟩
   have hr:numAt s a a=numP O a E:=by unfold numAt;rw [hd,hE,hO];rfl
   have HR2:Hid _:=hr
   have hd':(decide (48≤byteAt s a) && decide (byteAt s a≤57))=true:=hd
   clear hr hd
   obtain ⟨e1,e2⟩:=hEr
   have HO:Hid _:=hO
   clear hO
   have q0:(0:Int)≤(a:Int):=by omega
   have q1:(a:Int)≤(E:Int):=by omega
   have q2:(E:Int)≤(s.size:Int):=by omega
   have hes:(s.extract a E).size≤10000000:=by simp [ByteArray.size_extract];omega
   by_cases h48:byteAt s a=48
   ·have n48:(byteAt s a != 48)=false:=by simpa using h48
    have hE2:a+1=E:=by rw [← hE];unfold numEnd;rw [if_pos h48]
    have HE2:Hid _:=hE2
    clear hE2 hE h48
    go_enter Tryz.func72,Tryz.ntmps72
    go_wp2_with (first
     | (go_at_call 28;refine (nextV_ok (by first | exact h0 | exact h0.drewN _)).mono ?_;rintro e w1 ⟨rfl,m,rfl⟩)
     | (go_at_call 71;refine (vIsDigit_any _ _).mono ?_;rintro e w1 ⟨rfl,hw⟩;subst w1;rw [hd']))
    go_loopg [41] (s.size+1) (fun k v wr=>∃ j:Nat,j≤s.size∧s.size+1≤j+k∧VBlk wr vb s j ov∧Fr (· = vb) w wr∧j=E)
    case atStart=>exact ⟨a+1,by omega,by omega,(h.drewN _).set (b:=a+1),((Fr.refl (· = vb) w).drewN _).setCell _ (.inl rfl),HE2.out⟩
    case round =>
     obtain ⟨j,hj1,hj2,hv,hfr,hj3⟩:=hrel
     obtain ⟨v0,v1,v2,g0,g1,g2,vl⟩:=three_facts' hv
     have hvA:=hv.va hj1 hm
     subst hj3
     go_wp2_with fail
     have hbb:Below vb w0 wr:=hfr.lowN (fun _ e=>by omega) hb (by omega)
     cases O with
     | some n =>
      go_region_held3 (fun w'=>w'.cell? ⟨vb,0,none⟩=some (.string s)∧w'.cell? ⟨vb,1,none⟩=some (.int .i64 j)∧w'.frozen? ⟨vb,1,none⟩=false) (first | exact e4 | go_keep)
       (first | (go_at_call 130;refine (hP _ (by first | exact hbb | exact hbb.trans (belowD _ _ _) | exact (hbb.trans (belowD _ _ _)).trans (belowD _ _ _)) _ hes).mono ?_;rw [HO.out];rintro e w1 ⟨rfl,k1⟩;have e4:w1.cell? ⟨vb,0,none⟩=some (.string s)∧w1.cell? ⟨vb,1,none⟩=some (.int .i64 j)∧w1.frozen? ⟨vb,1,none⟩=false:=⟨(k1.cell (p:=⟨vb,0,none⟩) (by simpa using vl)).trans (by simpa using v0),(k1.cell (p:=⟨vb,1,none⟩) (by simpa using vl)).trans (by simpa using v1),(World.frozen?_of_block (k1.block vb (by simpa using vl))).trans (by simpa using g1)⟩))
      go_wp2_with fail
      refine bodyPost_ret (v:=.tuple #[numV n,.bool true]) (by simp [results,Tryz.results72,go_sem]) rfl ?_
      rw [← HR.out,HR2.out]
      exact ⟨rfl,hv.same (k1.block _ (by simpa using vl)),(hfr.drewN _).trans (Fr.of_below (D:=(· = vb)) k1) (fun _ _ e=>e)⟩
     | none =>
      go_region_held3 (fun w'=>w'.cell? ⟨vb,0,none⟩=some (.string s)∧w'.cell? ⟨vb,1,none⟩=some (.int .i64 j)∧w'.frozen? ⟨vb,1,none⟩=false) (first | exact e4 | go_keep)
       (first | (go_at_call 130;refine (hP _ (by first | exact hbb | exact hbb.trans (belowD _ _ _) | exact (hbb.trans (belowD _ _ _)).trans (belowD _ _ _)) _ hes).mono ?_;rw [HO.out];rintro e w1 ⟨⟨x,T,pp,rfl⟩,k1⟩;have e4:w1.cell? ⟨vb,0,none⟩=some (.string s)∧w1.cell? ⟨vb,1,none⟩=some (.int .i64 j)∧w1.frozen? ⟨vb,1,none⟩=false:=⟨(k1.cell (p:=⟨vb,0,none⟩) (by simpa using vl)).trans (by simpa using v0),(k1.cell (p:=⟨vb,1,none⟩) (by simpa using vl)).trans (by simpa using v1),(World.frozen?_of_block (k1.block vb (by simpa using vl))).trans (by simpa using g1)⟩))
      go_wp2_with fail
      refine bodyPost_ret (v:=.tuple #[.nilIface,.bool false]) (by simp [results,Tryz.results72,go_sem]) rfl ?_
      rw [← HR.out,HR2.out]
      exact ⟨rfl,(hv.same (k1.block _ (by simpa using vl))).set,((hfr.drewN _).trans (Fr.of_below (D:=(· = vb)) k1) (fun _ _ e=>e)).setCell _ (.inl rfl)⟩
   ·have n48:(byteAt s a != 48)=true:=by simpa using h48
    have hE2:digsV s (s.size+1) (a+1)=E:=by rw [← hE];unfold numEnd;rw [if_neg h48]
    have HE2:Hid _:=hE2
    clear hE2 hE h48
    go_enter Tryz.func72,Tryz.ntmps72
    go_wp2_with (first
     | (go_at_call 28;refine (nextV_ok (by first | exact h0 | exact h0.drewN _)).mono ?_;rintro e w1 ⟨rfl,m,rfl⟩)
     | (go_at_call 71;refine (vIsDigit_any _ _).mono ?_;rintro e w1 ⟨rfl,hw⟩;subst w1;rw [hd']))
    go_loopg [41] (s.size+1) (fun k v wr=>∃ j:Nat,j≤s.size∧s.size+1≤j+k∧VBlk wr vb s j ov∧Fr (· = vb) w wr∧digsV s k j=E)
    case atStart=>exact ⟨a+1,by omega,by omega,(h.drewN _).set (b:=a+1),((Fr.refl (· = vb) w).drewN _).setCell _ (.inl rfl),HE2.out⟩
    case round =>
     obtain ⟨j,hj1,hj2,hv,hfr,hj3⟩:=hrel
     obtain ⟨v0,v1,v2,g0,g1,g2,vl⟩:=three_facts' hv
     have hvA:=hv.va hj1 hm
     match gk,hj2,hj3 with
     | 0,hj2,hj3=>omega
     | k+1,hj2,hj3 =>
      rw [digsV] at hj3
      cases hdj:digB (byteAt s j) with
      | true =>
       have hdj':(decide (48≤byteAt s j) && decide (byteAt s j≤57))=true:=hdj
       have hjl:=dig_lt hdj
       simp only [hdj,if_true] at hj3
       have HJ:Hid _:=hj3
       clear hj3 hdj
       go_wp2_with (first
        | (go_at_call 28;refine (nextV_ok hvA).mono ?_;rintro e w1 ⟨rfl,m,rfl⟩)
        | (go_at_call 71;refine (vIsDigit_any _ _).mono ?_;rintro e w1 ⟨rfl,hw⟩;subst w1;rw [hdj']))
       go_roundg k
       case measure=>omega
       case rel=>exact ⟨j+1,by omega,by omega,(hv.drewN _).set,(hfr.drewN _).setCell _ (.inl rfl),HJ.out⟩
      | false =>
       have hdj':(decide (48≤byteAt s j) && decide (byteAt s j≤57))=false:=hdj
       simp only [hdj,if_false] at hj3
       obtain rfl:j=E:=by simpa using hj3
       clear hj3 hdj
       go_wp2_with (first
        | (go_at_call 28;refine (nextV_ok hvA).mono ?_;rintro e w1 ⟨rfl,m,rfl⟩)
        | (go_at_call 71;refine (vIsDigit_any _ _).mono ?_;rintro e w1 ⟨rfl,hw⟩;subst w1;rw [hdj']))
       have hbb:Below vb w0 wr:=hfr.lowN (fun _ e=>by omega) hb (by omega)
       cases O with
       | some n =>
        go_region_held3 (fun w'=>w'.cell? ⟨vb,0,none⟩=some (.string s)∧w'.cell? ⟨vb,1,none⟩=some (.int .i64 j)∧w'.frozen? ⟨vb,1,none⟩=false) (first | exact e4 | go_keep)
         (first | (go_at_call 130;refine (hP _ (by first | exact hbb | exact hbb.trans (belowD _ _ _) | exact (hbb.trans (belowD _ _ _)).trans (belowD _ _ _)) _ hes).mono ?_;rw [HO.out];rintro e w1 ⟨rfl,k1⟩;have e4:w1.cell? ⟨vb,0,none⟩=some (.string s)∧w1.cell? ⟨vb,1,none⟩=some (.int .i64 j)∧w1.frozen? ⟨vb,1,none⟩=false:=⟨(k1.cell (p:=⟨vb,0,none⟩) (by simpa using vl)).trans (by simpa using v0),(k1.cell (p:=⟨vb,1,none⟩) (by simpa using vl)).trans (by simpa using v1),(World.frozen?_of_block (k1.block vb (by simpa using vl))).trans (by simpa using g1)⟩))
        go_wp2_with fail
        refine bodyPost_ret (v:=.tuple #[numV n,.bool true]) (by simp [results,Tryz.results72,go_sem]) rfl ?_
        rw [← HR.out,HR2.out]
        exact ⟨rfl,hv.same (k1.block _ (by simpa using vl)),(hfr.drewN _).trans (Fr.of_below (D:=(· = vb)) k1) (fun _ _ e=>e)⟩
       | none =>
        go_region_held3 (fun w'=>w'.cell? ⟨vb,0,none⟩=some (.string s)∧w'.cell? ⟨vb,1,none⟩=some (.int .i64 j)∧w'.frozen? ⟨vb,1,none⟩=false) (first | exact e4 | go_keep)
         (first | (go_at_call 130;refine (hP _ (by first | exact hbb | exact hbb.trans (belowD _ _ _) | exact (hbb.trans (belowD _ _ _)).trans (belowD _ _ _)) _ hes).mono ?_;rw [HO.out];rintro e w1 ⟨⟨x,T,pp,rfl⟩,k1⟩;have e4:w1.cell? ⟨vb,0,none⟩=some (.string s)∧w1.cell? ⟨vb,1,none⟩=some (.int .i64 j)∧w1.frozen? ⟨vb,1,none⟩=false:=⟨(k1.cell (p:=⟨vb,0,none⟩) (by simpa using vl)).trans (by simpa using v0),(k1.cell (p:=⟨vb,1,none⟩) (by simpa using vl)).trans (by simpa using v1),(World.frozen?_of_block (k1.block vb (by simpa using vl))).trans (by simpa using g1)⟩))
        go_wp2_with fail
        refine bodyPost_ret (v:=.tuple #[.nilIface,.bool false]) (by simp [results,Tryz.results72,go_sem]) rfl ?_
        rw [← HR.out,HR2.out]
        exact ⟨rfl,(hv.same (k1.block _ (by simpa using vl))).set,((hfr.drewN _).trans (Fr.of_below (D:=(· = vb)) k1) (fun _ _ e=>e)).setCell _ (.inl rfl)⟩
end Go.Proofs.Tryz
namespace Go.Proofs.Tryz
set_option maxHeartbeats 16000000
open Go.RowKit
set_option maxRecDepth 10000
abbrev El:=ByteArray×(IV×Bys)
def elKey (x:El):Bys:=x.1.data.toList
def Mem (w:World) (g C:Nat) (L:List El):Prop:=∃ cs:Array Value,w.heap[g]? = some (.cells cs 107 (0,0))∧cs.size=C∧2 * L.length≤C∧∀ i x,L[i]? = some x→cs[i * 2]? = some (.string x.1)∧cs[i * 2+1]? = some (iv x.2.1)
theorem Mem.at {w:World}{g C i:Nat}{L:List El}{x:El}(h:Mem w g C L) (hi:L[i]? = some x):w.cell? ⟨g,i * 2,none⟩=some (.string x.1)∧w.cell? ⟨g,i * 2+1,none⟩=some (iv x.2.1):=by
 obtain ⟨cs,h0,_,_,h1⟩:=h
 exact ⟨cells_cell h0 (h1 i x hi).1,cells_cell h0 (h1 i x hi).2⟩
theorem Mem.free {w:World}{g C:Nat}{L:List El}(h:Mem w g C L) (o:Nat):w.frozen? ⟨g,o,none⟩=false:=by
 obtain ⟨cs,h0,_⟩:=h
 exact cells_free h0
theorem Mem.lt {w:World}{g C:Nat}{L:List El}(h:Mem w g C L):g < w.heap.size:=by
 obtain ⟨cs,h0,_⟩:=h
 exact lt_of_block h0
theorem Mem.same {w w':World}{g C:Nat}{L:List El}(h:Mem w g C L) (e:w'.heap[g]? = w.heap[g]?):Mem w' g C L:=by
 obtain ⟨cs,h0,h1⟩:=h
 exact ⟨cs,e.trans h0,h1⟩
theorem Mem.set {w:World}{g C i:Nat}{L:List El}(h:Mem w g C L) (x:El) (hi:i < L.length):Mem ((w.setCell ⟨g,i * 2,none⟩ (.string x.1)).setCell ⟨g,i * 2+1,none⟩ (iv x.2.1)) g C (L.set i x):=by
 obtain ⟨cs,h0,h1,h2,h3⟩:=h
 refine ⟨_,cells_set (cells_set h0),by simp [h1],by simpa using h2,fun j y hj=>?_⟩
 rw [List.getElem?_set] at hj
 simp only [Array.getElem?_setIfInBounds,Array.size_setIfInBounds]
 by_cases e:i=j
 ·subst e
  rw [if_pos rfl,if_pos hi] at hj
  cases hj
  rw [if_neg (by omega),if_pos rfl,if_pos (by omega),if_pos rfl,if_pos (by omega)]
  exact ⟨rfl,rfl⟩
 ·rw [if_neg e] at hj
  rw [if_neg (by omega),if_neg (by omega),if_neg (by omega),if_neg (by omega)]
  exact h3 j y hj
theorem swapRange_ok {w:World}{g C cap a b n:Nat}{L:List El}(f:Value) (h:Mem w g C L) (hl:L.length≤10000000) (hab:a+n≤b) (hbn:b+n≤L.length) :
  Calls Tryz.prog 322 #[.slice (some ⟨g,0,none⟩) L.length cap,.int .i64 a,.int .i64 b,.int .i64 n,f] w fun e w'=>e = .returned (.tuple #[])∧Mem w' g C (swpR L a b n)∧Fr (· = g) w w':=by
 go_enter Tryz.func322,Tryz.ntmps322
 go_wp2_with fail
 go_loopg [10] n (fun k v wr=>∃ i:Nat,i+k=n∧v = .int .i64 i∧Mem wr g C (swpR L a b i)∧Fr (· = g) w wr)
 case atStart=>exact ⟨0,by omega,rfl,h,Fr.refl _ _⟩
 case round =>
  obtain ⟨i,hik,rfl,hM,hfr⟩:=hrel
  match gk,hik with
  | 0,hik =>
   have hi':¬ (i:Int) < (n:Int):=by omega
   go_wp2_with fail
   go_end0
   obtain rfl:i=n:=by omega
   exact ⟨rfl,hM,hfr⟩
  | k+1,hik =>
   have hi':(i:Int) < (n:Int):=by omega
   have hx:∃ x,(swpR L a b i)[a+i]? = some x:=⟨_,List.getElem?_eq_getElem (by rw [swpR_len];omega)⟩
   have hy:∃ y,(swpR L a b i)[b+i]? = some y:=⟨_,List.getElem?_eq_getElem (by rw [swpR_len];omega)⟩
   obtain ⟨⟨kx,⟨Tx,ux⟩,tx⟩,hx⟩:=hx
   obtain ⟨⟨ky,⟨Ty,uy⟩,ty⟩,hy⟩:=hy
   obtain ⟨x0,x1⟩:=hM.at hx
   obtain ⟨y0,y1⟩:=hM.at hy
   simp only [iv] at x0 x1 y0 y1
   obtain ⟨p,hp⟩:∃ p,a+i=p:=⟨_,rfl⟩
   obtain ⟨q,hq⟩:∃ q,b+i=q:=⟨_,rfl⟩
   rw [hp] at hx x0 x1
   rw [hq] at hy y0 y1
   have ep:(a:Int)+(i:Int)=(p:Int):=by omega
   have eq:(b:Int)+(i:Int)=(q:Int):=by omega
   have hpl:(p:Int) < (L.length:Int):=by omega
   have hql:(q:Int) < (L.length:Int):=by omega
   have hp0:(0:Int)≤(p:Int):=by omega
   have hq0:(0:Int)≤(q:Int):=by omega
   have fz:=hM.free
   go_wp2_with fail
   have mixed:Tryz.prog.follows Departure.mixedOrders=true:=by kernel_rfl
   go_big_region_o
   go_wp2_with fail
   go_roundg k
   case measure=>omega
   case rel =>
    have hpl2:p < (swpR L a b i).length:=by rw [swpR_len];omega
    have hql2:q < ((swpR L a b i).set p (ky,(Ty,uy),ty)).length:=by rw [List.length_set,swpR_len];omega
    have h2:=(hM.set (ky,(Ty,uy),ty) hpl2).set (kx,(Tx,ux),tx) hql2
    refine ⟨i+1,by omega,by go_num,?_,?_⟩
    ·rw [swpR,hp,hq,swp_eq hx hy]
     exact h2
    ·exact ((((hfr.setCell _ (.inl rfl)).setCell _ (.inl rfl)).setCell _ (.inl rfl)).setCell _ (.inl rfl)).drewN 1
theorem rot_gt {X A1 A2 B Y:List El}(h:A1.length=B.length):swpR (X ++ ((A1 ++ A2) ++ (B ++ Y))) X.length (X.length+(A1 ++ A2).length) B.length=(X ++ B) ++ (A2 ++ (A1 ++ Y)):=by
 have:=swpR_app X A1 A2 B Y h
 rw [List.append_assoc,List.length_append,← h,this,List.append_assoc]
theorem rot_lt {X A B1 B2 Y:List El}(h:A.length=B2.length):swpR (X ++ (A ++ ((B1 ++ B2) ++ Y))) X.length (X.length+(A.length+B1.length)) A.length=X ++ (B2 ++ (B1 ++ (A ++ Y))):=by
 have:=swpR_app X A B1 B2 Y h
 rw [List.append_assoc,this]
theorem rot_eq {X A B Y:List El}(h:A.length=B.length):swpR (X ++ (A ++ (B ++ Y))) X.length (X.length+A.length) A.length=X ++ (B ++ (A ++ Y)):=by
 have:=swpR_app X A [] B Y h
 simpa using this
theorem rotate_ok {w:World}{g C cap a m b:Nat}{X A B Y:List El}(f:Value) (h:Mem w g C (X ++ (A ++ (B ++ Y)))) (hl:(X ++ (A ++ (B ++ Y))).length≤10000000) (ha:X.length=a) (hm:a+A.length=m) (hb:m+B.length=b) (hA:A≠[]) (hB:B≠[]) :
  Calls Tryz.prog 302 #[.slice (some ⟨g,0,none⟩) (X ++ (A ++ (B ++ Y))).length cap,.int .i64 a,.int .i64 m,.int .i64 b,f] w fun e w'=>e = .returned (.tuple #[])∧Mem w' g C (X ++ (B ++ (A ++ Y)))∧Fr (· = g) w w':=by
 obtain ⟨N,hN⟩:∃ N,(X ++ (A ++ (B ++ Y))).length=N:=⟨_,rfl⟩
 obtain ⟨R,hR⟩:∃ R,X ++ (B ++ (A ++ Y))=R:=⟨_,rfl⟩
 rw [hN] at hl ⊢
 rw [hR]
 have hlA:0 < A.length:=List.length_pos_iff.2 hA
 have hlB:0 < B.length:=List.length_pos_iff.2 hB
 have hN':a+(A.length+(B.length+Y.length))=N:=by rw [← hN];simp only [List.length_append,ha]
 have HN:Hid _:=hN
 have HR:Hid _:=hR
 have HM:Aside _:=h
 clear hN hR h hA hB
 go_enter Tryz.func302,Tryz.ntmps302
 go_wp2_with fail
 go_loopg [10,11] (N+N) (fun k v10 v11 wr=>∃ (X' A' B' Y':List El) (i j:Nat),v10 = .int .i64 i∧v11 = .int .i64 j∧A'.length=i∧B'.length=j∧0 < i∧0 < j∧X'.length+i=m∧i+j≤k∧Aside (Mem wr g C (X' ++ (A' ++ (B' ++ Y'))))∧Fr (· = g) w wr∧Hid (X' ++ (B' ++ (A' ++ Y'))=R)∧Hid ((X' ++ (A' ++ (B' ++ Y'))).length=N)∧X'.length+(i+(j+Y'.length))=N)
 case atStart=>exact ⟨X,A,B,Y,A.length,B.length,by congr 1;omega,by congr 1;omega,rfl,rfl,hlA,hlB,by omega,by omega,HM,Fr.refl _ _,HR,HN,by omega⟩
 case round =>
  clear HM HN HR hN' hlA hlB
  obtain ⟨X',A',B',Y',i,j,rfl,rfl,hi,hj,i0,j0,hx,hk,hM,hfr,hr,hn,hn'⟩:=hrel
  obtain ⟨p,hp⟩:∃ p,X'.length=p:=⟨_,rfl⟩
  rw [hp] at hx hn'
  have ep:(m:Int) - (i:Int)=(p:Int):=by omega
  rcases Nat.lt_trichotomy i j with hc | hc | hc
  ·have c1:((i:Int) != (j:Int))=true:=by simp;omega
   have c2:¬ (j:Int) < (i:Int):=by omega
   obtain ⟨q,hq⟩:∃ q,m+j=q:=⟨_,rfl⟩
   obtain ⟨u,hu⟩:∃ u,q - i=u:=⟨_,rfl⟩
   have eq:(m:Int)+(j:Int)=(q:Int):=by omega
   have eu:(q:Int) - (i:Int)=(u:Int):=by omega
   have hs:=swapRange_ok (cap:=cap) (a:=p) (b:=u) (n:=i) f hM.out (by rw [hn.out];omega) (by omega) (by rw [hn.out];omega)
   rw [hn.out] at hs
   have HQ:Hid _:=hq
   have HU:Hid _:=hu
   clear hq hu
   go_wp2_with (go_at_call 322;refine hs.mono ?_;rintro e w1 ⟨rfl,hM1,fr1⟩)
   go_roundg j
   case measure=>omega
   case rel =>
    obtain ⟨B1,B2,rfl,hl1,hl2⟩:∃ B1 B2:List El,B'=B1 ++ B2∧B1.length=j - i∧B2.length=i:=⟨B'.take (j - i),B'.drop (j - i),(List.take_append_drop _ _).symm,by simp;omega,by simp;omega⟩
    have e1:=rot_lt (X:=X') (A:=A') (B1:=B1) (B2:=B2) (Y:=Y') (by omega)
    rw [hp,show p+(A'.length+B1.length)=u by have:=HQ.out;have:=HU.out;omega,hi] at e1
    rw [e1] at hM1
    refine ⟨X',B2,B1,A' ++ Y',i,j - i,rfl,by congr 1;omega,hl2,hl1,by omega,by omega,by omega,by omega,hM1,hfr.trans fr1 (fun _ _ e=>e),?_,?_,?_⟩
    ·show _=_
     rw [← hr.out,List.append_assoc]
    ·show _=_
     rw [← hn.out];simp only [List.length_append];omega
    ·simp only [List.length_append];omega
  ·subst hc
   have c1:((i:Int) != (i:Int))=false:=by simp
   have hs:=swapRange_ok (cap:=cap) (a:=p) (b:=m) (n:=i) f hM.out (by rw [hn.out];omega) (by omega) (by rw [hn.out];omega)
   rw [hn.out] at hs
   go_wp2_with (go_at_call 322;refine hs.mono ?_;rintro e w1 ⟨rfl,hM1,fr1⟩)
   go_end0
   have hmb:m=X'.length+A'.length:=by omega
   have e1:swpR (X' ++ (A' ++ (B' ++ Y'))) p m i=X' ++ (B' ++ (A' ++ Y')):=by
    rw [hmb,← hp,← hi]
    exact rot_eq (by omega)
   rw [e1,hr.out] at hM1
   exact ⟨rfl,hM1,hfr.trans fr1 (fun _ _ e=>e)⟩
  ·have c1:((i:Int) != (j:Int))=true:=by simp;omega
   have c2:(j:Int) < (i:Int):=by omega
   have hs:=swapRange_ok (cap:=cap) (a:=p) (b:=m) (n:=j) f hM.out (by rw [hn.out];omega) (by omega) (by rw [hn.out];omega)
   rw [hn.out] at hs
   go_wp2_with (go_at_call 322;refine hs.mono ?_;rintro e w1 ⟨rfl,hM1,fr1⟩)
   go_roundg i
   case measure=>omega
   case rel =>
    obtain ⟨A1,A2,rfl,hl1,hl2⟩:∃ A1 A2:List El,A'=A1 ++ A2∧A1.length=j∧A2.length=i - j:=⟨A'.take j,A'.drop j,(List.take_append_drop _ _).symm,by simp;omega,by simp;omega⟩
    have e1:=rot_gt (X:=X') (A1:=A1) (A2:=A2) (B:=B') (Y:=Y') (by omega)
    rw [hp,show p+(A1 ++ A2).length=m by omega,hj] at e1
    rw [e1] at hM1
    refine ⟨X' ++ B',A2,A1,Y',i - j,j,by congr 1;omega,rfl,hl2,hl1,by omega,by omega,by simp only [List.length_append];omega,by omega,hM1,hfr.trans fr1 (fun _ _ e=>e),?_,?_,?_⟩
    ·show _=_
     rw [← hr.out,List.append_assoc,List.append_assoc]
    ·show _=_
     rw [← hn.out];simp only [List.length_append];omega
    ·simp only [List.length_append];omega
end Go.Proofs.Tryz
namespace Go.Proofs.Tryz
set_option maxHeartbeats 16000000
open Go.RowKit
set_option maxRecDepth 10000
def ComparesStr:Prop:=∀ (a b:ByteArray) (w:World),Calls Tryz.prog 188 #[.string a,.string b] w fun e w'=>e = .returned (.int .i64 (Lib.compareBytes a.data.toList b.data.toList))∧w'=w
theorem memCmp_ok (hC:ComparesStr) (kx ky:ByteArray) (Tx Ty:Nat) (ux uy:Value) (w:World) :
  Calls Tryz.prog 187 #[.agg #[.string kx,.iface Tx ux],.agg #[.string ky,.iface Ty uy]] w fun e w'=>e = .returned (.int .i64 (Lib.compareBytes kx.data.toList ky.data.toList))∧Below w.heap.size w w':=by
 go_enter Tryz.func187,Tryz.ntmps187
 go_wp2_with (go_at_call 188;refine (hC _ _ _).mono ?_;rintro e w1 ⟨rfl,hw⟩;subst w1)
 go_ret
 exact ⟨rfl,((Below.refl _ _).alloc (Nat.le_refl _) _).alloc (by simp) _⟩
theorem Mem.swap {w:World}{g C i j:Nat}{L:List El}{kx ky:ByteArray}{Tx Ty:Nat}{ux uy:Value}{tx ty:Bys}(h:Mem w g C L) (hx:L[i]? = some (kx,(Tx,ux),tx)) (hy:L[j]? = some (ky,(Ty,uy),ty)):Mem ((((w.setCell ⟨g,i * 2,none⟩ (.string ky)).setCell ⟨g,i * 2+1,none⟩ (.iface Ty uy)).setCell ⟨g,j * 2,none⟩ (.string kx)).setCell ⟨g,j * 2+1,none⟩ (.iface Tx ux)).drew g C (swp L i j):=by
 have h2:=(h.set (ky,(Ty,uy),ty) (List.getElem?_eq_some_iff.1 hx).1).set (kx,(Tx,ux),tx) (i:=j) (by rw [List.length_set];exact (List.getElem?_eq_some_iff.1 hy).1)
 rw [← swp_eq hx hy] at h2
 exact h2
theorem fr_swap {w wr:World}{g i j:Nat}{a b c d:Value}(h:Fr (· = g) w wr):Fr (· = g) w ((((wr.setCell ⟨g,i * 2,none⟩ a).setCell ⟨g,i * 2+1,none⟩ b).setCell ⟨g,j * 2,none⟩ c).setCell ⟨g,j * 2+1,none⟩ d).drew :=
 ((((h.setCell _ (.inl rfl)).setCell _ (.inl rfl)).setCell _ (.inl rfl)).setCell _ (.inl rfl)).drewN 1
def cmpF:Value:=.func (.func 187) #[] #[]
theorem kat_mid {X A Y:List El}{i:Nat}(h0:X.length≤i) (h1:i < X.length+A.length):kat elKey (X ++ (A ++ Y)) i=kat elKey A (i - X.length):=by
 unfold kat
 rw [List.getElem?_append_right h0,List.getElem?_append_left (by omega)]
theorem kat_some {L:List El}{i:Nat}{x:El}(h:L[i]? = some x):kat elKey L i=elKey x:=by simp [kat,h]
theorem sym_left (hC:ComparesStr) {w:World}{g C cap a m b:Nat}{X B Y:List El}{x:El}(h:Mem w g C (X ++ ([x] ++ (B ++ Y)))) (hl:(X ++ ([x] ++ (B ++ Y))).length≤10000000) (ha:X.length=a) (hm:a+1=m) (hb:m+B.length=b) (hB:Srt elKey B) :
  Calls Tryz.prog 277 #[.slice (some ⟨g,0,none⟩) (X ++ ([x] ++ (B ++ Y))).length cap,.int .i64 a,.int .i64 m,.int .i64 b,cmpF] w fun e w'=>e = .returned (.tuple #[])∧(∃ R,StS elKey ([x] ++ B) R∧Mem w' g C (X ++ (R ++ Y)))∧Fr (· = g) w w':=by
 obtain ⟨L,hL⟩:∃ L,X ++ ([x] ++ (B ++ Y))=L:=⟨_,rfl⟩
 obtain ⟨N,hN⟩:∃ N,L.length=N:=⟨_,rfl⟩
 have hN':a+(1+(B.length+Y.length))=N:=by rw [← hN,← hL];simp only [List.length_append,ha,List.length_singleton]
 rw [hL] at h hl ⊢
 rw [hN] at hl ⊢
 have hxa:L[a]? = some x:=by rw [← hL,← ha];simp
 have HL:Hid _:=hL
 have HN:Hid _:=hN
 have HM:Aside _:=h
 have HX:Hid _:=hxa
 obtain ⟨kx,⟨Tx,ux⟩,tx⟩:=x
 clear hL hN h hxa
 have em:(m:Int) - (a:Int)=1:=by omega
 unfold cmpF
 go_enter Tryz.func277,Tryz.ntmps277
 go_wp2_with fail
 go_loopg [10,11] (b - m) (fun k v1 v2 wr=>∃ (i j:Nat),v1 = .int .i64 i∧v2 = .int .i64 j∧m≤i∧i≤j∧j≤b∧j - i≤k∧Aside (Mem wr g C L)∧Fr (· = g) w wr∧Hid (i=m∨klt (kat elKey L (i - 1)) kx.data.toList)∧Hid (j=b∨kle kx.data.toList (kat elKey L j)))
 case atStart=>exact ⟨m,b,rfl,rfl,by omega,by omega,by omega,by omega,HM,Fr.refl _ _,.inl rfl,.inl rfl⟩
 case round =>
  clear HM
  obtain ⟨i,j,rfl,rfl,hmi,hij,hjb,hk,hM,hfr,hi,hj⟩:=hrel
  by_cases hlt:i < j
  ·have hlt':(i:Int) < (j:Int):=by omega
   obtain ⟨q,hq⟩:∃ q,(i+j) / 2=q:=⟨_,rfl⟩
   obtain ⟨⟨ky,⟨Ty,uy⟩,ty⟩,hy⟩:∃ y,L[q]? = some y:=⟨_,List.getElem?_eq_getElem (by rw [HN.out];omega)⟩
   obtain ⟨x0,x1⟩:=hM.out.at HX.out
   obtain ⟨y0,y1⟩:=hM.out.at hy
   simp only [iv] at x0 x1 y0 y1
   have hql:(q:Int) < (N:Int):=by omega
   have hq0:(0:Int)≤(q:Int):=by omega
   have hal:(a:Int) < (N:Int):=by omega
   have hvl:=hM.out.lt
   have eq:((i:Int)+(j:Int)) / 2=(q:Int):=by omega
   have HQ:Hid _:=hq
   clear hq
   have hcm:=memCmp_ok hC ky kx Ty Tx uy ux
   obtain ⟨cc,hcc⟩:∃ cc,Lib.compareBytes ky.data.toList kx.data.toList=cc:=⟨_,rfl⟩
   simp only [hcc] at hcm
   have HCC:Hid _:=hcc
   clear hcc
   go_wp2_with fail
   go_region_held3 (fun w'=>w'.cell? ⟨g,q * 2,none⟩=some (.string ky)∧w'.cell? ⟨g,q * 2+1,none⟩=some (.iface Ty uy)∧w'.cell? ⟨g,a * 2,none⟩=some (.string kx)∧w'.cell? ⟨g,a * 2+1,none⟩=some (.iface Tx ux)) (first | exact e4 | go_keep)
    (first | (go_at_call 187;refine (hcm _).mono ?_;rintro e w1 ⟨rfl,k1⟩;have e4:w1.cell? ⟨g,q * 2,none⟩=some (.string ky)∧w1.cell? ⟨g,q * 2+1,none⟩=some (.iface Ty uy)∧w1.cell? ⟨g,a * 2,none⟩=some (.string kx)∧w1.cell? ⟨g,a * 2+1,none⟩=some (.iface Tx ux):=⟨(k1.cell (p:=⟨g,q * 2,none⟩) (by simpa using hvl)).trans (by simpa using y0),(k1.cell (p:=⟨g,q * 2+1,none⟩) (by simpa using hvl)).trans (by simpa using y1),(k1.cell (p:=⟨g,a * 2,none⟩) (by simpa using hvl)).trans (by simpa using x0),(k1.cell (p:=⟨g,a * 2+1,none⟩) (by simpa using hvl)).trans (by simpa using x1)⟩))
   have hM1:Mem w1 g C L:=hM.out.same ((k1.block g (by simpa using hvl)).trans rfl)
   have fr1:Fr (· = g) w w1:=(hfr.drewN _).trans (Fr.of_below (D:=(· = g)) k1) (fun _ _ e=>e)
   have hky:kat elKey L q=ky.data.toList:=kat_some hy
   by_cases hc:cc < 0
   ·go_wp2_with fail
    go_roundg (j - (q+1))
    case measure=>have:=HQ.out;omega
    case rel =>
     refine ⟨q+1,j,by go_num,rfl,by have:=HQ.out;omega,by have:=HQ.out;omega,hjb,by omega,hM1,fr1,.inr ?_,hj⟩
     rw [Nat.add_sub_cancel,hky,klt,HCC.out]
     exact hc
   ·go_wp2_with fail
    go_roundg (q - i)
    case measure=>have:=HQ.out;omega
    case rel =>
     refine ⟨i,q,rfl,rfl,hmi,by have:=HQ.out;omega,by have:=HQ.out;omega,by omega,hM1,fr1,hi,.inr ?_⟩
     rw [hky,kle,HCC.out]
     omega
  ·have hlt':¬ (i:Int) < (j:Int):=by omega
   obtain rfl:i=j:=by omega
   obtain ⟨v,hv⟩:∃ v,i - m=v:=⟨_,rfl⟩
   have hL:=HL.out
   have hkB:∀ q,m≤q→q < b→kat elKey L q=kat elKey B (q - m):=fun q h1 h2=>by
    rw [← hL]
    have:=kat_mid (X:=X ++ [(kx,(Tx,ux),tx)]) (A:=B) (Y:=Y) (i:=q) (by simp;omega) (by simp;omega)
    rw [List.append_assoc] at this
    rw [this]
    congr 1
    simp;omega
   have hst:StS elKey ([(kx,(Tx,ux),tx)] ++ B) (B.take v ++ ((kx,(Tx,ux),tx) :: B.drop v)):=by
    refine sts_left hB (by omega) ?_ ?_
    ·rcases hi.out with e | e
     ·exact .inl (by omega)
     ·by_cases e0:i=m
      ·exact .inl (by omega)
      ·right
       rw [hkB _ (by omega) (by omega)] at e
       rw [show v - 1=i - 1 - m by omega]
       exact e
    ·rcases hj.out with e | e
     ·exact .inl (by omega)
     ·by_cases e0:i=b
      ·exact .inl (by omega)
      ·right
       rw [hkB _ (by omega) (by omega),hv] at e
       exact e
   obtain ⟨B1,hB1⟩:∃ B1,B.take v=B1:=⟨_,rfl⟩
   obtain ⟨B2,hB2⟩:∃ B2,B.drop v=B2:=⟨_,rfl⟩
   have hB12:B=B1 ++ B2:=by rw [← hB1,← hB2,List.take_append_drop]
   have hl1:B1.length=v:=by rw [← hB1];simp;omega
   rw [hB1,hB2] at hst
   have hl12:B.length=B1.length+B2.length:=by rw [hB12,List.length_append]
   have hM2:Mem wr g C (X ++ ([] ++ ((kx,(Tx,ux),tx) :: (B1 ++ (B2 ++ Y))))):=by
    have:=hM.out
    rw [← hL,hB12] at this
    simpa using this
   have HM2:Aside _:=hM2
   have HST:Hid _:=hst
   clear hM2 hst hB1 hB2 hB12 hkB hL hi hj hM HX HL hB
   go_wp2_with fail
   go_loopg [13] v (fun k v1 wr=>∃ (P Q:List El) (c:Nat),v1 = .int .i64 c∧Hid (c=a+P.length)∧P.length+Q.length=v∧Q.length≤k∧Hid (P ++ Q=B1)∧Aside (Mem wr g C (X ++ (P ++ ((kx,(Tx,ux),tx) :: (Q ++ (B2 ++ Y))))))∧Fr (· = g) w wr)
   case atStart=>exact ⟨[],B1,a,rfl,rfl,by simpa using hl1,by omega,rfl,HM2,hfr⟩
   case round =>
    clear HM2
    obtain ⟨P,Q,c,rfl,hc,hpq,hk2,hPQ,hM,hfr⟩:=hrel
    cases Q with
    | nil =>
     have hcl:¬ (c:Int) < (i:Int) - 1:=by have:=hc.out;simp at hpq;omega
     go_wp2_with fail
     refine bodyPost_ret (v:=.tuple #[]) (by simp [results,Tryz.results277,go_sem]) rfl ⟨rfl,⟨_,HST.out,?_⟩,hfr⟩
     have e1:P=B1:=by simpa using hPQ.out
     subst e1
     simpa using hM.out
    | cons y Q =>
     obtain ⟨ky,⟨Ty,uy⟩,ty⟩:=y
     simp only [List.length_cons] at hpq hk2
     have hcl:(c:Int) < (i:Int) - 1:=by have:=hc.out;omega
     obtain ⟨d,hd⟩:∃ d,c+1=d:=⟨_,rfl⟩
     have ed:(c:Int)+1=(d:Int):=by omega
     have hxp:(X ++ P).length=c:=by have:=hc.out;simp;omega
     have hM':=hM.out
     rw [← List.append_assoc] at hM'
     simp only [List.cons_append] at hM'
     have hx:((X ++ P) ++ ((kx,(Tx,ux),tx) :: ((ky,(Ty,uy),ty) :: (Q ++ (B2 ++ Y)))))[c]? = some (kx,(Tx,ux),tx):=by rw [← hxp];simp
     have hy:((X ++ P) ++ ((kx,(Tx,ux),tx) :: ((ky,(Ty,uy),ty) :: (Q ++ (B2 ++ Y)))))[d]? = some (ky,(Ty,uy),ty):=by rw [← hd,← hxp,List.getElem?_append_right (by omega)];simp
     obtain ⟨x0,x1⟩:=hM'.at hx
     obtain ⟨y0,y1⟩:=hM'.at hy
     simp only [iv] at x0 x1 y0 y1
     have hcN:(c:Int) < (N:Int):=by omega
     have hdN:(d:Int) < (N:Int):=by omega
     have hc0:(0:Int)≤(c:Int):=by omega
     have hd0:(0:Int)≤(d:Int):=by omega
     have fz:=hM'.free
     have mixed:Tryz.prog.follows Departure.mixedOrders=true:=by kernel_rfl
     have HD:Hid _:=hd
     clear hd
     go_wp2_with fail
     go_big_region_o
     go_wp2_with fail
     go_roundg Q.length
     case measure=>omega
     case rel =>
      have h2:=hM'.swap hx hy
      rw [← HD.out,← hxp,swp_adj,hxp,HD.out] at h2
      refine ⟨P ++ [(ky,(Ty,uy),ty)],Q,d,rfl,?_,by simp;omega,by omega,?_,?_,?_⟩
      ·show _=_
       have:=hc.out;have:=HD.out;simp;omega
      ·show _=_
       rw [← hPQ.out];simp
      ·show Mem _ _ _ _
       simpa using h2
      ·exact fr_swap hfr
end Go.Proofs.Tryz
