import Derived.Test.YtfocepfmpnpaiaaGreatDoorYj4
import Derived.Test.YtfocepfmpnpaiaaGreatDoorNames1
import Derived.Test.YtfocepfmpnpaiaaGreatDoorCases
import Derived.Deep.RegionHeld3
set_option linter.all false
namespace Go.Proofs.Tryz
set_option maxHeartbeats 16000000
open Go.RowKit
set_option maxRecDepth 10000
def CkSt (w:World) (cb:Nat) (l:Int):Prop:=∃ (p:Int) (f:Bool),w.cell? ⟨cb,0,none⟩=some (.int .i64 p)∧w.cell? ⟨cb,1,none⟩=some (.bool f)∧(∀ o,w.frozen? ⟨cb,o,none⟩=false)∧w.cell? ⟨cb,3,none⟩=none∧(f=true→l=p∧0≤l)∧(f=false→l = -1)
structure KpC (cb:Nat) (a w:World):Prop where
 os:w.os=a.os
 tape:w.tape=a.tape
 output:w.output=a.output
 size:a.heap.size≤w.heap.size
 block:∀ k,k < a.heap.size→k≠cb→w.heap[k]? = a.heap[k]?
section
variable {a b c w w' : World} {cb : Nat} {l : Int}
theorem KpC.refl (cb:Nat) (w:World):KpC cb w w:=⟨rfl,rfl,rfl,Nat.le_refl _,fun _ _ _=>rfl⟩
theorem KpC.trans (h:KpC cb a b) (k:KpC cb b c):KpC cb a c:=⟨k.os.trans h.os,k.tape.trans h.tape,k.output.trans h.output,Nat.le_trans h.size k.size,fun i hi hn=>(k.block i (Nat.lt_of_lt_of_le hi h.size) hn).trans (h.block i hi hn)⟩
theorem KpC.of_below (h:Below a.heap.size a b):KpC cb a b:=⟨h.os,h.tape,h.output,h.size,fun i hi _=>h.block i hi⟩
theorem KpC.set {o:Nat}{u:Value}:KpC cb w (w.setCell ⟨cb,o,none⟩ u):=⟨rfl,rfl,rfl,by simp,fun k _ hk=>Below.heap_setCell _ _ _ _ (by simpa using hk)⟩
theorem CkSt.lt (h:CkSt w cb l):cb < w.heap.size:=by
 obtain ⟨p,f,h0,_⟩:=h
 exact cell_lt h0
theorem CkSt.below (h:CkSt w cb l) (k:Below w.heap.size w w'):CkSt w' cb l:=by
 have hl:=h.lt
 obtain ⟨p,f,h0,h1,hf,hc,h2⟩:=h
 exact ⟨p,f,(k.cell (p:=⟨cb,0,none⟩) hl).trans h0,(k.cell (p:=⟨cb,1,none⟩) hl).trans h1,fun o=>(k.frozen (p:=⟨cb,o,none⟩) hl).trans (hf o),(k.cell (p:=⟨cb,3,none⟩) hl).trans hc,h2⟩
theorem Scope.kept (k:KpC cb w w') (hs:CkSt w cb l):∀ {v:Value}{env:Env},Scope w v env→Scope w' v env
 | _,[],h=>h
 | _,(_,_,_) :: _,⟨b,a,e,h0,h1,h2,h3,h4⟩=>by
  have hb:b≠cb:=fun e=>by
   obtain ⟨p,f,_,_,_,hc,_⟩:=hs
   rw [e,hc] at h3
   cases h3
  have hk:=k.block b (cell_lt h0) hb
  exact ⟨b,a,e,(World.cell?_of_block (w:=w) hk).trans h0,(World.cell?_of_block (w:=w) hk).trans h1,(World.cell?_of_block (w:=w) hk).trans h2,(World.cell?_of_block (w:=w) hk).trans h3,Scope.kept k hs h4⟩
def CkP (cb:Nat) (l c:Int) (w:World) (e:Ending) (w':World):Prop:=e = .returned (.tuple #[])∧KpC cb w w'∧CkSt w' cb (lostF l c)
end
theorem miss_ok {w:World}{cb:Nat}{l p:Int} (h:CkSt w cb l) (hp:0≤p) :
  Calls Tryz.prog 92 #[.pointer (some ⟨cb,0,none⟩),.int .i64 p] w (CkP cb l p w):=by
 have hl:=h.lt
 obtain ⟨q,f,h0,h1,hf,hc3,h2,h3⟩:=h
 cases f with
 | true =>
  obtain ⟨rfl,hq⟩:=h2 rfl
  have e:Aside (lostF l p=l):=by show lostF l p=l;unfold lostF;rw [if_pos hq]
  have HS:Aside (CkSt w cb l):=⟨l,true,h0,h1,hf,hc3,fun _=>⟨rfl,hq⟩,fun e=>by cases e⟩
  clear h2 h3 hc3
  go_enter Tryz.func92,Tryz.ntmps92
  go_wp2_with fail
  go_end0
  exact ⟨rfl,KpC.refl _ _,by rw [e.out];exact HS.out⟩
 | false =>
  have h3':=h3 rfl
  clear h2 h3
  subst h3'
  have e:Aside (lostF (-1) p=p):=by show lostF (-1) p=p;unfold lostF;rw [if_neg (by omega),if_pos hp]
  have f0:=hf 0
  have f1:=hf 1
  have HF:Aside (∀ o,w.frozen? ⟨cb,o,none⟩=false):=hf
  have HC3:Aside (w.cell? ⟨cb,3,none⟩=none):=hc3
  clear hf hc3
  go_enter Tryz.func92,Tryz.ntmps92
  go_wp2_with fail
  go_end0
  refine ⟨rfl,KpC.set.trans KpC.set,?_⟩
  rw [e.out]
  refine ⟨p,true,?_,?_,fun o=>?_,(World.cell?_setCell_other _ _ _ _ (by simp)).trans ((World.cell?_setCell_other _ _ _ _ (by simp)).trans HC3.out),fun _=>⟨rfl,hp⟩,(fun e=>by cases e)⟩
  ·rw [World.cell?_setCell_other _ _ _ _ (by simp)]
   exact World.cell?_setCell_same _ _ _ h0
  ·exact World.cell?_setCell_same _ _ _ ((World.cell?_setCell_other _ _ _ _ (by simp)).trans h1)
  ·rw [World.frozen?_setCell,World.frozen?_setCell]
   exact HF.out o
def given0 (x:List UInt8):Bool:=x == [101,109,112,116,121] || x == [101,114,114,111,114] || x == [110,111,116] || x == [116,121,112,101] || x == [108,101,110,103,116,104] || x == [107,101,121,115] || x == [97,100,100] || x == [116,111,115,116,114,105,110,103] || x == [116,111,106,115,111,110] || x == [102,114,111,109,106,115,111,110] || x == [115,111,114,116] || x == [114,101,118,101,114,115,101] || x == [101,120,112,108,111,100,101] || x == [105,109,112,108,111,100,101]
theorem givenB_0 (n:ByteArray):givenB n 0=given0 n.data.toList:=by
 unfold givenB
 generalize n.data.toList=x
 rw [Bool.eq_iff_iff]
 simp only [givenT,List.contains_iff_mem,List.mem_cons,Prod.mk.injEq,List.not_mem_nil,given0,Bool.or_eq_true,beq_iff_eq]
 constructor
 ·intro h
  simp at h
  simp only [or_assoc]
  first | exact h | (simp only [or_assoc] at h;exact h)
 ·intro h
  simp
  first | exact h | (simp only [or_assoc] at h;exact h)
theorem isGiven_0 (n:ByteArray) (w:World):Calls Tryz.prog 93 #[.string n,.int .i64 0] w fun e w'=>e = .returned (.bool (given0 n.data.toList))∧w'=w:=by
 rw [← ByteArray.toList_eq]
 go_enter Tryz.func93,Tryz.ntmps93
 go_wp2
 all_goals
  go_ret
  refine ⟨ret_bool ?_,rfl⟩
  simp_all [given0]
def given1 (x:List UInt8):Bool:=x == [101,114,114,111,114] || x == [104,97,115] || x == [115,112,108,105,116] || x == [106,111,105,110] || x == [102,105,114,115,116] || x == [112,97,116,104] || x == [103,101,116,112,97,116,104] || x == [100,101,108,112,97,116,104] || x == [109,97,112] || x == [115,101,108,101,99,116] || x == [114,101,99,117,114,115,101] || x == [114,101,112,101,97,116] || x == [105,115,118,97,108,105,100] || x == [108,97,115,116]
theorem givenB_1 (n:ByteArray):givenB n 1=given1 n.data.toList:=by
 unfold givenB
 generalize n.data.toList=x
 rw [Bool.eq_iff_iff]
 simp only [givenT,List.contains_iff_mem,List.mem_cons,Prod.mk.injEq,List.not_mem_nil,given1,Bool.or_eq_true,beq_iff_eq]
 constructor
 ·intro h
  simp at h
  simp only [or_assoc]
  first | exact h | (simp only [or_assoc] at h;exact h)
 ·intro h
  simp
  first | exact h | (simp only [or_assoc] at h;exact h)
theorem isGiven_1 (n:ByteArray) (w:World):Calls Tryz.prog 93 #[.string n,.int .i64 1] w fun e w'=>e = .returned (.bool (given1 n.data.toList))∧w'=w:=by
 rw [← ByteArray.toList_eq]
 go_enter Tryz.func93,Tryz.ntmps93
 go_wp2
 all_goals
  go_ret
  refine ⟨ret_bool ?_,rfl⟩
  simp_all [given1]
def given2 (x:List UInt8):Bool:=x == [114,97,110,103,101] || x == [108,105,109,105,116] || x == [115,101,116,112,97,116,104] || x == [117,110,116,105,108] || x == [119,104,105,108,101]
theorem givenB_2 (n:ByteArray):givenB n 2=given2 n.data.toList:=by
 unfold givenB
 generalize n.data.toList=x
 rw [Bool.eq_iff_iff]
 simp only [givenT,List.contains_iff_mem,List.mem_cons,Prod.mk.injEq,List.not_mem_nil,given2,Bool.or_eq_true,beq_iff_eq]
 constructor
 ·intro h
  simp at h
  simp only [or_assoc]
  first | exact h | (simp only [or_assoc] at h;exact h)
 ·intro h
  simp
  first | exact h | (simp only [or_assoc] at h;exact h)
theorem isGiven_2 (n:ByteArray) (w:World):Calls Tryz.prog 93 #[.string n,.int .i64 2] w fun e w'=>e = .returned (.bool (given2 n.data.toList))∧w'=w:=by
 rw [← ByteArray.toList_eq]
 go_enter Tryz.func93,Tryz.ntmps93
 go_wp2
 all_goals
  go_ret
  refine ⟨ret_bool ?_,rfl⟩
  simp_all [given2]
theorem isGiven_more (n:ByteArray) (k:Nat) (hk:3≤k) (w:World):Calls Tryz.prog 93 #[.string n,.int .i64 k] w fun e w'=>e = .returned (.bool false)∧w'=w:=by
 have h0:((k:Int) == 0)=false:=by simp;omega
 have h1:((k:Int) == 1)=false:=by simp;omega
 have h2:((k:Int) == 2)=false:=by simp;omega
 go_enter Tryz.func93,Tryz.ntmps93
 go_wp2_with fail
 go_ret
 exact ⟨rfl,rfl⟩
theorem givenB_more (n:ByteArray) (k:Nat) (hk:3≤k):givenB n k=false:=by
 unfold givenB
 generalize n.data.toList=x
 rw [Bool.eq_false_iff]
 intro h
 have h:=List.contains_iff_mem.1 h
 have:∀ q∈givenT,q.2≤2:=by decide
 have:=this _ h
 simp at this
 omega
theorem isGiven_any (n:ByteArray) (k:Nat) (w:World):Calls Tryz.prog 93 #[.string n,.int .i64 k] w fun e w'=>e = .returned (.bool (givenB n k))∧w'=w:=by
 match k with
 | 0=>rw [givenB_0];exact isGiven_0 n w
 | 1=>rw [givenB_1];exact isGiven_1 n w
 | 2=>rw [givenB_2];exact isGiven_2 n w
 | k+3=>rw [givenB_more n (k+3) (by omega)];exact isGiven_more n (k+3) (by omega) w
def FineC (cb:Nat) (s:Option Addr) (w:World) (v:Value) (c:Int):Prop:=∀ (w':World) (l:Int),KpC cb w w'→CkSt w' cb l→
 Calls Tryz.prog 73 #[.pointer (some ⟨cb,0,none⟩),.pointer s,v] w' (CkP cb l c w')
theorem FineC.on {cb:Nat}{s:Option Addr}{w w1:World}{v:Value}{c:Int} (h:FineC cb s w v c) (k:KpC cb w w1):FineC cb s w1 v c:=fun w' l h' hs=>h w' l (k.trans h') hs
def ItemC (cb:Nat) (s:Option Addr) (w:World) (q:Value×Int):Prop:=(q.1 = .nilIface∧q.2 = -1)∨((∃ T b,q.1 = .iface T (.pointer (some ⟨b,0,none⟩)))∧FineC cb s w q.1 q.2)
theorem check_c (cb g o cap:Nat) (s:Option Addr) (qs:List (Value×Int)) (w:World) (l:Int) (hn:qs.length≤100000) (hg:g < w.heap.size) (hgc:g≠cb) (hc:∀ i q,qs[i]? = some q→w.cell? ⟨g,o+i,none⟩=some q.1) (hs:CkSt w cb l) (h1:∀ q∈qs,ItemC cb s w q) :
  Calls Tryz.prog 40 #[.pointer (some ⟨cb,0,none⟩),.pointer s,.slice (some ⟨g,o,none⟩) qs.length cap] w fun e w'=>e = .returned (.tuple #[])∧KpC cb w w'∧CkSt w' cb (qs.foldl (fun l q=>lostF l q.2) l):=by
 obtain ⟨n,hnn⟩:∃ n,qs.length=n:=⟨_,rfl⟩
 rw [hnn] at hn ⊢
 have HN:Hid _:=hnn
 clear hnn
 have hs:Aside (CkSt w cb l):=hs
 go_enter Tryz.func40,Tryz.ntmps40
 go_wp2_with fail
 go_loopg [10] (n+1) (fun j t wr=>∃ i:Nat,i+j=n+1∧i≤n∧t = .int .i64 i∧KpC cb w wr∧CkSt wr cb ((qs.take i).foldl (fun l q=>lostF l q.2) l))
 case atStart=>exact ⟨0,by omega,by omega,rfl,KpC.refl _ _,hs.out⟩
 case round =>
  obtain ⟨i,hij,hin,rfl,hb,hst⟩:=hrel
  by_cases hi:i < n
  ·have hil:i < qs.length:=by have:=HN.out;omega
   obtain ⟨q,hvi⟩:∃ q,qs[i]? = some q:=⟨_,List.getElem?_eq_getElem hil⟩
   have hmem:q∈qs:=List.mem_of_getElem? hvi
   have c0:wr.cell? ⟨g,o+i,none⟩=some q.1:=(World.cell?_of_block (w:=w) (hb.block g hg hgc)).trans (hc i _ hvi)
   have hi':(i:Int) < (n:Int):=by omega
   have hi0:(0:Int)≤(i:Int):=by omega
   have htk:Aside ((qs.take (i+1)).foldl (fun l q=>lostF l q.2) l=lostF ((qs.take i).foldl (fun l q=>lostF l q.2) l) q.2):=by
    show (qs.take (i+1)).foldl (fun l q=>lostF l q.2) l=_
    rw [List.take_add_one,hvi,List.foldl_append]
    rfl
   have hq:=h1 q hmem
   obtain ⟨qv,qc⟩:=q
   clear hvi hmem
   rcases hq with ⟨e1,e2⟩ | ⟨⟨T,b,e1⟩,hf⟩
   ·have e1:qv = .nilIface:=e1
    have e3:qc = -1:=e2
    clear e2
    subst e1
    subst e3
    go_wp2_with fail
    go_roundg (n+1 - (i+1))
    case measure=>omega
    case rel=>exact ⟨i+1,by omega,by omega,by go_num,hb,by rw [htk.out];show CkSt wr cb (lostF _ (-1));rw [lostF_no];exact hst⟩
   ·have e1:qv = .iface T (.pointer (some ⟨b,0,none⟩)):=e1
    subst e1
    have hf:=hf wr _ hb hst
    go_wp2_with (go_at_call 73;refine hf.mono ?_;rintro e w1 ⟨rfl,k1,st1⟩)
    go_roundg (n+1 - (i+1))
    case measure=>omega
    case rel=>exact ⟨i+1,by omega,by omega,by go_num,hb.trans k1,by rw [htk.out];exact st1⟩
  ·have hi':¬ (i:Int) < (n:Int):=by omega
   go_wp2_with fail
   go_end0
   refine ⟨rfl,hb,?_⟩
   rw [List.take_of_length_le (by have:=HN.out;omega)] at hst
   exact hst
end Go.Proofs.Tryz
namespace Go.Proofs.Tryz
set_option maxHeartbeats 16000000
open Go.RowKit
set_option maxRecDepth 10000
def CkQ (cb:Nat) (l':Int) (w:World) (e:Ending) (w':World):Prop:=e = .returned (.tuple #[])∧KpC cb w w'∧CkSt w' cb l'
section
variable {cb b g : Nat} {s : Option Addr} {w : World} {l c c1 c2 c3 : Int} {x y z : Value} {env : Env} {n : ByteArray}
theorem check1C (hg:w.heap[g]? = some (.cells #[x] 31)) (hgc:g≠cb) (hs:CkSt w cb l) (h1:ItemC cb s w (x,c1)) :
  Calls Tryz.prog 40 #[.pointer (some ⟨cb,0,none⟩),.pointer s,.slice (some ⟨g,0,none⟩) 1 1] w (CkQ cb (lostF l c1) w):=by
 refine (check_c cb g 0 1 s [(x,c1)] w l (by simp) (by have:=(Array.getElem?_eq_some_iff.1 hg).1;exact this) hgc (fun i q hq=>?_) hs (fun q hq=>by rw [List.mem_singleton.1 hq];exact h1)).mono ?_
 ·match i,hq with
  | 0,hq=>cases hq;simp [World.cell?,hg]
 ·rintro e w' ⟨rfl,k,st⟩
  exact ⟨rfl,k,st⟩
theorem check2C (hg:w.heap[g]? = some (.cells #[x,y] 31)) (hgc:g≠cb) (hs:CkSt w cb l) (h1:ItemC cb s w (x,c1)) (h2:ItemC cb s w (y,c2)) :
  Calls Tryz.prog 40 #[.pointer (some ⟨cb,0,none⟩),.pointer s,.slice (some ⟨g,0,none⟩) 2 2] w (CkQ cb (lostF (lostF l c1) c2) w):=by
 refine (check_c cb g 0 2 s [(x,c1),(y,c2)] w l (by simp) (by have:=(Array.getElem?_eq_some_iff.1 hg).1;exact this) hgc (fun i q hq=>?_) hs (fun q hq=>?_)).mono ?_
 ·match i,hq with
  | 0,hq=>cases hq;simp [World.cell?,hg]
  | 1,hq=>cases hq;simp [World.cell?,hg]
 ·rcases List.mem_cons.1 hq with rfl | hq
  ·exact h1
  ·rw [List.mem_singleton.1 hq];exact h2
 ·rintro e w' ⟨rfl,k,st⟩
  exact ⟨rfl,k,st⟩
theorem check3C (hg:w.heap[g]? = some (.cells #[x,y,z] 31)) (hgc:g≠cb) (hs:CkSt w cb l) (h1:ItemC cb s w (x,c1)) (h2:ItemC cb s w (y,c2)) (h3:ItemC cb s w (z,c3)) :
  Calls Tryz.prog 40 #[.pointer (some ⟨cb,0,none⟩),.pointer s,.slice (some ⟨g,0,none⟩) 3 3] w (CkQ cb (lostF (lostF (lostF l c1) c2) c3) w):=by
 refine (check_c cb g 0 3 s [(x,c1),(y,c2),(z,c3)] w l (by simp) (by have:=(Array.getElem?_eq_some_iff.1 hg).1;exact this) hgc (fun i q hq=>?_) hs (fun q hq=>?_)).mono ?_
 ·match i,hq with
  | 0,hq=>cases hq;simp [World.cell?,hg]
  | 1,hq=>cases hq;simp [World.cell?,hg]
  | 2,hq=>cases hq;simp [World.cell?,hg]
 ·rcases List.mem_cons.1 hq with rfl | hq
  ·exact h1
  ·rcases List.mem_cons.1 hq with rfl | hq
   ·exact h2
   ·rw [List.mem_singleton.1 hq];exact h3
 ·rintro e w' ⟨rfl,k,st⟩
  exact ⟨rfl,k,st⟩
theorem ItemC.on {w1:World}{q:Value×Int} (h:ItemC cb s w q) (k:KpC cb w w1):ItemC cb s w1 q:=h.imp id (fun h=>⟨h.1,h.2.on k⟩)
theorem ItemC.shape {q:Value×Int} (h:ItemC cb s w q):q.1 = .nilIface∨∃ T b,q.1 = .iface T (.pointer (some ⟨b,0,none⟩)):=h.imp (·.1) (·.1)
theorem oneC_leaf {v:Value} (hs:CkSt w cb l) (key:(∃ b,v = .iface 96 (.pointer (some ⟨b,0,none⟩)))∨(∃ b,v = .iface 93 (.pointer (some ⟨b,0,none⟩)))∨∃ b,v = .iface 95 (.pointer (some ⟨b,0,none⟩))) :
  Calls Tryz.prog 73 #[.pointer (some ⟨cb,0,none⟩),.pointer s,v] w (CkQ cb l w):=by
 have a0:=missVariable;have a1:=missBreak;have a2:=missCall;have a3:=missField;have a4:=missIndex;have a5:=missEach;have a6:=missOptional;have a7:=missCollect;have a8:=missBuild;have a9:=missBinary;have a10:=missMinus;have a11:=missTry;have a12:=missIf;have a13:=missBind;have a14:=missLabel;have a15:=missReduce;have a16:=missForeach;have a17:=missDef
 have hs:Aside (CkSt w cb l):=hs
 rcases key with ⟨b,rfl⟩ | ⟨b,rfl⟩ | ⟨b,rfl⟩
 all_goals
  go_enter Tryz.func73,Tryz.ntmps73
  go_wp2
  go_end0
  exact ⟨rfl,KpC.refl _ _,hs.out⟩
theorem oneC_Variable {p:Int} (hs:CkSt w cb l) (c0:w.cell? ⟨b,0,none⟩=some (.string n)) (cp:w.cell? ⟨b,1,none⟩=some (.int .i64 p)) (hp:0≤p) (hsc:Scope w (.pointer s) env) :
  Calls Tryz.prog 73 #[.pointer (some ⟨cb,0,none⟩),.pointer s,.iface 102 (.pointer (some ⟨b,0,none⟩))] w (CkQ cb (if hasB env 0 n 0 then l else lostF l p) w):=by
 have a0:=hitVariable
 have hs:Aside (CkSt w cb l):=hs
 cases ho:hasB env 0 n 0 with
 | true =>
  go_enter Tryz.func73,Tryz.ntmps73
  go_wp2_with (go_at_call 91;refine (has_any _ env _ _ _ _ hsc).mono ?_;rintro e w1 ⟨rfl,h1⟩;subst w1;rw [ho])
  go_end0
  exact ⟨rfl,KpC.refl _ _,hs.out⟩
 | false =>
  go_enter Tryz.func73,Tryz.ntmps73
  go_wp2_with (first | (go_at_call 91;refine (has_any _ env _ _ _ _ hsc).mono ?_;rintro e w1 ⟨rfl,h1⟩;subst w1;rw [ho]) | (go_at_call 92;refine (miss_ok hs.out hp).mono ?_;rintro e w1 ⟨rfl,k1,st1⟩))
  go_end0
  exact ⟨rfl,k1,st1⟩
theorem oneC_Break {p:Int} (hs:CkSt w cb l) (c0:w.cell? ⟨b,0,none⟩=some (.string n)) (cp:w.cell? ⟨b,1,none⟩=some (.int .i64 p)) (hp:0≤p) (hsc:Scope w (.pointer s) env) :
  Calls Tryz.prog 73 #[.pointer (some ⟨cb,0,none⟩),.pointer s,.iface 105 (.pointer (some ⟨b,0,none⟩))] w (CkQ cb (if hasB env 1 n 0 then l else lostF l p) w):=by
 have a0:=missVariable;have a1:=hitBreak
 have hs:Aside (CkSt w cb l):=hs
 cases ho:hasB env 1 n 0 with
 | true =>
  go_enter Tryz.func73,Tryz.ntmps73
  go_wp2_with (go_at_call 91;refine (has_any _ env _ _ _ _ hsc).mono ?_;rintro e w1 ⟨rfl,h1⟩;subst w1;rw [ho])
  go_end0
  exact ⟨rfl,KpC.refl _ _,hs.out⟩
 | false =>
  go_enter Tryz.func73,Tryz.ntmps73
  go_wp2_with (first | (go_at_call 91;refine (has_any _ env _ _ _ _ hsc).mono ?_;rintro e w1 ⟨rfl,h1⟩;subst w1;rw [ho]) | (go_at_call 92;refine (miss_ok hs.out hp).mono ?_;rintro e w1 ⟨rfl,k1,st1⟩))
  go_end0
  exact ⟨rfl,k1,st1⟩
theorem oneC_Field (hs:CkSt w cb l) (hbc:b≠cb) (c0:w.cell? ⟨b,0,none⟩=some x) (h1:ItemC cb s w (x,c1)) :
  Calls Tryz.prog 73 #[.pointer (some ⟨cb,0,none⟩),.pointer s,.iface 108 (.pointer (some ⟨b,0,none⟩))] w (CkQ cb (lostF l c1) w):=by
 have a0:=missVariable;have a1:=missBreak;have a2:=missCall;have a3:=hitField
 have hb:=cell_lt c0
 have hcb:=hs.lt
 have hs:Aside (CkSt w cb l):=hs
 have hI:Aside (ItemC cb s w (x,c1)):=h1
 have hsh:=h1.shape
 clear h1
 rcases hsh with e | ⟨T,d,e⟩
 all_goals
  have e:x=_:=e
  subst e
  go_enter Tryz.func73,Tryz.ntmps73
  go_wp2_with (go_at_call 40;refine (check1C (l:=l) (heap_new _ _) (by omega) (hs.out.below (below_alloc _ _)) (hI.out.on (KpC.of_below (below_alloc _ _)))).mono ?_;rintro e w1 ⟨rfl,k1,st1⟩)
  go_end0
  exact ⟨rfl,(KpC.of_below (below_alloc _ _)).trans k1,st1⟩
theorem oneC_Each (hs:CkSt w cb l) (hbc:b≠cb) (c0:w.cell? ⟨b,0,none⟩=some x) (h1:ItemC cb s w (x,c1)) :
  Calls Tryz.prog 73 #[.pointer (some ⟨cb,0,none⟩),.pointer s,.iface 110 (.pointer (some ⟨b,0,none⟩))] w (CkQ cb (lostF l c1) w):=by
 have a0:=missVariable;have a1:=missBreak;have a2:=missCall;have a3:=missField;have a4:=missIndex;have a5:=hitEach
 have hb:=cell_lt c0
 have hcb:=hs.lt
 have hs:Aside (CkSt w cb l):=hs
 have hI:Aside (ItemC cb s w (x,c1)):=h1
 have hsh:=h1.shape
 clear h1
 rcases hsh with e | ⟨T,d,e⟩
 all_goals
  have e:x=_:=e
  subst e
  go_enter Tryz.func73,Tryz.ntmps73
  go_wp2_with (go_at_call 40;refine (check1C (l:=l) (heap_new _ _) (by omega) (hs.out.below (below_alloc _ _)) (hI.out.on (KpC.of_below (below_alloc _ _)))).mono ?_;rintro e w1 ⟨rfl,k1,st1⟩)
  go_end0
  exact ⟨rfl,(KpC.of_below (below_alloc _ _)).trans k1,st1⟩
theorem oneC_Optional (hs:CkSt w cb l) (hbc:b≠cb) (c0:w.cell? ⟨b,0,none⟩=some x) (h1:ItemC cb s w (x,c1)) :
  Calls Tryz.prog 73 #[.pointer (some ⟨cb,0,none⟩),.pointer s,.iface 111 (.pointer (some ⟨b,0,none⟩))] w (CkQ cb (lostF l c1) w):=by
 have a0:=missVariable;have a1:=missBreak;have a2:=missCall;have a3:=missField;have a4:=missIndex;have a5:=missEach;have a6:=hitOptional
 have hb:=cell_lt c0
 have hcb:=hs.lt
 have hs:Aside (CkSt w cb l):=hs
 have hI:Aside (ItemC cb s w (x,c1)):=h1
 have hsh:=h1.shape
 clear h1
 rcases hsh with e | ⟨T,d,e⟩
 all_goals
  have e:x=_:=e
  subst e
  go_enter Tryz.func73,Tryz.ntmps73
  go_wp2_with (go_at_call 40;refine (check1C (l:=l) (heap_new _ _) (by omega) (hs.out.below (below_alloc _ _)) (hI.out.on (KpC.of_below (below_alloc _ _)))).mono ?_;rintro e w1 ⟨rfl,k1,st1⟩)
  go_end0
  exact ⟨rfl,(KpC.of_below (below_alloc _ _)).trans k1,st1⟩
theorem oneC_Collect (hs:CkSt w cb l) (hbc:b≠cb) (c0:w.cell? ⟨b,0,none⟩=some x) (h1:ItemC cb s w (x,c1)) :
  Calls Tryz.prog 73 #[.pointer (some ⟨cb,0,none⟩),.pointer s,.iface 112 (.pointer (some ⟨b,0,none⟩))] w (CkQ cb (lostF l c1) w):=by
 have a0:=missVariable;have a1:=missBreak;have a2:=missCall;have a3:=missField;have a4:=missIndex;have a5:=missEach;have a6:=missOptional;have a7:=hitCollect
 have hb:=cell_lt c0
 have hcb:=hs.lt
 have hs:Aside (CkSt w cb l):=hs
 have hI:Aside (ItemC cb s w (x,c1)):=h1
 have hsh:=h1.shape
 clear h1
 rcases hsh with e | ⟨T,d,e⟩
 all_goals
  have e:x=_:=e
  subst e
  go_enter Tryz.func73,Tryz.ntmps73
  go_wp2_with (go_at_call 40;refine (check1C (l:=l) (heap_new _ _) (by omega) (hs.out.below (below_alloc _ _)) (hI.out.on (KpC.of_below (below_alloc _ _)))).mono ?_;rintro e w1 ⟨rfl,k1,st1⟩)
  go_end0
  exact ⟨rfl,(KpC.of_below (below_alloc _ _)).trans k1,st1⟩
theorem oneC_Minus (hs:CkSt w cb l) (hbc:b≠cb) (c0:w.cell? ⟨b,0,none⟩=some x) (h1:ItemC cb s w (x,c1)) :
  Calls Tryz.prog 73 #[.pointer (some ⟨cb,0,none⟩),.pointer s,.iface 170 (.pointer (some ⟨b,0,none⟩))] w (CkQ cb (lostF l c1) w):=by
 have a0:=missVariable;have a1:=missBreak;have a2:=missCall;have a3:=missField;have a4:=missIndex;have a5:=missEach;have a6:=missOptional;have a7:=missCollect;have a8:=missBuild;have a9:=missBinary;have a10:=hitMinus
 have hb:=cell_lt c0
 have hcb:=hs.lt
 have hs:Aside (CkSt w cb l):=hs
 have hI:Aside (ItemC cb s w (x,c1)):=h1
 have hsh:=h1.shape
 clear h1
 rcases hsh with e | ⟨T,d,e⟩
 all_goals
  have e:x=_:=e
  subst e
  go_enter Tryz.func73,Tryz.ntmps73
  go_wp2_with (go_at_call 40;refine (check1C (l:=l) (heap_new _ _) (by omega) (hs.out.below (below_alloc _ _)) (hI.out.on (KpC.of_below (below_alloc _ _)))).mono ?_;rintro e w1 ⟨rfl,k1,st1⟩)
  go_end0
  exact ⟨rfl,(KpC.of_below (below_alloc _ _)).trans k1,st1⟩
end
end Go.Proofs.Tryz
namespace Go.Proofs.Tryz
set_option maxHeartbeats 16000000
open Go.RowKit
set_option maxRecDepth 10000
section
variable {cb b g : Nat} {s : Option Addr} {w : World} {l c c1 c2 c3 : Int} {x y z : Value} {env : Env} {n : ByteArray}
theorem heap_newd3 (a:World) (o:Obj):((a.alloc o).drew).heap[a.heap.size]? = some o:=heap_new a o
theorem KpC.cell3 {w':World}{b o:Nat} (k:KpC cb w w') (hb:b < w.heap.size) (hc:b≠cb):w'.cell? ⟨b,o,none⟩=w.cell? ⟨b,o,none⟩:=World.cell?_of_block (k.block b hb hc)
theorem below_drewN3 (w:World) (m:Nat):Below w.heap.size w (w.drewN m):=⟨rfl,rfl,rfl,Nat.le_refl _,fun _ _=>rfl⟩
theorem has_bool (v:Value) (env:Env) (u:Int) (n:ByteArray) (k:Int) (w:World) (h:Scope w v env) {r:Bool} (ho:hasB env u n k=r) :
  Calls Tryz.prog 91 #[v,.int .u8 u,.string n,.int .i64 k] w fun e w'=>e = .returned (.bool r)∧w'=w:=ho ▸ has_any v env u n k w h
theorem given_bool (n:ByteArray) (k:Nat) (w:World) {r:Bool} (ho:givenB n k=r):Calls Tryz.prog 93 #[.string n,.int .i64 k] w fun e w'=>e = .returned (.bool r)∧w'=w:=ho ▸ isGiven_any n k w
def ArgsC (cb:Nat) (s:Option Addr) (w:World) (a:Option Addr) (k cap:Nat) (f:Int→Int):Prop:=∀ (w':World) (l:Int),KpC cb w w'→CkSt w' cb l→
 Calls Tryz.prog 40 #[.pointer (some ⟨cb,0,none⟩),.pointer s,.slice a k cap] w' (CkQ cb (f l) w')
theorem oneC_If {T1 T2 T3 d1 d2 d3:Nat} (hs:CkSt w cb l) (hbc:b≠cb) (c0':w.cell? ⟨b,0,none⟩=some (.iface T1 (.pointer (some ⟨d1,0,none⟩)))) (c1':w.cell? ⟨b,1,none⟩=some (.iface T2 (.pointer (some ⟨d2,0,none⟩)))) (c2':w.cell? ⟨b,2,none⟩=some (.iface T3 (.pointer (some ⟨d3,0,none⟩)))) (h1:ItemC cb s w (.iface T1 (.pointer (some ⟨d1,0,none⟩)),c1)) (h2:ItemC cb s w (.iface T2 (.pointer (some ⟨d2,0,none⟩)),c2)) (h3:ItemC cb s w (.iface T3 (.pointer (some ⟨d3,0,none⟩)),c3)) :
  Calls Tryz.prog 73 #[.pointer (some ⟨cb,0,none⟩),.pointer s,.iface 128 (.pointer (some ⟨b,0,none⟩))] w (CkQ cb (lostF (lostF (lostF l c1) c2) c3) w):=by
 have a0:=missVariable;have a1:=missBreak;have a2:=missCall;have a3:=missField;have a4:=missIndex;have a5:=missEach;have a6:=missOptional;have a7:=missCollect;have a8:=missBuild;have a9:=missBinary;have a10:=missMinus;have a11:=missTry;have a12:=hitIf
 have hb:=cell_lt c0'
 have hcb:=hs.lt
 have hs:Aside (CkSt w cb l):=hs
 have hI:Aside (ItemC cb s w (.iface T1 (.pointer (some ⟨d1,0,none⟩)),c1)):=h1
 have hJ:Aside (ItemC cb s w (.iface T2 (.pointer (some ⟨d2,0,none⟩)),c2)):=h2
 have hL:Aside (ItemC cb s w (.iface T3 (.pointer (some ⟨d3,0,none⟩)),c3)):=h3
 clear h1 h2 h3
 go_enter Tryz.func73,Tryz.ntmps73
 go_wp2_with fail
 go_region_held3 (fun w'=>w'.cell? ⟨b,0,none⟩=w.cell? ⟨b,0,none⟩∧w'.cell? ⟨b,1,none⟩=w.cell? ⟨b,1,none⟩∧w'.cell? ⟨b,2,none⟩=w.cell? ⟨b,2,none⟩) (first | exact ⟨e0,e1,e2⟩ | go_keep)
  (first | (go_at_call 40;refine (check3C (l:=l) (heap_newd3 w _) (by omega) (hs.out.below (below_alloc _ _).drew) (hI.out.on (KpC.of_below (below_alloc _ _).drew)) (hJ.out.on (KpC.of_below (below_alloc _ _).drew)) (hL.out.on (KpC.of_below (below_alloc _ _).drew))).mono ?_;rintro e w1 ⟨rfl,k1,st1⟩;have e0:w1.cell? ⟨b,0,none⟩=w.cell? ⟨b,0,none⟩:=(k1.cell3 (o:=0) (by simp;omega) hbc).trans ((below_alloc w _).drew.cell (p:=⟨b,0,none⟩) hb);have e1:w1.cell? ⟨b,1,none⟩=w.cell? ⟨b,1,none⟩:=(k1.cell3 (o:=1) (by simp;omega) hbc).trans ((below_alloc w _).drew.cell (p:=⟨b,1,none⟩) hb);have e2:w1.cell? ⟨b,2,none⟩=w.cell? ⟨b,2,none⟩:=(k1.cell3 (o:=2) (by simp;omega) hbc).trans ((below_alloc w _).drew.cell (p:=⟨b,2,none⟩) hb)))
 go_wp2_with fail
 go_end0
 exact ⟨rfl,(KpC.of_below (below_alloc _ _).drew).trans k1,st1⟩
theorem oneC_Call {a:Option Addr}{k cap:Nat}{p:Int}{f:Int→Int} (hs:CkSt w cb l) (hbc:b≠cb) (c0':w.cell? ⟨b,0,none⟩=some (.string n)) (c1':w.cell? ⟨b,1,none⟩=some (.slice a k cap)) (c2':w.cell? ⟨b,2,none⟩=some (.int .i64 p)) (hp:0≤p) (hsc:Scope w (.pointer s) env) (hA:ArgsC cb s w a k cap f) :
  Calls Tryz.prog 73 #[.pointer (some ⟨cb,0,none⟩),.pointer s,.iface 117 (.pointer (some ⟨b,0,none⟩))] w (CkQ cb (f (if hasB env 2 n k || givenB n k then l else lostF l p)) w):=by
 have a0:=missVariable;have a1:=missBreak;have a2:=hitCall
 have hb:=cell_lt c0'
 have hcb:=hs.lt
 have hs:Aside (CkSt w cb l):=hs
 have hA:Aside (ArgsC cb s w a k cap f):=hA
 have hsc:Aside (Scope w (.pointer s) env):=hsc
 cases ho:hasB env 2 n k with
 | true =>
  have HO:Hid (hasB env 2 n k=true):=ho
  clear ho
  go_enter Tryz.func73,Tryz.ntmps73
  go_wp2_with fail
  go_quiet ((go_at_call 91;exact Calls.quiet_of_same (has_bool _ env _ _ _ _ (hsc.out.below (below_drewN3 _ _)) HO.out)))
  go_wp2_with (go_at_call 40;refine (hA.out _ l (KpC.of_below (below_drewN3 _ _)) (hs.out.below (below_drewN3 _ _))).mono ?_;rintro e w1 ⟨rfl,k1,st1⟩)
  go_end0
  exact ⟨rfl,(KpC.of_below (below_drewN3 _ _)).trans k1,st1⟩
 | false =>
  have HO:Hid (hasB env 2 n k=false):=ho
  clear ho
  cases hgv:givenB n k with
  | true =>
   have HG:Hid (givenB n k=true):=hgv
   clear hgv
   go_enter Tryz.func73,Tryz.ntmps73
   go_wp2_with fail
   go_quiet ((first | (go_at_call 91;exact Calls.quiet_of_same (has_bool _ env _ _ _ _ (hsc.out.below (below_drewN3 _ _)) HO.out)) | (go_at_call 93;exact Calls.quiet_of_same (given_bool _ _ _ HG.out))))
   go_wp2_with (go_at_call 40;refine (hA.out _ l (KpC.of_below (below_drewN3 _ _)) (hs.out.below (below_drewN3 _ _))).mono ?_;rintro e w1 ⟨rfl,k1,st1⟩)
   go_end0
   exact ⟨rfl,(KpC.of_below (below_drewN3 _ _)).trans k1,st1⟩
  | false =>
   have HG:Hid (givenB n k=false):=hgv
   clear hgv
   go_enter Tryz.func73,Tryz.ntmps73
   go_wp2_with fail
   go_quiet ((first | (go_at_call 91;exact Calls.quiet_of_same (has_bool _ env _ _ _ _ (hsc.out.below (below_drewN3 _ _)) HO.out)) | (go_at_call 93;exact Calls.quiet_of_same (given_bool _ _ _ HG.out))))
   go_wp2_with (first | (go_at_call 92;refine (miss_ok (hs.out.below (below_drewN3 _ _)) hp).mono ?_;rintro e w1 ⟨rfl,k1,st1⟩;have kk:=(KpC.of_below (cb:=cb) (below_drewN3 w _)).trans k1;have d1:w1.cell? ⟨b,1,none⟩=some (.slice a k cap):=(kk.cell3 (o:=1) hb hbc).trans c1') | (go_at_call 40;refine (hA.out _ _ kk st1).mono ?_;rintro e w2 ⟨rfl,k2,st2⟩))
   go_end0
   exact ⟨rfl,kk.trans k2,st2⟩
end
end Go.Proofs.Tryz
namespace Go.Proofs.Tryz
set_option maxHeartbeats 16000000
open Go.RowKit
set_option maxRecDepth 10000
section
variable {cb b g : Nat} {s : Option Addr} {w : World} {l c c1 c2 c3 c4 : Int} {x y z : Value} {env : Env} {n : ByteArray}
def BodyC (cb:Nat) (w:World) (env:Env) (q:Value×Int):Prop:=∀ (s':Option Addr) (w':World) (l:Int),KpC cb w w'→CkSt w' cb l→Scope w' (.pointer s') env→ItemC cb s' w' q
theorem binderC_Bind {T1 d1:Nat}{T2 d2:Nat} (hs:CkSt w cb l) (hbc:b≠cb) (qn:w.cell? ⟨b,1,none⟩=some (.string n)) (q0:w.cell? ⟨b,0,none⟩=some (.iface T1 (.pointer (some ⟨d1,0,none⟩)))) (q2:w.cell? ⟨b,2,none⟩=some (.iface T2 (.pointer (some ⟨d2,0,none⟩)))) (hsc:Scope w (.pointer s) env) (h1:ItemC cb s w ((.iface T1 (.pointer (some ⟨d1,0,none⟩))),c1)) (h2:BodyC cb w ((0,n,0) :: env) ((.iface T2 (.pointer (some ⟨d2,0,none⟩))),c2)) :
  Calls Tryz.prog 94 #[.pointer (some ⟨cb,0,none⟩),.pointer s,.iface 172 (.pointer (some ⟨b,0,none⟩))] w (CkQ cb (lostF (lostF l c1) c2) w):=by
 have a0:=hitBind
 have hb:=cell_lt qn
 have hcb:=hs.lt
 have hs:Aside (CkSt w cb l):=hs
 have hsc:Aside (Scope w (.pointer s) env):=hsc
 have H1:Aside (ItemC cb s w ((.iface T1 (.pointer (some ⟨d1,0,none⟩))),c1)):=h1
 have H2:Aside (BodyC cb w ((0,n,0) :: env) ((.iface T2 (.pointer (some ⟨d2,0,none⟩))),c2)):=h2
 clear h1 h2
 go_enter Tryz.func94,Tryz.ntmps94
 go_wp2_with (go_at_call 40;refine (check1C (l:=l) (heap_new _ _) (by omega) (hs.out.below (below_alloc _ _)) (H1.out.on (KpC.of_below (below_alloc _ _)))).mono ?_;rintro e w1 ⟨rfl,k1,st1⟩;have kw1:KpC cb w w1:=(KpC.of_below (below_alloc _ _)).trans k1;have hb1:b < w1.heap.size:=Nat.lt_of_lt_of_le hb kw1.size;have r1:=(kw1.cell3 (o:=1) hb hbc).trans qn;have r2:=(kw1.cell3 (o:=2) hb hbc).trans q2)
 have hcb1:=st1.lt
 have hsc1:Aside (Scope w1 (.pointer s) env):=Scope.kept kw1 hs.out hsc.out
 have st1:Aside (CkSt w1 cb (lostF l c1)):=st1
 go_region_held3 (fun w'=>w'.cell? ⟨b,1,none⟩=w1.cell? ⟨b,1,none⟩∧w'.cell? ⟨b,2,none⟩=w1.cell? ⟨b,2,none⟩) (first | exact ⟨f1,f2⟩ | go_keep)
  (first
   | (go_at_call 113;refine (with_any _ env _ _ _ _ (by first | exact (hsc1.out.below (Below.refl _ _).drew) | exact (hsc1.out.below (below_alloc _ _).drew))).mono ?_;rintro e w2 ⟨bs,rfl,hs2,k2⟩;have kw2:Below w1.heap.size w1 w2:=(by first | exact (Below.refl _ _).drew.trans k2 | exact (below_alloc _ _).drew.trans (k2.mono (by simp)));have kk:KpC cb w w2:=kw1.trans (KpC.of_below kw2);have hb2:b < w2.heap.size:=Nat.lt_of_lt_of_le hb1 kw2.size;have hcb2:cb < w2.heap.size:=Nat.lt_of_lt_of_le hcb1 kw2.size;have f1:w2.cell? ⟨b,1,none⟩=w1.cell? ⟨b,1,none⟩:=kw2.cell (p:=⟨b,1,none⟩) hb1;have f2:w2.cell? ⟨b,2,none⟩=w1.cell? ⟨b,2,none⟩:=kw2.cell (p:=⟨b,2,none⟩) hb1)
   | (go_at_call 40;refine (check1C (l:=(lostF l c1)) (by first | exact heap_new w2 _ | exact (k2.block w1.heap.size (by simp)).trans (heap_newd3 w1 _)) (by omega) (by first | exact ((st1.out.below kw2).below (below_alloc _ _)) | exact st1.out.below kw2) (by first | exact (H2.out _ _ _ kk (st1.out.below kw2) hs2).on (KpC.of_below (below_alloc _ _)) | exact H2.out _ _ _ kk (st1.out.below kw2) hs2)).mono ?_;rintro e w3 ⟨rfl,k3,st3⟩;have kk3:KpC cb w w3:=(by first | exact (kk.trans (KpC.of_below (below_alloc _ _))).trans k3 | exact kk.trans k3);have f1:w3.cell? ⟨b,1,none⟩=w1.cell? ⟨b,1,none⟩:=(k3.cell3 (o:=1) (by have:=kw2.size;simp;omega) hbc).trans (by first | exact (kw2.alloc kw2.size _).cell (p:=⟨b,1,none⟩) hb1 | exact kw2.cell (p:=⟨b,1,none⟩) hb1);have f2:w3.cell? ⟨b,2,none⟩=w1.cell? ⟨b,2,none⟩:=(k3.cell3 (o:=2) (by have:=kw2.size;simp;omega) hbc).trans (by first | exact (kw2.alloc kw2.size _).cell (p:=⟨b,2,none⟩) hb1 | exact kw2.cell (p:=⟨b,2,none⟩) hb1)))
 all_goals
  go_wp2_with fail
  go_end0
  exact ⟨rfl,(by first | exact kk3 | (rw [HW1.out];exact kk3)),st3⟩
theorem binderC_Label {T1 d1:Nat} (hs:CkSt w cb l) (hbc:b≠cb) (qn:w.cell? ⟨b,0,none⟩=some (.string n)) (q1:w.cell? ⟨b,1,none⟩=some (.iface T1 (.pointer (some ⟨d1,0,none⟩)))) (hsc:Scope w (.pointer s) env) (h1:BodyC cb w ((1,n,0) :: env) ((.iface T1 (.pointer (some ⟨d1,0,none⟩))),c1)) :
  Calls Tryz.prog 94 #[.pointer (some ⟨cb,0,none⟩),.pointer s,.iface 175 (.pointer (some ⟨b,0,none⟩))] w (CkQ cb (lostF l c1) w):=by
 have a0:=missBind;have a1:=hitLabel
 have hb:=cell_lt qn
 have hcb:=hs.lt
 have hs:Aside (CkSt w cb l):=hs
 have hsc:Aside (Scope w (.pointer s) env):=hsc
 have H1:Aside (BodyC cb w ((1,n,0) :: env) ((.iface T1 (.pointer (some ⟨d1,0,none⟩))),c1)):=h1
 clear h1
 go_enter Tryz.func94,Tryz.ntmps94
 obtain ⟨w1,hw1⟩:∃ w1,w1=w:=⟨_,rfl⟩
 have kw1:KpC cb w w1:=by rw [hw1];exact KpC.refl _ _
 have st1:CkSt w1 cb l:=by rw [hw1];exact hs.out
 have hb1:b < w1.heap.size:=Nat.lt_of_lt_of_le hb kw1.size
 have r0:=(kw1.cell3 (o:=0) hb hbc).trans qn
 have r1:=(kw1.cell3 (o:=1) hb hbc).trans q1
 rw [← hw1]
 have HW1:Hid (w1=w):=hw1
 clear hw1
 go_wp2_with fail
 have hcb1:=st1.lt
 have hsc1:Aside (Scope w1 (.pointer s) env):=Scope.kept kw1 hs.out hsc.out
 have st1:Aside (CkSt w1 cb l):=st1
 go_region_held3 (fun w'=>w'.cell? ⟨b,0,none⟩=w1.cell? ⟨b,0,none⟩∧w'.cell? ⟨b,1,none⟩=w1.cell? ⟨b,1,none⟩) (first | exact ⟨f0,f1⟩ | go_keep)
  (first
   | (go_at_call 113;refine (with_any _ env _ _ _ _ (by first | exact (hsc1.out.below (Below.refl _ _).drew) | exact (hsc1.out.below (below_alloc _ _).drew))).mono ?_;rintro e w2 ⟨bs,rfl,hs2,k2⟩;have kw2:Below w1.heap.size w1 w2:=(by first | exact (Below.refl _ _).drew.trans k2 | exact (below_alloc _ _).drew.trans (k2.mono (by simp)));have kk:KpC cb w w2:=kw1.trans (KpC.of_below kw2);have hb2:b < w2.heap.size:=Nat.lt_of_lt_of_le hb1 kw2.size;have hcb2:cb < w2.heap.size:=Nat.lt_of_lt_of_le hcb1 kw2.size;have f0:w2.cell? ⟨b,0,none⟩=w1.cell? ⟨b,0,none⟩:=kw2.cell (p:=⟨b,0,none⟩) hb1;have f1:w2.cell? ⟨b,1,none⟩=w1.cell? ⟨b,1,none⟩:=kw2.cell (p:=⟨b,1,none⟩) hb1)
   | (go_at_call 40;refine (check1C (l:=l) (by first | exact heap_new w2 _ | exact (k2.block w1.heap.size (by simp)).trans (heap_newd3 w1 _)) (by omega) (by first | exact ((st1.out.below kw2).below (below_alloc _ _)) | exact st1.out.below kw2) (by first | exact (H1.out _ _ _ kk (st1.out.below kw2) hs2).on (KpC.of_below (below_alloc _ _)) | exact H1.out _ _ _ kk (st1.out.below kw2) hs2)).mono ?_;rintro e w3 ⟨rfl,k3,st3⟩;have kk3:KpC cb w w3:=(by first | exact (kk.trans (KpC.of_below (below_alloc _ _))).trans k3 | exact kk.trans k3);have f0:w3.cell? ⟨b,0,none⟩=w1.cell? ⟨b,0,none⟩:=(k3.cell3 (o:=0) (by have:=kw2.size;simp;omega) hbc).trans (by first | exact (kw2.alloc kw2.size _).cell (p:=⟨b,0,none⟩) hb1 | exact kw2.cell (p:=⟨b,0,none⟩) hb1);have f1:w3.cell? ⟨b,1,none⟩=w1.cell? ⟨b,1,none⟩:=(k3.cell3 (o:=1) (by have:=kw2.size;simp;omega) hbc).trans (by first | exact (kw2.alloc kw2.size _).cell (p:=⟨b,1,none⟩) hb1 | exact kw2.cell (p:=⟨b,1,none⟩) hb1)))
 all_goals
  go_wp2_with fail
  go_end0
  exact ⟨rfl,(by first | exact kk3 | (rw [HW1.out];exact kk3)),st3⟩
theorem binderC_Reduce {T1 d1:Nat}{T2 d2:Nat}{T3 d3:Nat} (hs:CkSt w cb l) (hbc:b≠cb) (qn:w.cell? ⟨b,1,none⟩=some (.string n)) (q0:w.cell? ⟨b,0,none⟩=some (.iface T1 (.pointer (some ⟨d1,0,none⟩)))) (q2:w.cell? ⟨b,2,none⟩=some (.iface T2 (.pointer (some ⟨d2,0,none⟩)))) (q3:w.cell? ⟨b,3,none⟩=some (.iface T3 (.pointer (some ⟨d3,0,none⟩)))) (hsc:Scope w (.pointer s) env) (h1:ItemC cb s w ((.iface T1 (.pointer (some ⟨d1,0,none⟩))),c1)) (h2:ItemC cb s w ((.iface T2 (.pointer (some ⟨d2,0,none⟩))),c2)) (h3:BodyC cb w ((0,n,0) :: env) ((.iface T3 (.pointer (some ⟨d3,0,none⟩))),c3)) :
  Calls Tryz.prog 94 #[.pointer (some ⟨cb,0,none⟩),.pointer s,.iface 122 (.pointer (some ⟨b,0,none⟩))] w (CkQ cb (lostF (lostF (lostF l c1) c2) c3) w):=by
 have a0:=missBind;have a1:=missLabel;have a2:=hitReduce
 have hb:=cell_lt qn
 have hcb:=hs.lt
 have hs:Aside (CkSt w cb l):=hs
 have hsc:Aside (Scope w (.pointer s) env):=hsc
 have H1:Aside (ItemC cb s w ((.iface T1 (.pointer (some ⟨d1,0,none⟩))),c1)):=h1
 have H2:Aside (ItemC cb s w ((.iface T2 (.pointer (some ⟨d2,0,none⟩))),c2)):=h2
 have H3:Aside (BodyC cb w ((0,n,0) :: env) ((.iface T3 (.pointer (some ⟨d3,0,none⟩))),c3)):=h3
 clear h1 h2 h3
 go_enter Tryz.func94,Tryz.ntmps94
 go_wp2_with fail
 go_region_held3 (fun w'=>w'.cell? ⟨b,0,none⟩=w.cell? ⟨b,0,none⟩∧w'.cell? ⟨b,2,none⟩=w.cell? ⟨b,2,none⟩) (first | exact ⟨e0,e1⟩ | go_keep)
  (first | (go_at_call 40;refine (check2C (l:=l) (heap_newd3 w _) (by omega) (hs.out.below (below_alloc _ _).drew) (H1.out.on (KpC.of_below (below_alloc _ _).drew)) (H2.out.on (KpC.of_below (below_alloc _ _).drew))).mono ?_;rintro e w1 ⟨rfl,k1,st1⟩;have e0:w1.cell? ⟨b,0,none⟩=w.cell? ⟨b,0,none⟩:=(k1.cell3 (o:=0) (by simp;omega) hbc).trans ((below_alloc w _).drew.cell (p:=⟨b,0,none⟩) hb);have e1:w1.cell? ⟨b,2,none⟩=w.cell? ⟨b,2,none⟩:=(k1.cell3 (o:=2) (by simp;omega) hbc).trans ((below_alloc w _).drew.cell (p:=⟨b,2,none⟩) hb)))
 have kw1:KpC cb w w1:=(KpC.of_below (below_alloc _ _).drew).trans k1
 have hb1:b < w1.heap.size:=Nat.lt_of_lt_of_le hb kw1.size
 have r1:=(kw1.cell3 (o:=1) hb hbc).trans qn
 have r3:=(kw1.cell3 (o:=3) hb hbc).trans q3
 clear e0 e1
 go_wp2_with fail
 have hcb1:=st1.lt
 have hsc1:Aside (Scope w1 (.pointer s) env):=Scope.kept kw1 hs.out hsc.out
 have st1:Aside (CkSt w1 cb (lostF (lostF l c1) c2)):=st1
 go_region_held3 (fun w'=>w'.cell? ⟨b,1,none⟩=w1.cell? ⟨b,1,none⟩∧w'.cell? ⟨b,3,none⟩=w1.cell? ⟨b,3,none⟩) (first | exact ⟨f1,f3⟩ | go_keep)
  (first
   | (go_at_call 113;refine (with_any _ env _ _ _ _ (by first | exact (hsc1.out.below (Below.refl _ _).drew) | exact (hsc1.out.below (below_alloc _ _).drew))).mono ?_;rintro e w2 ⟨bs,rfl,hs2,k2⟩;have kw2:Below w1.heap.size w1 w2:=(by first | exact (Below.refl _ _).drew.trans k2 | exact (below_alloc _ _).drew.trans (k2.mono (by simp)));have kk:KpC cb w w2:=kw1.trans (KpC.of_below kw2);have hb2:b < w2.heap.size:=Nat.lt_of_lt_of_le hb1 kw2.size;have hcb2:cb < w2.heap.size:=Nat.lt_of_lt_of_le hcb1 kw2.size;have f1:w2.cell? ⟨b,1,none⟩=w1.cell? ⟨b,1,none⟩:=kw2.cell (p:=⟨b,1,none⟩) hb1;have f3:w2.cell? ⟨b,3,none⟩=w1.cell? ⟨b,3,none⟩:=kw2.cell (p:=⟨b,3,none⟩) hb1)
   | (go_at_call 40;refine (check1C (l:=(lostF (lostF l c1) c2)) (by first | exact heap_new w2 _ | exact (k2.block w1.heap.size (by simp)).trans (heap_newd3 w1 _)) (by omega) (by first | exact ((st1.out.below kw2).below (below_alloc _ _)) | exact st1.out.below kw2) (by first | exact (H3.out _ _ _ kk (st1.out.below kw2) hs2).on (KpC.of_below (below_alloc _ _)) | exact H3.out _ _ _ kk (st1.out.below kw2) hs2)).mono ?_;rintro e w3 ⟨rfl,k3,st3⟩;have kk3:KpC cb w w3:=(by first | exact (kk.trans (KpC.of_below (below_alloc _ _))).trans k3 | exact kk.trans k3);have f1:w3.cell? ⟨b,1,none⟩=w1.cell? ⟨b,1,none⟩:=(k3.cell3 (o:=1) (by have:=kw2.size;simp;omega) hbc).trans (by first | exact (kw2.alloc kw2.size _).cell (p:=⟨b,1,none⟩) hb1 | exact kw2.cell (p:=⟨b,1,none⟩) hb1);have f3:w3.cell? ⟨b,3,none⟩=w1.cell? ⟨b,3,none⟩:=(k3.cell3 (o:=3) (by have:=kw2.size;simp;omega) hbc).trans (by first | exact (kw2.alloc kw2.size _).cell (p:=⟨b,3,none⟩) hb1 | exact kw2.cell (p:=⟨b,3,none⟩) hb1)))
 all_goals
  go_wp2_with fail
  go_end0
  exact ⟨rfl,(by first | exact kk3 | (rw [HW1.out];exact kk3)),st3⟩
theorem binderC_Foreach {T1 d1:Nat}{T2 d2:Nat}{T3 d3:Nat}{T4 d4:Nat} (hs:CkSt w cb l) (hbc:b≠cb) (qn:w.cell? ⟨b,1,none⟩=some (.string n)) (q0:w.cell? ⟨b,0,none⟩=some (.iface T1 (.pointer (some ⟨d1,0,none⟩)))) (q2:w.cell? ⟨b,2,none⟩=some (.iface T2 (.pointer (some ⟨d2,0,none⟩)))) (q3:w.cell? ⟨b,3,none⟩=some (.iface T3 (.pointer (some ⟨d3,0,none⟩)))) (q4:w.cell? ⟨b,4,none⟩=some (.iface T4 (.pointer (some ⟨d4,0,none⟩)))) (hsc:Scope w (.pointer s) env) (h1:ItemC cb s w ((.iface T1 (.pointer (some ⟨d1,0,none⟩))),c1)) (h2:ItemC cb s w ((.iface T2 (.pointer (some ⟨d2,0,none⟩))),c2)) (h3:BodyC cb w ((0,n,0) :: env) ((.iface T3 (.pointer (some ⟨d3,0,none⟩))),c3)) (h4:BodyC cb w ((0,n,0) :: env) ((.iface T4 (.pointer (some ⟨d4,0,none⟩))),c4)) :
  Calls Tryz.prog 94 #[.pointer (some ⟨cb,0,none⟩),.pointer s,.iface 125 (.pointer (some ⟨b,0,none⟩))] w (CkQ cb (lostF (lostF (lostF (lostF l c1) c2) c3) c4) w):=by
 have a0:=missBind;have a1:=missLabel;have a2:=missReduce;have a3:=hitForeach
 have hb:=cell_lt qn
 have hcb:=hs.lt
 have hs:Aside (CkSt w cb l):=hs
 have hsc:Aside (Scope w (.pointer s) env):=hsc
 have H1:Aside (ItemC cb s w ((.iface T1 (.pointer (some ⟨d1,0,none⟩))),c1)):=h1
 have H2:Aside (ItemC cb s w ((.iface T2 (.pointer (some ⟨d2,0,none⟩))),c2)):=h2
 have H3:Aside (BodyC cb w ((0,n,0) :: env) ((.iface T3 (.pointer (some ⟨d3,0,none⟩))),c3)):=h3
 have H4:Aside (BodyC cb w ((0,n,0) :: env) ((.iface T4 (.pointer (some ⟨d4,0,none⟩))),c4)):=h4
 clear h1 h2 h3 h4
 go_enter Tryz.func94,Tryz.ntmps94
 go_wp2_with fail
 go_region_held3 (fun w'=>w'.cell? ⟨b,0,none⟩=w.cell? ⟨b,0,none⟩∧w'.cell? ⟨b,2,none⟩=w.cell? ⟨b,2,none⟩) (first | exact ⟨e0,e1⟩ | go_keep)
  (first | (go_at_call 40;refine (check2C (l:=l) (heap_newd3 w _) (by omega) (hs.out.below (below_alloc _ _).drew) (H1.out.on (KpC.of_below (below_alloc _ _).drew)) (H2.out.on (KpC.of_below (below_alloc _ _).drew))).mono ?_;rintro e w1 ⟨rfl,k1,st1⟩;have e0:w1.cell? ⟨b,0,none⟩=w.cell? ⟨b,0,none⟩:=(k1.cell3 (o:=0) (by simp;omega) hbc).trans ((below_alloc w _).drew.cell (p:=⟨b,0,none⟩) hb);have e1:w1.cell? ⟨b,2,none⟩=w.cell? ⟨b,2,none⟩:=(k1.cell3 (o:=2) (by simp;omega) hbc).trans ((below_alloc w _).drew.cell (p:=⟨b,2,none⟩) hb)))
 have kw1:KpC cb w w1:=(KpC.of_below (below_alloc _ _).drew).trans k1
 have hb1:b < w1.heap.size:=Nat.lt_of_lt_of_le hb kw1.size
 have r1:=(kw1.cell3 (o:=1) hb hbc).trans qn
 have r3:=(kw1.cell3 (o:=3) hb hbc).trans q3
 have r4:=(kw1.cell3 (o:=4) hb hbc).trans q4
 clear e0 e1
 go_wp2_with fail
 have hcb1:=st1.lt
 have hsc1:Aside (Scope w1 (.pointer s) env):=Scope.kept kw1 hs.out hsc.out
 have st1:Aside (CkSt w1 cb (lostF (lostF l c1) c2)):=st1
 go_region_held3 (fun w'=>w'.cell? ⟨b,1,none⟩=w1.cell? ⟨b,1,none⟩∧w'.cell? ⟨b,3,none⟩=w1.cell? ⟨b,3,none⟩∧w'.cell? ⟨b,4,none⟩=w1.cell? ⟨b,4,none⟩) (first | exact ⟨f1,f3,f4⟩ | go_keep)
  (first
   | (go_at_call 113;refine (with_any _ env _ _ _ _ (by first | exact (hsc1.out.below (Below.refl _ _).drew) | exact (hsc1.out.below (below_alloc _ _).drew))).mono ?_;rintro e w2 ⟨bs,rfl,hs2,k2⟩;have kw2:Below w1.heap.size w1 w2:=(by first | exact (Below.refl _ _).drew.trans k2 | exact (below_alloc _ _).drew.trans (k2.mono (by simp)));have kk:KpC cb w w2:=kw1.trans (KpC.of_below kw2);have hb2:b < w2.heap.size:=Nat.lt_of_lt_of_le hb1 kw2.size;have hcb2:cb < w2.heap.size:=Nat.lt_of_lt_of_le hcb1 kw2.size;have f1:w2.cell? ⟨b,1,none⟩=w1.cell? ⟨b,1,none⟩:=kw2.cell (p:=⟨b,1,none⟩) hb1;have f3:w2.cell? ⟨b,3,none⟩=w1.cell? ⟨b,3,none⟩:=kw2.cell (p:=⟨b,3,none⟩) hb1;have f4:w2.cell? ⟨b,4,none⟩=w1.cell? ⟨b,4,none⟩:=kw2.cell (p:=⟨b,4,none⟩) hb1)
   | (go_at_call 40;refine (check2C (l:=(lostF (lostF l c1) c2)) (by first | exact heap_new w2 _ | exact (k2.block w1.heap.size (by simp)).trans (heap_newd3 w1 _)) (by omega) (by first | exact ((st1.out.below kw2).below (below_alloc _ _)) | exact st1.out.below kw2) (by first | exact (H3.out _ _ _ kk (st1.out.below kw2) hs2).on (KpC.of_below (below_alloc _ _)) | exact H3.out _ _ _ kk (st1.out.below kw2) hs2) (by first | exact (H4.out _ _ _ kk (st1.out.below kw2) hs2).on (KpC.of_below (below_alloc _ _)) | exact H4.out _ _ _ kk (st1.out.below kw2) hs2)).mono ?_;rintro e w3 ⟨rfl,k3,st3⟩;have kk3:KpC cb w w3:=(by first | exact (kk.trans (KpC.of_below (below_alloc _ _))).trans k3 | exact kk.trans k3);have f1:w3.cell? ⟨b,1,none⟩=w1.cell? ⟨b,1,none⟩:=(k3.cell3 (o:=1) (by have:=kw2.size;simp;omega) hbc).trans (by first | exact (kw2.alloc kw2.size _).cell (p:=⟨b,1,none⟩) hb1 | exact kw2.cell (p:=⟨b,1,none⟩) hb1);have f3:w3.cell? ⟨b,3,none⟩=w1.cell? ⟨b,3,none⟩:=(k3.cell3 (o:=3) (by have:=kw2.size;simp;omega) hbc).trans (by first | exact (kw2.alloc kw2.size _).cell (p:=⟨b,3,none⟩) hb1 | exact kw2.cell (p:=⟨b,3,none⟩) hb1);have f4:w3.cell? ⟨b,4,none⟩=w1.cell? ⟨b,4,none⟩:=(k3.cell3 (o:=4) (by have:=kw2.size;simp;omega) hbc).trans (by first | exact (kw2.alloc kw2.size _).cell (p:=⟨b,4,none⟩) hb1 | exact kw2.cell (p:=⟨b,4,none⟩) hb1)))
 all_goals
  go_wp2_with fail
  go_end0
  exact ⟨rfl,(by first | exact kk3 | (rw [HW1.out];exact kk3)),st3⟩
end
end Go.Proofs.Tryz
