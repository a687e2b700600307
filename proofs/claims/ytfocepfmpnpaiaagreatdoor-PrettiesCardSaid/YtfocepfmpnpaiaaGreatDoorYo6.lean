import Derived.Test.YtfocepfmpnpaiaaGreatDoorYo5
import Derived.Test.YtfocepfmpnpaiaaGreatDoorYq2
import Derived.Test.YtfocepfmpnpaiaaGreatDoorYo4
import Derived.Deep.LoopGhost
set_option linter.all false
namespace Go.Proofs.Tryz
set_option maxHeartbeats 16000000
open Go.RowKit
set_option maxRecDepth 10000
structure PS (a w:World) (wb:Nat) (s:Bs×Bool) (done:List Bs):Prop where
 kp:KpW wb a w
 pl:PlW w wb (putL s done)
def PsP (a:World) (wb:Nat) (s:Bs×Bool) (done:List Bs) (e:Ending) (w':World):Prop:=e = .returned (.tuple #[])∧PS a w' wb s done
def FilterOk (t:Tn):Prop:=∀ (w:World) (wb:Nat) (v:Value) (s:Bs×Bool),Rf (· < wb) w t v→PlW w wb s→s.1.length+lenL (toksT t)≤1000000000→
 Calls Tryz.prog 23 #[.pointer (some ⟨wb,0,none⟩),v] w (PutP wb s (toksT t) w)
def PrimOk (t:Tn):Prop:=∀ (w:World) (wb:Nat) (v:Value) (s:Bs×Bool),Rf (· < wb) w t v→PlW w wb s→s.1.length+lenL (primT (kindT t) (toksT t))≤1000000000→
 Calls Tryz.prog 46 #[.pointer (some ⟨wb,0,none⟩),v] w (PutP wb s (primT (kindT t) (toksT t)) w)
section
variable {a w w' : World} {wb : Nat} {s : Bs × Bool} {done : List Bs} {t : Tn} {v : Value}
theorem PS.start (h:PlW a wb s):PS a a wb s []:=⟨KpW.refl _ _,h⟩
theorem PS.lt (P:PS a w wb s done):wb < w.heap.size:=P.pl.lt
theorem PS.cell (P:PS a w wb s done) {b o:Nat}{x:Value} (hb:b < wb) (h:a.cell? ⟨b,o,none⟩=some x):w.cell? ⟨b,o,none⟩=some x:=(P.kp.low.cell (p:=⟨b,o,none⟩) hb).trans h
theorem PS.rf (P:PS a w wb s done) (h:Rf (· < wb) a t v):Rf (· < wb) w t v:=h.keep (fun _ h _=>h) P.kp.low.size (fun b hb _=>P.kp.low.block b hb)
theorem PS.alloc (P:PS a w wb s done) (o:Obj):PS a (w.alloc o) wb s done:=⟨P.kp.alloc (Nat.le_of_lt P.lt) o,P.pl.alloc o⟩
theorem PS.below (P:PS a w wb s done) (k:Below w.heap.size w w'):PS a w' wb s done :=
 ⟨P.kp.trans ⟨k.mono (Nat.le_of_lt P.lt),fun i o h _ _=>(k.block i (Array.getElem?_eq_some_iff.1 h).1).trans h⟩,P.pl.below k⟩
theorem PS.len (P:PS a w wb s done) (l:List Bs) {B:Nat} (h:s.1.length+lenL (done ++ l)≤B):(putL s done).1.length+lenL l≤B:=by
 have:=putL_len done s
 rw [lenL_app] at h
 omega
theorem PS.next (P:PS a w wb s done) {l:List Bs}{e:Ending} (h:PutP wb (putL s done) l w e w'):PsP a wb s (done ++ l) e w' :=
 ⟨h.1,P.kp.trans h.2.2,by rw [putL_app];exact h.2.1⟩
theorem PS.finish (P:PS a w wb s done) {l:List Bs} (h:done=l):PutP wb s l a (.returned (.tuple #[])) w:=⟨rfl,h ▸ P.pl,P.kp⟩
theorem noB_new (w:World) (cs:Array Value) (T:Nat) (hT:T≠5):NoB (w.alloc (.cells cs T)) w.heap.size:=⟨_,heap_new _ _,fun c fz e=>by cases e;exact hT rfl⟩
theorem PS.put1 (P:PS a w wb s done) (x:ByteArray) (hx:x.size≠0) (hb:s.1.length+lenL (done ++ [x.data.toList])≤1000000000) :
  Calls Tryz.prog 41 #[.pointer (some ⟨wb,0,none⟩),.slice (some ⟨w.heap.size,0,none⟩) 1 1] (w.alloc (.cells #[.string x] 9)) (PsP a wb s (done ++ [x.data.toList])):=by
 have hw:=P.lt
 have P':=P.alloc (.cells #[.string x] 9)
 have hl:=P.len _ hb
 have hc:=Cl.start w [.string x] 9
 refine (put_ok P'.pl (xs:=[x]) (n:=1) rfl (by omega) (fun i y hy=>?_) (noB_new w _ _ (by decide)) (by omega) (fun y hy=>by rw [List.mem_singleton.1 hy];exact hx) (by simp only [List.map_cons,List.map_nil];omega)).mono (fun e w' h=>P'.next h)
 match i,hy with
 | 0,hy=>cases hy;exact (hc.cell 0).trans rfl
theorem PS.put2 (P:PS a w wb s done) (x y:ByteArray) (hx:x.size≠0) (hy:y.size≠0) (hb:s.1.length+lenL (done ++ [x.data.toList,y.data.toList])≤1000000000) :
  Calls Tryz.prog 41 #[.pointer (some ⟨wb,0,none⟩),.slice (some ⟨w.heap.size,0,none⟩) 2 2] (w.alloc (.cells #[.string x,.string y] 9)) (PsP a wb s (done ++ [x.data.toList,y.data.toList])):=by
 have hw:=P.lt
 have P':=P.alloc (.cells #[.string x,.string y] 9)
 have hl:=P.len _ hb
 have hc:=Cl.start w [.string x,.string y] 9
 refine (put_ok P'.pl (xs:=[x,y]) (n:=2) rfl (by omega) (fun i q hq=>?_) (noB_new w _ _ (by decide)) (by omega) (fun q hq=>?_) (by simp only [List.map_cons,List.map_nil];omega)).mono (fun e w' h=>P'.next h)
 ·match i,hq with
  | 0,hq=>cases hq;exact (hc.cell 0).trans rfl
  | 1,hq=>cases hq;exact (hc.cell 1).trans rfl
 ·rcases List.mem_cons.1 hq with rfl | hq
  ·exact hx
  ·rw [List.mem_singleton.1 hq];exact hy
theorem PS.put3 (P:PS a w wb s done) (x y z:ByteArray) (hx:x.size≠0) (hy:y.size≠0) (hz:z.size≠0) (hb:s.1.length+lenL (done ++ [x.data.toList,y.data.toList,z.data.toList])≤1000000000) :
  Calls Tryz.prog 41 #[.pointer (some ⟨wb,0,none⟩),.slice (some ⟨w.heap.size,0,none⟩) 3 3] (w.alloc (.cells #[.string x,.string y,.string z] 9)) (PsP a wb s (done ++ [x.data.toList,y.data.toList,z.data.toList])):=by
 have hw:=P.lt
 have P':=P.alloc (.cells #[.string x,.string y,.string z] 9)
 have hl:=P.len _ hb
 have hc:=Cl.start w [.string x,.string y,.string z] 9
 refine (put_ok P'.pl (xs:=[x,y,z]) (n:=3) rfl (by omega) (fun i q hq=>?_) (noB_new w _ _ (by decide)) (by omega) (fun q hq=>?_) (by simp only [List.map_cons,List.map_nil];omega)).mono (fun e w' h=>P'.next h)
 ·match i,hq with
  | 0,hq=>cases hq;exact (hc.cell 0).trans rfl
  | 1,hq=>cases hq;exact (hc.cell 1).trans rfl
  | 2,hq=>cases hq;exact (hc.cell 2).trans rfl
 ·rcases List.mem_cons.1 hq with rfl | hq
  ·exact hx
  ·rcases List.mem_cons.1 hq with rfl | hq
   ·exact hy
   ·rw [List.mem_singleton.1 hq];exact hz
theorem PS.fil (P:PS a w wb s done) (hf:FilterOk t) (hr:Rf (· < wb) a t v) (hb:s.1.length+lenL (done ++ toksT t)≤1000000000) :
  Calls Tryz.prog 23 #[.pointer (some ⟨wb,0,none⟩),v] w (PsP a wb s (done ++ toksT t)) :=
 (hf w wb v _ (P.rf hr) P.pl (P.len _ hb)).mono (fun _ _ h=>P.next h)
theorem PS.prim (P:PS a w wb s done) (hf:PrimOk t) (hr:Rf (· < wb) a t v) (hb:s.1.length+lenL (done ++ primT (kindT t) (toksT t))≤1000000000) :
  Calls Tryz.prog 46 #[.pointer (some ⟨wb,0,none⟩),v] w (PsP a wb s (done ++ primT (kindT t) (toksT t))) :=
 (hf w wb v _ (P.rf hr) P.pl (P.len _ hb)).mono (fun _ _ h=>P.next h)
theorem typF_ne:∀ k:Fin 21,(k.1≠15→typF k.1≠128)∧(k.1≠18→typF k.1≠122)∧(k.1≠19→typF k.1≠125)∧(k.1≠0→typF k.1≠93):=by decide
theorem kind_lt {kind c n:Nat} (h:cntOk kind c n):kind < 21:=by
 match kind,h with
 | k+21,h=>exact h.elim
 | 0,_ | 1,_ | 2,_ | 3,_ | 4,_ | 5,_ | 6,_ | 7,_ | 8,_ | 9,_ | 10,_ | 11,_ | 12,_ | 13,_ | 14,_ | 15,_ | 16,_ | 17,_ | 18,_ | 19,_ | 20,_=>decide
theorem Gdt.klt:∀ {t:Tn},Gdt t→kindT t < 21
 | .done _,h=>h.elim
 | .ask _ _ _,h=>kind_lt h.1.cnt
theorem dollar (n:ByteArray):((⟨#[36]⟩:ByteArray) ++ n).data.toList=36 :: n.data.toList:=by simp
theorem dollar_ne (n:ByteArray):((⟨#[36]⟩:ByteArray) ++ n).size≠0:=by rw [← bsize,dollar];simp
theorem prim_ok (hg:Gdt t) (hf:FilterOk t):PrimOk t:=by
 intro w wb v s hr hp hb
 have hkl:=hg.klt
 have P0:=PS.start hp
 have hr0:=hr
 obtain ⟨b,rfl,hpb,hlt⟩:=hr.shape
 have hT:=typF_ne ⟨kindT t,hkl⟩
 obtain ⟨T,hTT⟩:∃ T,typF (kindT t)=T:=⟨_,rfl⟩
 unfold primT at hb ⊢
 by_cases h15:kindT t=15∨kindT t=18∨kindT t=19
 ·rw [if_pos h15] at hb ⊢
  rw [lenL_brk] at hb
  have HT:(T=128∨T=122∨T=125):=by
   rw [← hTT]
   rcases h15 with e | e | e <;> rw [e]
   ·exact .inl rfl
   ·exact .inr (.inl rfl)
   ·exact .inr (.inr rfl)
  rw [hTT] at hr0 ⊢
  have HR:Aside (Rf (· < wb) w t (.iface T (.pointer (some ⟨b,0,none⟩)))):=hr0
  clear hT hTT hr hr0 h15
  rcases HT with e | e | e
  ·subst e
   have a0:=missReduce;have a1:=missForeach;have a2:=hitIf
   go_enter Tryz.func46,Tryz.ntmps46
   go_wp2_with fail
   refine Calls.mono (P0.put1 ⟨#[40]⟩ (by decide) (by simp [lenL_cons,lenL_nil];omega)) ?_
   rintro e w1 ⟨rfl,P1⟩
   go_wp2_with fail
   refine Calls.mono (P1.fil hf HR.out (by simp [lenL_cons,lenL_nil,lenL_app];omega)) ?_
   rintro e w2 ⟨rfl,P2⟩
   go_wp2_with fail
   refine Calls.mono (P2.put1 ⟨#[41]⟩ (by decide) (by simp [lenL_cons,lenL_nil,lenL_app];omega)) ?_
   rintro e w3 ⟨rfl,P3⟩
   go_wp2_with fail
   go_end0
   exact P3.finish (by simp [brk])
  ·subst e
   have a0:=hitReduce;have a1:=missForeach;have a2:=missIf
   go_enter Tryz.func46,Tryz.ntmps46
   go_wp2_with fail
   refine Calls.mono (P0.put1 ⟨#[40]⟩ (by decide) (by simp [lenL_cons,lenL_nil];omega)) ?_
   rintro e w1 ⟨rfl,P1⟩
   go_wp2_with fail
   refine Calls.mono (P1.fil hf HR.out (by simp [lenL_cons,lenL_nil,lenL_app];omega)) ?_
   rintro e w2 ⟨rfl,P2⟩
   go_wp2_with fail
   refine Calls.mono (P2.put1 ⟨#[41]⟩ (by decide) (by simp [lenL_cons,lenL_nil,lenL_app];omega)) ?_
   rintro e w3 ⟨rfl,P3⟩
   go_wp2_with fail
   go_end0
   exact P3.finish (by simp [brk])
  ·subst e
   have a0:=missReduce;have a1:=hitForeach;have a2:=missIf
   go_enter Tryz.func46,Tryz.ntmps46
   go_wp2_with fail
   refine Calls.mono (P0.put1 ⟨#[40]⟩ (by decide) (by simp [lenL_cons,lenL_nil];omega)) ?_
   rintro e w1 ⟨rfl,P1⟩
   go_wp2_with fail
   refine Calls.mono (P1.fil hf HR.out (by simp [lenL_cons,lenL_nil,lenL_app];omega)) ?_
   rintro e w2 ⟨rfl,P2⟩
   go_wp2_with fail
   refine Calls.mono (P2.put1 ⟨#[41]⟩ (by decide) (by simp [lenL_cons,lenL_nil,lenL_app];omega)) ?_
   rintro e w3 ⟨rfl,P3⟩
   go_wp2_with fail
   go_end0
   exact P3.finish (by simp [brk])
 ·rw [if_neg h15] at hb ⊢
  have h1:T≠128:=by rw [← hTT];exact hT.1 (fun e=>h15 (.inl e))
  have h2:T≠122:=by rw [← hTT];exact hT.2.1 (fun e=>h15 (.inr (.inl e)))
  have h3:T≠125:=by rw [← hTT];exact hT.2.2.1 (fun e=>h15 (.inr (.inr e)))
  rw [hTT] at hr0 ⊢
  have HR:Aside (Rf (· < wb) w t (.iface T (.pointer (some ⟨b,0,none⟩)))):=hr0
  clear hT hTT hr hr0 h15
  have a0:=missReduce;have a1:=missForeach;have a2:=missIf
  go_enter Tryz.func46,Tryz.ntmps46
  go_wp2_with fail
  refine Calls.mono (P0.fil hf HR.out (by simpa using hb)) ?_
  rintro e w1 ⟨rfl,P1⟩
  go_wp2_with fail
  go_end0
  exact P1.finish (by simp)
end
end Go.Proofs.Tryz
namespace Go.Proofs.Tryz
set_option maxHeartbeats 16000000
open Go.RowKit
set_option maxRecDepth 10000
section
variable {a w w' : World} {wb : Nat} {s : Bs × Bool} {done : List Bs} {t : Tn} {v : Value}
theorem semiT_succ (n:Nat) (f:Nat→List Bs):semiT (n+1) f=semiT n f ++ ((if 0 < n then [[59]] else []) ++ f n):=by
 unfold semiT
 rw [List.range_succ,List.flatMap_append]
 simp
theorem semiT_le (f:Nat→List Bs) {i n:Nat} (h:i≤n):lenL (semiT i f)≤lenL (semiT n f):=by
 induction n with
 | zero=>rw [Nat.le_zero.1 h];exact Nat.le_refl _
 | succ n ih =>
  by_cases e:i=n+1
  ·rw [e];exact Nat.le_refl _
  ·have:=ih (by omega)
   rw [semiT_succ,lenL_app]
   omega
theorem list_ok {f:Nat→Tn}{n d cap:Nat} (hn0:0 < n) (hn:n≤6000) (hf:∀ i,i < n→FilterOk (f i)) (hv:∀ i,i < n→∃ v,w.cell? ⟨d,i,none⟩=some v∧Rf (· < wb) w (f i) v) (hd:NoB w d) (hdw:d≠wb) (hp:PlW w wb s) (hb:s.1.length+lenL (brk (semiT n fun i=>toksT (f i)))≤1000000000) :
  Calls Tryz.prog 45 #[.pointer (some ⟨wb,0,none⟩),.slice (some ⟨d,0,none⟩) n cap] w (PutP wb s (brk (semiT n fun i=>toksT (f i))) w):=by
 rw [lenL_brk] at hb
 have P0:=PS.start hp
 have HV:Aside (∀ i,i < n→∃ v,w.cell? ⟨d,i,none⟩=some v∧Rf (· < wb) w (f i) v):=hv
 have HF:Aside (∀ i,i < n→FilterOk (f i)):=hf
 clear hv hf
 go_enter Tryz.func45,Tryz.ntmps45
 go_wp2_with fail
 refine Calls.mono (P0.put1 ⟨#[40]⟩ (by decide) (by simp [lenL_cons,lenL_nil];omega)) ?_
 rintro e w1 ⟨rfl,P1⟩
 go_wp2_with fail
 go_loopg [11] (n+1) (fun j t wr=>∃ i:Nat,i+j=n+1∧i≤n∧t = .int .i64 i∧PS w wr wb s ([40] :: semiT i fun i=>toksT (f i)))
 case atStart=>exact ⟨0,by omega,by omega,rfl,P1⟩
 case round =>
  obtain ⟨i,hij,hin,rfl,P⟩:=hrel
  by_cases hi:i < n
  ·obtain ⟨v,cv,rv⟩:=HV.out i hi
   obtain ⟨T,q,e⟩:∃ T q,v = .iface T (.pointer (some ⟨q,0,none⟩)):=by
    obtain ⟨q,e,_,_⟩:=rv.shape
    exact ⟨_,q,e⟩
   subst e
   have rv:Aside (Rf (· < wb) w (f i) (.iface T (.pointer (some ⟨q,0,none⟩)))):=rv
   have cw:wr.cell? ⟨d,i,none⟩=some (.iface T (.pointer (some ⟨q,0,none⟩))):=(World.cell?_of_block (w:=w) (P.kp.at hd hdw)).trans cv
   have hi':(i:Int) < (n:Int):=by omega
   have hi0:(0:Int)≤(i:Int):=by omega
   have hle:=semiT_le (fun i=>toksT (f i)) (i:=i+1) (n:=n) (by omega)
   rw [semiT_succ,lenL_app,lenL_app] at hle
   have hfi:=HF.out i hi
   have hfi:Aside (FilterOk (f i)):=hfi
   by_cases h0:0 < i
   ·have h0':(0:Int) < (i:Int):=by omega
    have h59:semiT (i+1) (fun i=>toksT (f i))=semiT i (fun i=>toksT (f i)) ++ ([[59]] ++ toksT (f i)):=by rw [semiT_succ,if_pos h0]
    rw [if_pos h0] at hle
    simp only [lenL_cons,lenL_nil,List.length_cons,List.length_nil] at hle
    have h59:Aside _:=h59
    go_wp2_with fail
    refine Calls.mono (P.put1 ⟨#[59]⟩ (by decide) (by simp [lenL_cons,lenL_nil,lenL_app];omega)) ?_
    rintro e w2 ⟨rfl,P2⟩
    go_wp2_with fail
    refine Calls.mono (P2.fil hfi.out rv.out (by simp [lenL_cons,lenL_nil,lenL_app];omega)) ?_
    rintro e w3 ⟨rfl,P3⟩
    go_wp2_with fail
    go_roundg (n+1 - (i+1))
    case measure=>omega
    case rel =>
     refine ⟨i+1,by omega,by omega,by go_num,?_⟩
     rw [h59.out]
     simpa using P3
   ·have hi00:i=0:=by omega
    subst hi00
    simp only [Nat.lt_irrefl,if_false,lenL_nil] at hle
    go_wp2_with fail
    refine Calls.mono (P.fil hfi.out rv.out (by simp [lenL_cons,lenL_nil,lenL_app];omega)) ?_
    rintro e w3 ⟨rfl,P3⟩
    go_wp2_with fail
    go_roundg (n+1 - (0+1))
    case measure=>omega
    case rel =>
     refine ⟨0+1,by omega,by omega,by go_num,?_⟩
     rw [semiT_succ]
     simpa using P3
  ·have hi':¬ (i:Int) < (n:Int):=by omega
   have hin':i=n:=by omega
   have hle:=semiT_le (fun i=>toksT (f i)) (i:=i) (n:=n) (by omega)
   go_wp2_with fail
   refine Calls.mono (P.put1 ⟨#[41]⟩ (by decide) (by simp [lenL_cons,lenL_nil,lenL_app];omega)) ?_
   rintro e w2 ⟨rfl,P2⟩
   go_wp2_with fail
   go_end0
   exact P2.finish (by rw [hin'];simp [brk])
end
end Go.Proofs.Tryz
namespace Go.Proofs.Tryz
set_option maxHeartbeats 16000000
open Go.RowKit
set_option maxRecDepth 10000
theorem kind_cases {kind c n:Nat} (h:cntOk kind c n):(kind=0∧c=0)∨(kind=1∧c=0)∨(kind=2∧c=0)∨(kind=3∧c=0)∨(kind=4∧c=0)∨(kind=5∧c=1)∨(kind=6∧c=2)∨(kind=7∧c=1)∨(kind=8∧c=1)∨(kind=9∧c≤1)∨(kind=10∧c=2 * n)∨(kind=11∧True)∨(kind=12∧c=2)∨(kind=13∧c=1)∨(kind=14∧(c=1∨c=2))∨(kind=15∧c=3)∨(kind=16∧c=2)∨(kind=17∧c=1)∨(kind=18∧c=3)∨(kind=19∧c=4)∨(kind=20∧c=2):=by
 match kind,h with
 | 0,h=>exact .inl ⟨rfl,h⟩
 | 1,h=>exact .inr (.inl ⟨rfl,h⟩)
 | 2,h=>exact .inr (.inr (.inl ⟨rfl,h⟩))
 | 3,h=>exact .inr (.inr (.inr (.inl ⟨rfl,h⟩)))
 | 4,h=>exact .inr (.inr (.inr (.inr (.inl ⟨rfl,h⟩))))
 | 5,h=>exact .inr (.inr (.inr (.inr (.inr (.inl ⟨rfl,h⟩)))))
 | 6,h=>exact .inr (.inr (.inr (.inr (.inr (.inr (.inl ⟨rfl,h⟩))))))
 | 7,h=>exact .inr (.inr (.inr (.inr (.inr (.inr (.inr (.inl ⟨rfl,h⟩)))))))
 | 8,h=>exact .inr (.inr (.inr (.inr (.inr (.inr (.inr (.inr (.inl ⟨rfl,h⟩))))))))
 | 9,h=>exact .inr (.inr (.inr (.inr (.inr (.inr (.inr (.inr (.inr (.inl ⟨rfl,h⟩)))))))))
 | 10,h=>exact .inr (.inr (.inr (.inr (.inr (.inr (.inr (.inr (.inr (.inr (.inl ⟨rfl,h⟩))))))))))
 | 11,h=>exact .inr (.inr (.inr (.inr (.inr (.inr (.inr (.inr (.inr (.inr (.inr (.inl ⟨rfl,h⟩)))))))))))
 | 12,h=>exact .inr (.inr (.inr (.inr (.inr (.inr (.inr (.inr (.inr (.inr (.inr (.inr (.inl ⟨rfl,h⟩))))))))))))
 | 13,h=>exact .inr (.inr (.inr (.inr (.inr (.inr (.inr (.inr (.inr (.inr (.inr (.inr (.inr (.inl ⟨rfl,h⟩)))))))))))))
 | 14,h=>exact .inr (.inr (.inr (.inr (.inr (.inr (.inr (.inr (.inr (.inr (.inr (.inr (.inr (.inr (.inl ⟨rfl,h⟩))))))))))))))
 | 15,h=>exact .inr (.inr (.inr (.inr (.inr (.inr (.inr (.inr (.inr (.inr (.inr (.inr (.inr (.inr (.inr (.inl ⟨rfl,h⟩)))))))))))))))
 | 16,h=>exact .inr (.inr (.inr (.inr (.inr (.inr (.inr (.inr (.inr (.inr (.inr (.inr (.inr (.inr (.inr (.inr (.inl ⟨rfl,h⟩))))))))))))))))
 | 17,h=>exact .inr (.inr (.inr (.inr (.inr (.inr (.inr (.inr (.inr (.inr (.inr (.inr (.inr (.inr (.inr (.inr (.inr (.inl ⟨rfl,h⟩)))))))))))))))))
 | 18,h=>exact .inr (.inr (.inr (.inr (.inr (.inr (.inr (.inr (.inr (.inr (.inr (.inr (.inr (.inr (.inr (.inr (.inr (.inr (.inl ⟨rfl,h⟩))))))))))))))))))
 | 19,h=>exact .inr (.inr (.inr (.inr (.inr (.inr (.inr (.inr (.inr (.inr (.inr (.inr (.inr (.inr (.inr (.inr (.inr (.inr (.inr (.inl ⟨rfl,h⟩)))))))))))))))))))
 | 20,h=>exact .inr (.inr (.inr (.inr (.inr (.inr (.inr (.inr (.inr (.inr (.inr (.inr (.inr (.inr (.inr (.inr (.inr (.inr (.inr (.inr ⟨rfl,h⟩)))))))))))))))))))
 | _+21,h=>exact h.elim
theorem lostF_if (l p:Int) (b:Bool):lostF l (if b then -1 else p)=if b then l else lostF l p:=by
 cases b
 ·rfl
 ·exact lostF_no l
section
variable {cb : Nat} {p : Nat → Prop}
theorem one_c (hp:∀ b,p b→b≠cb):∀ (t:Tn),Gdt t→OneC cb p t
 | .done _,h=>h.elim
 | .ask nm kind k,⟨hg,hkids⟩=>by
  have ih:∀ i,i < (payN (k 0)).cnt→OneC cb p (k (i+1)):=fun i hi=>one_c hp (k (i+1)) (hkids i hi)
  intro w v K s l hK hr hst hsc
  rw [lost_chk]
  obtain ⟨b,rfl,hpb,hlt,hc,hrow⟩:=hr
  have hbc:=hp b hpb
  clear hkids
  rcases kind_cases hg.cnt with ⟨rfl,hq⟩ | ⟨rfl,hq⟩ | ⟨rfl,hq⟩ | ⟨rfl,hq⟩ | ⟨rfl,hq⟩ | ⟨rfl,hq⟩ | ⟨rfl,hq⟩ | ⟨rfl,hq⟩ | ⟨rfl,hq⟩ | ⟨rfl,hq⟩ | ⟨rfl,hq⟩ | ⟨rfl,hq⟩ | ⟨rfl,hq⟩ | ⟨rfl,hq⟩ | ⟨rfl,hq⟩ | ⟨rfl,hq⟩ | ⟨rfl,hq⟩ | ⟨rfl,hq⟩ | ⟨rfl,hq⟩ | ⟨rfl,hq⟩ | ⟨rfl,hq⟩
  ·rw [hq]
   show Calls _ _ _ _ (CkQ cb (lostF l (-1)) w)
   rw [lostF_no]
   exact oneC_leaf hst (.inr (.inl ⟨b,rfl⟩))
  ·rw [hq]
   show Calls _ _ _ _ (CkQ cb (lostF l (-1)) w)
   rw [lostF_no]
   exact oneC_leaf hst (.inr (.inr ⟨b,rfl⟩))
  ·rw [hq]
   show Calls _ _ _ _ (CkQ cb (lostF l (-1)) w)
   rw [lostF_no]
   exact oneC_leaf hst (.inl ⟨b,rfl⟩)
  ·rw [hq]
   obtain ⟨_,c0,rfl⟩:=hc 0 (.error (.string (payN (k 0)).name)) rfl
   obtain ⟨_,c1,rfl⟩:=hc 1 (.error (.int .i64 (payN (k 0)).num)) rfl
   have hh:=has_same hK (b:=118) (by decide) (payN (k 0)).name 0
   show Calls _ _ _ _ (CkQ cb (lostF l (if hasK K (118,(payN (k 0)).name,0) then -1 else (payN (k 0)).num)) w)
   rw [lostF_if,← hh]
   exact oneC_Variable hst c0 c1 hg.pos hsc
  ·rw [hq]
   obtain ⟨_,c0,rfl⟩:=hc 0 (.error (.string (payN (k 0)).name)) rfl
   obtain ⟨_,c1,rfl⟩:=hc 1 (.error (.int .i64 (payN (k 0)).num)) rfl
   have hh:=has_same hK (b:=108) (by decide) (payN (k 0)).name 0
   show Calls _ _ _ _ (CkQ cb (lostF l (if hasK K (108,(payN (k 0)).name,0) then -1 else (payN (k 0)).num)) w)
   rw [lostF_if,← hh]
   exact oneC_Break hst c0 c1 hg.pos hsc
  ·rw [hq]
   obtain ⟨x0,c0,r0⟩:=hc 0 (.ok 0) rfl
   show Calls _ _ _ _ (CkQ cb (lostF (lostF l (-1)) (chk (k 1) K)) w)
   rw [lostF_no]
   exact oneC_Field hst hbc c0 ((ih 0 (by omega)).item hp hK r0 hst hsc)
  ·rw [hq]
   obtain ⟨x0,c0,r0⟩:=hc 0 (.ok 0) rfl
   obtain ⟨x1,c1,r1⟩:=hc 1 (.ok 1) rfl
   show Calls _ _ _ _ (CkQ cb (lostF (lostF (lostF l (-1)) (chk (k 1) K)) (chk (k 2) K)) w)
   rw [lostF_no]
   exact oneC_Index hst hbc c0 c1 ((ih 0 (by omega)).item hp hK r0 hst hsc) ((ih 1 (by omega)).item hp hK r1 hst hsc)
  ·rw [hq]
   obtain ⟨x0,c0,r0⟩:=hc 0 (.ok 0) rfl
   show Calls _ _ _ _ (CkQ cb (lostF (lostF l (-1)) (chk (k 1) K)) w)
   rw [lostF_no]
   exact oneC_Each hst hbc c0 ((ih 0 (by omega)).item hp hK r0 hst hsc)
  ·rw [hq]
   obtain ⟨x0,c0,r0⟩:=hc 0 (.ok 0) rfl
   show Calls _ _ _ _ (CkQ cb (lostF (lostF l (-1)) (chk (k 1) K)) w)
   rw [lostF_no]
   exact oneC_Optional hst hbc c0 ((ih 0 (by omega)).item hp hK r0 hst hsc)
  ·by_cases h0:(payN (k 0)).cnt=0
   ·rw [h0]
    obtain ⟨_,c0,rfl⟩:=hc 0 (.error .nilIface) (by show (if (payN (k 0)).cnt=0 then _ else _:List (Option Cd))[0]? = _;rw [if_pos h0];rfl)
    show Calls _ _ _ _ (CkQ cb (lostF l (-1)) w)
    have:=oneC_Collect (s:=s) hst hbc c0 (c1:=-1) (.inl ⟨rfl,rfl⟩)
    exact this
   ·have h1:(payN (k 0)).cnt=1:=by omega
    rw [h1]
    obtain ⟨x0,c0,r0⟩:=hc 0 (.ok 0) (by show (if (payN (k 0)).cnt=0 then _ else _:List (Option Cd))[0]? = _;rw [if_neg h0];rfl)
    show Calls _ _ _ _ (CkQ cb (lostF (lostF l (-1)) (chk (k 1) K)) w)
    rw [lostF_no]
    exact oneC_Collect hst hbc c0 ((ih 0 (by omega)).item hp hK r0 hst hsc)
  ·obtain ⟨r,vs,c0,ow,hgp,hlen,hv⟩:=hrow 0 _ _ _ _ rfl
   obtain ⟨a,cap,rfl,hra⟩:=row_of ow
   have hma:=fun i x hx=>mem_at (k:=k) hv (i:=i) (x:=x) hx
   obtain ⟨ms,hml,hms⟩:=list_of (fun i (m:Mc)=>i < (payN (k 0)).names.length∧m.c1=chk (k (2 * i+1)) K∧m.c2=chk (k (2 * i+2)) K∧vs[4 * i]? = some (.string m.nm)∧vs[4 * i+1]? = some m.key∧vs[4 * i+2]? = some (.bool m.br)∧vs[4 * i+3]? = some m.val∧Rf p w (k (2 * i+1)) m.key∧Rf p w (k (2 * i+2)) m.val) (payN (k 0)).names.length (fun i hi=>by
    obtain ⟨h0,h2,⟨u1,v1,r1⟩,⟨u3,v3,r3⟩⟩:=hma i _ (List.getElem?_eq_getElem hi)
    obtain ⟨d1,rfl,_,_⟩:=r1.shape
    obtain ⟨d3,rfl,_,_⟩:=r3.shape
    exact ⟨⟨_,_,_,d1,_,d3,_,_⟩,hi,rfl,rfl,h0,v1,h2,v3,r1,r3⟩)
   have e:∀ n,n≤ms.length→∀ l,lostM l (ms.take n)=lostR (fun i=>chk (k (i+1)) K) (2 * n) l:=by
    intro n
    induction n with
    | zero=>intro _ l;rfl
    | succ n ihn =>
     intro hn l
     have hm:=hms n _ (List.getElem?_eq_getElem (by omega))
     rw [lostM_add l (List.getElem?_eq_getElem (by omega)),show 2 * (n+1)=2 * n+1+1 by omega,lostR_succ,lostR_succ,ihn (by omega),hm.2.1,hm.2.2.1]
   have e2:=e ms.length (Nat.le_refl _) l
   rw [List.take_length,hml] at e2
   rw [hq]
   show Calls _ _ _ _ (CkQ cb (lostR (fun i=>chk (k (i+1)) K) (2 * (payN (k 0)).names.length) (lostF l (-1))) w)
   rw [lostF_no,← e2]
   refine oneC_Build hml (by have:=hg.fewn;omega) hst hbc c0 (fun h0=>?_) (fun m hm=>?_)
   ·rcases hra with ⟨_,h1⟩ | ⟨d,rfl,hd,hdl,hcl⟩
    ·omega
    ·refine ⟨d,rfl,hdl,hp d (hgp d hd),fun i m hi=>?_⟩
     obtain ⟨_,_,_,v0,v1,v2,v3,_⟩:=hms i m hi
     rw [Nat.mul_comm i 4]
     exact ⟨hcl _ _ v0,hcl _ _ v1,hcl _ _ v2,hcl _ _ v3⟩
   ·obtain ⟨i,hi⟩:=List.mem_iff_getElem?.1 hm
    obtain ⟨hil,e1,e3,_,_,_,_,r1,r3⟩:=hms i m hi
    rw [e1,e3]
    exact ⟨(ih (2 * i) (by omega)).item hp hK r1 hst hsc,(ih (2 * i+1) (by omega)).item hp hK r3 hst hsc⟩
  ·obtain ⟨_,c0,rfl⟩:=hc 0 (.error (.string (payN (k 0)).name)) rfl
   obtain ⟨_,c2,rfl⟩:=hc 2 (.error (.int .i64 (payN (k 0)).num)) rfl
   obtain ⟨r,vs,c1,ow,hgp,hlen,hv⟩:=hrow 1 _ _ _ _ rfl
   obtain ⟨a,cap,rfl,hA⟩:=args_c hp ih hK hg.few ow hgp (fun i hi=>hv i (.ok i) (by simp [hi])) hst hsc
   have hh:=has_same hK (b:=102) (by decide) (payN (k 0)).name (payN (k 0)).cnt
   show Calls _ _ _ _ (CkQ cb (lostR (fun i=>chk (k (i+1)) K) (payN (k 0)).cnt (lostF l (if hasK K (102,(payN (k 0)).name,(payN (k 0)).cnt) || givenB (payN (k 0)).name (payN (k 0)).cnt then -1 else (payN (k 0)).num))) w)
   rw [lostF_if,← hh]
   exact oneC_Call hst hbc c0 c1 c2 hg.pos hsc hA
  ·rw [hq]
   obtain ⟨x0,c0,r0⟩:=hc 0 (.ok 0) rfl
   obtain ⟨x1,c1,r1⟩:=hc 2 (.ok 1) rfl
   show Calls _ _ _ _ (CkQ cb (lostF (lostF (lostF l (-1)) (chk (k 1) K)) (chk (k 2) K)) w)
   rw [lostF_no]
   exact oneC_Binary hst hbc c0 c1 ((ih 0 (by omega)).item hp hK r0 hst hsc) ((ih 1 (by omega)).item hp hK r1 hst hsc)
  ·rw [hq]
   obtain ⟨x0,c0,r0⟩:=hc 0 (.ok 0) rfl
   show Calls _ _ _ _ (CkQ cb (lostF (lostF l (-1)) (chk (k 1) K)) w)
   rw [lostF_no]
   exact oneC_Minus hst hbc c0 ((ih 0 (by omega)).item hp hK r0 hst hsc)
  ·rcases hq with hq | hq
   ·rw [hq]
    obtain ⟨x0,c0,r0⟩:=hc 0 (.ok 0) (by show (if (payN (k 0)).cnt=1 then _ else _:List (Option Cd))[0]? = _;rw [if_pos hq];rfl)
    obtain ⟨_,c1,rfl⟩:=hc 1 (.error .nilIface) (by show (if (payN (k 0)).cnt=1 then _ else _:List (Option Cd))[1]? = _;rw [if_pos hq];rfl)
    show Calls _ _ _ _ (CkQ cb (lostF (lostF l (-1)) (chk (k 1) K)) w)
    rw [lostF_no]
    have:=oneC_Try hst hbc c0 c1 ((ih 0 (by omega)).item hp hK r0 hst hsc) (c2:=-1) (.inl ⟨rfl,rfl⟩)
    rw [lostF_no] at this
    exact this
   ·rw [hq]
    obtain ⟨x0,c0,r0⟩:=hc 0 (.ok 0) (by show (if (payN (k 0)).cnt=1 then _ else _:List (Option Cd))[0]? = _;rw [if_neg (by omega)];rfl)
    obtain ⟨x1,c1,r1⟩:=hc 1 (.ok 1) (by show (if (payN (k 0)).cnt=1 then _ else _:List (Option Cd))[1]? = _;rw [if_neg (by omega)];rfl)
    show Calls _ _ _ _ (CkQ cb (lostF (lostF (lostF l (-1)) (chk (k 1) K)) (chk (k 2) K)) w)
    rw [lostF_no]
    exact oneC_Try hst hbc c0 c1 ((ih 0 (by omega)).item hp hK r0 hst hsc) ((ih 1 (by omega)).item hp hK r1 hst hsc)
  ·rw [hq]
   obtain ⟨x0,c0,r0⟩:=hc 0 (.ok 0) rfl
   obtain ⟨x1,c1,r1⟩:=hc 1 (.ok 1) rfl
   obtain ⟨x2,c2,r2⟩:=hc 2 (.ok 2) rfl
   show Calls _ _ _ _ (CkQ cb (lostF (lostF (lostF (lostF l (-1)) (chk (k 1) K)) (chk (k 2) K)) (chk (k 3) K)) w)
   rw [lostF_no]
   obtain ⟨d0,rfl,_,_⟩:=r0.shape
   obtain ⟨d1,rfl,_,_⟩:=r1.shape
   obtain ⟨d2,rfl,_,_⟩:=r2.shape
   exact oneC_If hst hbc c0 c1 c2 ((ih 0 (by omega)).item hp hK r0 hst hsc) ((ih 1 (by omega)).item hp hK r1 hst hsc) ((ih 2 (by omega)).item hp hK r2 hst hsc)
  ·rw [hq]
   obtain ⟨_,cn,rfl⟩:=hc 1 (.error (.string (payN (k 0)).name)) rfl
   obtain ⟨x0,c0,r0⟩:=hc 0 (.ok 0) rfl
   obtain ⟨x1,c1,r1⟩:=hc 2 (.ok 1) rfl
   obtain ⟨d0,rfl,_,_⟩:=r0.shape
   obtain ⟨d1,rfl,_,_⟩:=r1.shape
   have hKb:=hK.add (b:=118) (by decide) (payN (k 0)).name 0
   have eK:=envK_add K 118 (payN (k 0)).name 0
   rw [useK_v] at eK
   show Calls _ _ _ _ (CkQ cb (lostF (lostF (lostF l (-1)) (chk (k 1) K)) (chk (k 2) (K ++ [(118,(payN (k 0)).name,0)]))) w)
   rw [lostF_no]
   have B1:=(ih 1 (by omega)).body hp hKb r1
   rw [eK] at B1
   exact oneC_binder (.inr (.inr (.inl rfl))) (binderC_Bind hst hbc cn c0 c1 hsc ((ih 0 (by omega)).item hp hK r0 hst hsc) B1)
  ·rw [hq]
   obtain ⟨_,cn,rfl⟩:=hc 0 (.error (.string (payN (k 0)).name)) rfl
   obtain ⟨x0,c0,r0⟩:=hc 1 (.ok 0) rfl
   obtain ⟨d0,rfl,_,_⟩:=r0.shape
   have hKb:=hK.add (b:=108) (by decide) (payN (k 0)).name 0
   have eK:=envK_add K 108 (payN (k 0)).name 0
   rw [useK_l] at eK
   show Calls _ _ _ _ (CkQ cb (lostF (lostF l (-1)) (chk (k 1) (K ++ [(108,(payN (k 0)).name,0)]))) w)
   rw [lostF_no]
   have B0:=(ih 0 (by omega)).body hp hKb r0
   rw [eK] at B0
   exact oneC_binder (.inr (.inr (.inr (.inl rfl)))) (binderC_Label hst hbc cn c0 hsc B0)
  ·rw [hq]
   obtain ⟨_,cn,rfl⟩:=hc 1 (.error (.string (payN (k 0)).name)) rfl
   obtain ⟨x0,c0,r0⟩:=hc 0 (.ok 0) rfl
   obtain ⟨x1,c1,r1⟩:=hc 2 (.ok 1) rfl
   obtain ⟨x2,c2,r2⟩:=hc 3 (.ok 2) rfl
   obtain ⟨d0,rfl,_,_⟩:=r0.shape
   obtain ⟨d1,rfl,_,_⟩:=r1.shape
   obtain ⟨d2,rfl,_,_⟩:=r2.shape
   have hKb:=hK.add (b:=118) (by decide) (payN (k 0)).name 0
   have eK:=envK_add K 118 (payN (k 0)).name 0
   rw [useK_v] at eK
   show Calls _ _ _ _ (CkQ cb (lostF (lostF (lostF (lostF l (-1)) (chk (k 1) K)) (chk (k 2) K)) (chk (k 3) (K ++ [(118,(payN (k 0)).name,0)]))) w)
   rw [lostF_no]
   have B2:=(ih 2 (by omega)).body hp hKb r2
   rw [eK] at B2
   exact oneC_binder (.inl rfl) (binderC_Reduce hst hbc cn c0 c1 c2 hsc ((ih 0 (by omega)).item hp hK r0 hst hsc) ((ih 1 (by omega)).item hp hK r1 hst hsc) B2)
  ·rw [hq]
   obtain ⟨_,cn,rfl⟩:=hc 1 (.error (.string (payN (k 0)).name)) rfl
   obtain ⟨x0,c0,r0⟩:=hc 0 (.ok 0) rfl
   obtain ⟨x1,c1,r1⟩:=hc 2 (.ok 1) rfl
   obtain ⟨x2,c2,r2⟩:=hc 3 (.ok 2) rfl
   obtain ⟨x3,c3,r3⟩:=hc 4 (.ok 3) rfl
   obtain ⟨d0,rfl,_,_⟩:=r0.shape
   obtain ⟨d1,rfl,_,_⟩:=r1.shape
   obtain ⟨d2,rfl,_,_⟩:=r2.shape
   obtain ⟨d3,rfl,_,_⟩:=r3.shape
   have hKb:=hK.add (b:=118) (by decide) (payN (k 0)).name 0
   have eK:=envK_add K 118 (payN (k 0)).name 0
   rw [useK_v] at eK
   show Calls _ _ _ _ (CkQ cb (lostF (lostF (lostF (lostF (lostF l (-1)) (chk (k 1) K)) (chk (k 2) K)) (chk (k 3) (K ++ [(118,(payN (k 0)).name,0)]))) (chk (k 4) (K ++ [(118,(payN (k 0)).name,0)]))) w)
   rw [lostF_no]
   have B2:=(ih 2 (by omega)).body hp hKb r2
   rw [eK] at B2
   have B3:=(ih 3 (by omega)).body hp hKb r3
   rw [eK] at B3
   exact oneC_binder (.inr (.inr (.inr (.inr rfl)))) (binderC_Foreach hst hbc cn c0 c1 c2 c3 hsc ((ih 0 (by omega)).item hp hK r0 hst hsc) ((ih 1 (by omega)).item hp hK r1 hst hsc) B2 B3)
  ·rw [hq]
   obtain ⟨_,cn,rfl⟩:=hc 0 (.error (.string (payN (k 0)).name)) rfl
   obtain ⟨r,vs,c1,ow,hgp,hlen,hv⟩:=hrow 1 _ _ _ _ rfl
   obtain ⟨a,cap,rfl,hra⟩:=row_of ow
   obtain ⟨x0,c0,r0⟩:=hc 2 (.ok 0) rfl
   obtain ⟨x1,cz,r1⟩:=hc 3 (.ok 1) rfl
   obtain ⟨d0,rfl,_,_⟩:=r0.shape
   obtain ⟨d1,rfl,_,_⟩:=r1.shape
   have hK1:=hK.add (b:=102) (by decide) (payN (k 0)).name (payN (k 0)).names.length
   have e1:=envK_add K 102 (payN (k 0)).name (payN (k 0)).names.length
   rw [useK_f] at e1
   have hK2:=hK1.adds (payN (k 0)).names
   have e2:=envK_adds (payN (k 0)).names (K ++ [(102,(payN (k 0)).name,(payN (k 0)).names.length)])
   rw [e1] at e2
   show Calls _ _ _ _ (CkQ cb (lostF (lostF (lostF l (-1)) (chk (k 1) (K ++ [(102,(payN (k 0)).name,(payN (k 0)).names.length)] ++ (payN (k 0)).names.map (fun x=>(102,x,0))))) (chk (k 2) (K ++ [(102,(payN (k 0)).name,(payN (k 0)).names.length)]))) w)
   rw [lostF_no]
   have B0:=(ih 0 (by omega)).body hp hK2 r0
   rw [e2] at B0
   have B1:=(ih 1 (by omega)).body hp hK1 r1
   rw [e1] at B1
   refine oneC_binder (.inr (.inl rfl)) (binderC_Def (ps:=(payN (k 0)).names) rfl (by have:=hg.fewn;omega) hst hbc cn c1 c0 cz (fun h0=>?_) hsc B0 B1)
   rcases hra with ⟨_,h1⟩ | ⟨d,rfl,hd,hdl,hcl⟩
   ·omega
   ·refine ⟨d,0,rfl,hdl,fun i q hi=>?_⟩
    rw [Nat.zero_add]
    obtain ⟨_,h1,rfl⟩:=hv i (.error (.string q)) (by simp [hi])
    exact hcl i _ h1
end
end Go.Proofs.Tryz
