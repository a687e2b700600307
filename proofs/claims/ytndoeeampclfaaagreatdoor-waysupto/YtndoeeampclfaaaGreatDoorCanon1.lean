import Derived.Test.YtndoeeampclfaaaGreatDoorStr7
import Derived.Test.YtndoeeampclfaaaGreatDoorNames3
import Derived.RegionDies
import Derived.RangeFuncNested
import Derived.RangeFuncBound
import Derived.RangeFuncCalls
import Derived.RangeFuncLeaves
import Derived.Shelf.RegionOpen
import Derived.OwnWalkIn
import Derived.TacticsInMore
import Derived.LoopNIn
import Derived.LoopIn
import Derived.Sort.LoopGhostIn
import Derived.Sort.QuietIn
import Derived.Lib.AppendIntMem
import Derived.Laws.IdiomStrings
set_option linter.all false
namespace Go.Proofs.Tryz
set_option maxHeartbeats 16000000
open Go.RowKit
set_option maxRecDepth 10000
theorem hitVNull (v:Value) (w:World):Sem.run Tryz.prog (Instr.typeAssert (.iface 95 v) 32 95 true) w = .ok (.tuple #[v,.bool true]) w:=by
 unfold Instr.typeAssert
 simp [Sem.run_bind,run_underlying Tryz.underlying95]
theorem missVNull (t:Nat) (v:Value) (w:World) (h:t≠95):Sem.run Tryz.prog (Instr.typeAssert (.iface t v) 32 95 true) w = .ok (.tuple #[.agg #[],.bool false]) w:=by
 obtain ⟨i,h1,h2,_,_⟩:=info_parts (show (Tryz.prog.info? 95).map (fun i=>(i.zero,i.size,i.bytes))=some (some (.agg #[]),0,0) by kernel_rfl)
 unfold Instr.typeAssert
 simp [Sem.run_bind,run_underlying Tryz.underlying95,h,zeroValue,typeInfo,h1,h2]
theorem hitVBool (v:Value) (w:World):Sem.run Tryz.prog (Instr.typeAssert (.iface 96 v) 32 96 true) w = .ok (.tuple #[v,.bool true]) w:=by
 unfold Instr.typeAssert
 simp [Sem.run_bind,run_underlying Tryz.underlying96]
theorem missVBool (t:Nat) (v:Value) (w:World) (h:t≠96):Sem.run Tryz.prog (Instr.typeAssert (.iface t v) 32 96 true) w = .ok (.tuple #[.bool false,.bool false]) w:=by
 obtain ⟨i,h1,h2,_,_⟩:=info_parts (show (Tryz.prog.info? 96).map (fun i=>(i.zero,i.size,i.bytes))=some (some (.bool false),1,1) by kernel_rfl)
 unfold Instr.typeAssert
 simp [Sem.run_bind,run_underlying Tryz.underlying96,h,zeroValue,typeInfo,h1,h2]
theorem hitVNumber (v:Value) (w:World):Sem.run Tryz.prog (Instr.typeAssert (.iface 98 v) 32 98 true) w = .ok (.tuple #[v,.bool true]) w:=by
 unfold Instr.typeAssert
 simp [Sem.run_bind,run_underlying Tryz.underlying98]
theorem missVNumber (t:Nat) (v:Value) (w:World) (h:t≠98):Sem.run Tryz.prog (Instr.typeAssert (.iface t v) 32 98 true) w = .ok (.tuple #[.int .i64 0,.bool false]) w:=by
 obtain ⟨i,h1,h2,_,_⟩:=info_parts (show (Tryz.prog.info? 98).map (fun i=>(i.zero,i.size,i.bytes))=some (some (.int .i64 0),1,8) by kernel_rfl)
 unfold Instr.typeAssert
 simp [Sem.run_bind,run_underlying Tryz.underlying98,h,zeroValue,typeInfo,h1,h2]
theorem hitVString (v:Value) (w:World):Sem.run Tryz.prog (Instr.typeAssert (.iface 100 v) 32 100 true) w = .ok (.tuple #[v,.bool true]) w:=by
 unfold Instr.typeAssert
 simp [Sem.run_bind,run_underlying Tryz.underlying100]
theorem missVString (t:Nat) (v:Value) (w:World) (h:t≠100):Sem.run Tryz.prog (Instr.typeAssert (.iface t v) 32 100 true) w = .ok (.tuple #[.string ⟨#[]⟩,.bool false]) w:=by
 obtain ⟨i,h1,h2,_,_⟩:=info_parts (show (Tryz.prog.info? 100).map (fun i=>(i.zero,i.size,i.bytes))=some (some (.string ⟨#[]⟩),1,16) by kernel_rfl)
 unfold Instr.typeAssert
 simp [Sem.run_bind,run_underlying Tryz.underlying100,h,zeroValue,typeInfo,h1,h2]
theorem hitVArray (v:Value) (w:World):Sem.run Tryz.prog (Instr.typeAssert (.iface 86 v) 32 86 true) w = .ok (.tuple #[v,.bool true]) w:=by
 unfold Instr.typeAssert
 simp [Sem.run_bind,run_underlying Tryz.underlying86]
theorem missVArray (t:Nat) (v:Value) (w:World) (h:t≠86):Sem.run Tryz.prog (Instr.typeAssert (.iface t v) 32 86 true) w = .ok (.tuple #[.slice none 0 0,.bool false]) w:=by
 obtain ⟨i,h1,h2,_,_⟩:=info_parts (show (Tryz.prog.info? 86).map (fun i=>(i.zero,i.size,i.bytes))=some (some (.slice none 0 0),1,24) by kernel_rfl)
 unfold Instr.typeAssert
 simp [Sem.run_bind,run_underlying Tryz.underlying86,h,zeroValue,typeInfo,h1,h2]
theorem hitVObject (v:Value) (w:World):Sem.run Tryz.prog (Instr.typeAssert (.iface 102 v) 32 102 true) w = .ok (.tuple #[v,.bool true]) w:=by
 unfold Instr.typeAssert
 simp [Sem.run_bind,run_underlying Tryz.underlying102]
theorem missVObject (t:Nat) (v:Value) (w:World) (h:t≠102):Sem.run Tryz.prog (Instr.typeAssert (.iface t v) 32 102 true) w = .ok (.tuple #[.slice none 0 0,.bool false]) w:=by
 obtain ⟨i,h1,h2,_,_⟩:=info_parts (show (Tryz.prog.info? 102).map (fun i=>(i.zero,i.size,i.bytes))=some (some (.slice none 0 0),1,24) by kernel_rfl)
 unfold Instr.typeAssert
 simp [Sem.run_bind,run_underlying Tryz.underlying102,h,zeroValue,typeInfo,h1,h2]
end Go.Proofs.Tryz
namespace Go.Proofs.Tryz
set_option maxHeartbeats 16000000
open Go.RowKit
set_option maxRecDepth 10000
theorem two_set0 {w:World}{b:Nat}{x y u:Value}{t:TypeId}(h:w.heap[b]? = some (.cells #[x,y] t (0,0))):(w.setCell ⟨b,0,none⟩ u).heap[b]? = some (.cells #[u,y] t (0,0)):=by
 have hlt:=lt_of_block h
 have h':w.heap[b] = .cells #[x,y] t (0,0):=by simpa [Array.getElem?_eq_getElem hlt] using h
 show (w.heap.modify b _)[b]? = _
 rw [Array.getElem?_eq_getElem (by simpa using hlt),Array.getElem_modify_self,h']
 rfl
theorem two_set1 {w:World}{b:Nat}{x y u:Value}{t:TypeId}(h:w.heap[b]? = some (.cells #[x,y] t (0,0))):(w.setCell ⟨b,1,none⟩ u).heap[b]? = some (.cells #[x,u] t (0,0)):=by
 have hlt:=lt_of_block h
 have h':w.heap[b] = .cells #[x,y] t (0,0):=by simpa [Array.getElem?_eq_getElem hlt] using h
 show (w.heap.modify b _)[b]? = _
 rw [Array.getElem?_eq_getElem (by simpa using hlt),Array.getElem_modify_self,h']
 rfl
theorem SpotBox.set {w:World}{b:Nat}{v:Value}(h:SpotBox w b v) (u:Value):SpotBox ((w.setCell ⟨b,0,none⟩ u).setCell ⟨b,1,none⟩ (.pointer none)) b u:=two_set1 (two_set0 h)
theorem catch_idle (p:Nat) (w:World) :
  CallsD Tryz.prog 67 #[.pointer (some ⟨p,0,none⟩)] .returning w fun e u' w'=>e = .returned (.tuple #[])∧u' = .returning∧w'=w:=by
 refine callsD_of_wpS Tryz.func67 rfl fun c₀ cs hu=>?_
 apply wpS_seq
 apply wpS_region
 simp [wpOpsS,go_sem,recoverD,hu,Tryz.ntmps67,Exit.thenS]
 refine wpS_of_wp ?_
 have e:(#[.pointer (some ⟨p,0,none⟩)] ++ (Array.replicate 10 undef).setIfInBounds 3 .nilIface:Array Value) = #[.pointer (some ⟨p,0,none⟩),undef,undef,undef,.nilIface,undef,undef,undef,undef,undef,undef]:=by simp [Array.replicate]
 rw [e]
 go_wp2
 cases c₀
 simp_all [bodyPostS,results,Tryz.results67]
theorem pull_done {w:World}{f:Value}{F D:Nat→Prop}(hS:Str [] .none F D w f) :
  Calls Tryz.prog 24 #[f] w fun e w'=>Fr D w w'∧e = .returned (.tuple #[.agg #[.nilIface,.pointer none],.bool false,.pointer none]):=by
 have hmf:∀ (fn:Fn) (first cap:Array Value) (w:World),(Instr.makeFunc fn first cap).run Tryz.prog w = .ok (.func fn first cap) w:=fun _ _ _ _=>rfl
 obtain ⟨K,cap,rfl,hE,hF,hD,h⟩:=hS
 have hE':∀ (args:Array Value) (w:World),(callFunc K args).run Tryz.prog w = .ok (.enter K args) w:=hE
 simp only [Ends1] at h
 have n1:¬ D w.heap.size:=new_not hF hD
 have n2:¬ D (w.heap.size+1):=fun e=>by have:=hF _ (hD _ e);omega
 go_enter_defers Tryz.func24,Tryz.ntmps24
 go_wp2_with (go_at_fn K;refine (h _ (fun k hk=>(below_alloc2 w _ _).block k (hF k hk)) (by simp;omega)).mono ?_;rintro e w1 ⟨k1,rfl⟩;have q:SpotBox w1 w.heap.size .nilIface:=((SpotBox.new w .nilIface).alloc _).same (k1.block _ (by simp;omega) n1);obtain ⟨q0,q1,q2,q3,q4⟩:=q.facts;have c:Box w1 (w.heap.size+1) (.pointer none) 80:=Box.same (heap_new2' w _ _) (k1.block _ (by simp) n2);have c0:=c.cell;have c1:=c.free;have c2:=c.lt)
 refine leaves_cons (f:=67) (args:=#[.pointer (some ⟨w.heap.size+1,0,none⟩)]) (by simp) (by simp [go_sem]) ?_
 refine (catch_idle (w.heap.size+1) _).mono ?_
 rintro e u' w'' ⟨rfl,rfl,rfl⟩
 have hend:Fr (fun k=>k=w.heap.size∨k=w.heap.size+1) w1 (((((w1.setCell ⟨w.heap.size,0,none⟩ .nilIface).setCell ⟨w.heap.size,1,none⟩ (.pointer none)).setCell ⟨w.heap.size,0,none⟩ .nilIface).setCell ⟨w.heap.size,1,none⟩ (.pointer none)).setCell ⟨w.heap.size+1,0,none⟩ (.pointer none)):=(((((Fr.refl (fun k=>k=w.heap.size∨k=w.heap.size+1) w1).setCell _ (.inl (.inl rfl))).setCell _ (.inl (.inl rfl))).setCell _ (.inl (.inl rfl))).setCell _ (.inl (.inl rfl))).setCell _ (.inl (.inr rfl))
 have qF:=((q.set .nilIface).set .nilIface).same (Below.heap_setCell _ ⟨w.heap.size+1,0,none⟩ (.pointer none) _ (by simp))
 have cF:=((((c.same (Below.heap_setCell _ ⟨w.heap.size,0,none⟩ .nilIface _ (by simp))).same (Below.heap_setCell _ ⟨w.heap.size,1,none⟩ (.pointer none) _ (by simp))).same (Below.heap_setCell _ ⟨w.heap.size,0,none⟩ .nilIface _ (by simp))).same (Below.heap_setCell _ ⟨w.heap.size,1,none⟩ (.pointer none) _ (by simp))).set (.pointer none)
 obtain ⟨r0,r1,_,_,r4⟩:=qF.facts
 have r5:=cF.cell
 have hR:Fr D w w1:=(((Fr.refl D w).alloc _).alloc _).trans k1 (fun _ _ e=>e)
 exact ⟨.tuple #[.agg #[.nilIface,.pointer none],.bool false,.pointer none],by simp [results,Tryz.results24,go_sem,r0,r1,r5],hR.trans hend (fun i hi e=>by omega),rfl⟩
end Go.Proofs.Tryz
namespace Go.Proofs.Tryz
set_option maxHeartbeats 16000000
open Go.RowKit
set_option maxRecDepth 10000
theorem plain_ok {w:World}{T:Nat}{u:Value}:Calls Tryz.prog 50 #[.agg #[.iface T u,.pointer none]] w fun e w'=>e = .returned (.agg #[.iface T u,.pointer none])∧Below w.heap.size w w':=by
 go_enter Tryz.func50,Tryz.ntmps50
 go_wp2
 exact bodyPost_ret (v:=.agg #[.iface T u,.pointer none]) (by simp [results,Tryz.results50,go_sem]) rfl ⟨rfl,below_alloc2 w _ _⟩
theorem pathless_ok {w:World}{T K:Nat}{u:Value}{cap:Array Value}:Calls Tryz.prog 65 #[.agg #[.iface T u,.pointer none],.func (.func K) #[] cap] w fun e w'=>e = .returned (.func (.func K) #[] cap)∧Below w.heap.size w w':=by
 go_enter Tryz.func65,Tryz.ntmps65
 go_wp2
 go_ret
 exact ⟨rfl,below_alloc2 w _ _⟩
theorem four {w w1:World}{kn:Option Addr}{d:Int}{T:Nat}{u:Value}(k:Below (w.heap.size+2) ((w.alloc (.cells #[.pointer kn,.int .i64 d] 71)).alloc (.cells #[.iface T u,.pointer none] 75)) w1):w1.cell? ⟨w.heap.size,0,none⟩=some (.pointer kn)∧w1.cell? ⟨w.heap.size,1,none⟩=some (.int .i64 d)∧w1.cell? ⟨w.heap.size+1,0,none⟩=some (.iface T u)∧w1.cell? ⟨w.heap.size+1,1,none⟩=some (.pointer none):=by
 have h0:=k.cell (p:=⟨w.heap.size,0,none⟩) (by simp)
 have h1:=k.cell (p:=⟨w.heap.size,1,none⟩) (by simp)
 have h2:=k.cell (p:=⟨w.heap.size+1,0,none⟩) (by simp)
 have h3:=k.cell (p:=⟨w.heap.size+1,1,none⟩) (by simp)
 simp at h0 h1 h2 h3
 exact ⟨h0,h1,h2,h3⟩
end Go.Proofs.Tryz
namespace Go.Proofs.Tryz
set_option maxHeartbeats 16000000
open Go.RowKit
set_option maxRecDepth 10000
theorem sure_none {w:World}{T:Nat}{u:Value}:Calls Tryz.prog 94 #[.iface T u,.nilIface] w fun e w'=>e = .returned (.iface T u)∧w'=w:=by
 go_enter Tryz.func94,Tryz.ntmps94
 go_wp2
 go_ret
 exact ⟨rfl,rfl⟩
theorem grown_none {w:World}{T:Nat}{u:Value}:Calls Tryz.prog 96 #[.pointer none,.iface T u] w fun e w'=>e = .returned (.pointer none)∧w'=w:=by
 go_enter Tryz.func96,Tryz.ntmps96
 go_wp2
 go_ret
 exact ⟨rfl,rfl⟩
theorem lt_cell {w:World}{a:Addr}{v:Value}(h:w.cell? a=some v):a.block < w.heap.size:=by
 unfold World.cell? at h
 by_cases hb:a.block < w.heap.size
 ·exact hb
 ·simp [Array.getElem?_eq_none (by omega:w.heap.size≤a.block)] at h
theorem six {w w1:World}(k:Below w.heap.size w w1) {a b c d e f:Addr}{va vb vc vd ve vf:Value}(ha:w.cell? a=some va) (hb:w.cell? b=some vb) (hc:w.cell? c=some vc) (hd:w.cell? d=some vd) (he:w.cell? e=some ve) (hf:w.cell? f=some vf) :
  w1.cell? a=some va∧w1.cell? b=some vb∧w1.cell? c=some vc∧w1.cell? d=some vd∧w1.cell? e=some ve∧w1.cell? f=some vf :=
 ⟨(k.cell (lt_cell ha)).trans ha,(k.cell (lt_cell hb)).trans hb,(k.cell (lt_cell hc)).trans hc,(k.cell (lt_cell hd)).trans hd,(k.cell (lt_cell he)).trans he,(k.cell (lt_cell hf)).trans hf⟩
def AtIs (B:Nat) (w0:World) (x i y:IV):Prop:=∀ w,SameOn (· < B) w0 w→B≤w.heap.size→Calls Tryz.prog 95 #[iv x,iv i] w fun e w'=>e = .returned (.tuple #[iv y,.nilIface])∧Below w.heap.size w w'
theorem at_ok {B:Nat}{w0 w:World}{x i y:IV}(h:AtIs B w0 x i y) (hs:SameOn (· < B) w0 w) (hB:B≤w.heap.size) :
  Calls Tryz.prog 47 #[.agg #[iv x,.pointer none],iv i] w fun e w'=>e = .returned (.agg #[iv y,.pointer none])∧Below w.heap.size w w':=by
 obtain ⟨T,u⟩:=x
 obtain ⟨T1,u1⟩:=i
 obtain ⟨T2,u2⟩:=y
 simp only [iv,AtIs] at h ⊢
 go_enter Tryz.func47,Tryz.ntmps47
 go_wp2_with fail
 go_region_held3 (fun w'=>w'.cell? ⟨w.heap.size,0,none⟩=some (.iface T u)∧w'.cell? ⟨w.heap.size,1,none⟩=some (.pointer none)) (first | exact e4 | go_keep)
   (first
    | (go_at_call 95;refine (h _ (hs.trans (fun k hk=>(below_alloc2 w _ _).drew.block k (by have:k < B:=hk;omega))) (by simp;omega)).mono ?_;rintro e w1 ⟨rfl,k1⟩;have kA:Below (w.heap.size+2) ((w.alloc (.cells #[.iface T u,.pointer none] 75)).alloc (.cells #[.nilIface,.pointer none] 75)) w1:=(Below.refl _ _).drew.trans (k1.mono (by simp));have q0:=kA.cell (p:=⟨w.heap.size,0,none⟩) (by simp);have q1:=kA.cell (p:=⟨w.heap.size,1,none⟩) (by simp);simp at q0 q1;have e4:=And.intro q0 q1;have q:SpotBox w1 (w.heap.size+1) .nilIface:=SpotBox.same (heap_new2' w _ _) (kA.block _ (by omega));obtain ⟨r0,r1,r2,r3,r4⟩:=q.facts)
    | (go_at_call 94;refine sure_none.mono ?_;rintro e w2 ⟨rfl,rfl⟩)
    | (go_at_call 96;refine grown_none.mono ?_;rintro e w3 ⟨rfl,rfl⟩))
 go_wp2_with fail
 exact bodyPost_ret (v:=.agg #[.iface T2 u2,.pointer none]) (by simp [results,Tryz.results47,go_sem,r4,r0,r1]) rfl ⟨rfl,(((below_alloc2 w _ _).trans (kA.mono (by omega))).setCell (by simp) _).setCell (by simp) _⟩
theorem enters_open21:Enters Tryz.prog 51:=enters_of Tryz.func51 (by kernel_rfl) rfl
def PlaceBox (w:World) (b:Nat) (kn:Option Addr) (d:Int):Prop:=w.heap[b]? = some (.cells #[.pointer kn,.int .i64 d] 71 (0,0))
theorem PlaceBox.c0 {w:World}{b:Nat}{kn:Option Addr}{d:Int}(h:PlaceBox w b kn d):w.cell? ⟨b,0,none⟩=some (.pointer kn):=by simp [World.cell?,PlaceBox] at *;simp [h]
theorem PlaceBox.c1 {w:World}{b:Nat}{kn:Option Addr}{d:Int}(h:PlaceBox w b kn d):w.cell? ⟨b,1,none⟩=some (.int .i64 d):=by simp [World.cell?,PlaceBox] at *;simp [h]
theorem PlaceBox.lt {w:World}{b:Nat}{kn:Option Addr}{d:Int}(h:PlaceBox w b kn d):b < w.heap.size:=lt_of_block h
theorem PlaceBox.same {w w':World}{b:Nat}{kn:Option Addr}{d:Int}(h:PlaceBox w b kn d) (e:w'.heap[b]? = w.heap[b]?):PlaceBox w' b kn d:=e.trans h
theorem SameOn.cell {F:Nat→Prop}{w w':World}(h:SameOn F w w') {b o:Nat}(hb:F b) {v:Value}(hv:w.cell? ⟨b,o,none⟩=some v):w'.cell? ⟨b,o,none⟩=some v:=(World.cell?_of_block (w:=w) (h b hb)).trans hv
theorem enters_open2:Enters Tryz.prog 49:=enters_of Tryz.func49 (by kernel_rfl) rfl
end Go.Proofs.Tryz
namespace Go.Proofs.Tryz
set_option maxHeartbeats 16000000
open Go.RowKit
set_option maxRecDepth 10000
theorem enters_op31:Enters Tryz.prog 182:=enters_of Tryz.func182 (by kernel_rfl) rfl
theorem Outs.shape {r:Res}{F D:Nat→Prop}{w:World}{f:Value}(h:Outs r F D w f):∃ K cap,f = .func (.func K) #[] cap:=by
 cases r <;> exact Str.shape h
theorem enters_op3:Enters Tryz.prog 181:=enters_of Tryz.func181 (by kernel_rfl) rfl
end Go.Proofs.Tryz
namespace Go.Proofs.Tryz
set_option maxHeartbeats 16000000
open Go.RowKit
set_option maxRecDepth 10000
def Plainly (op:ByteArray):Prop:=(op.toList == [124,61])=false∧(op.toList == [61])=false∧(op.toList == [111,114])=false∧(op.toList == [97,110,100])=false∧(op.toList == [124])=false∧(op.toList == [44])=false∧(op.toList == [47,47])=false
theorem plainly_plus:Plainly ⟨#[43]⟩:=by refine ⟨?_,?_,?_,?_,?_,?_,?_⟩ <;> simp [go_sem]
theorem plainly_eq:Plainly ⟨#[61,61]⟩:=by refine ⟨?_,?_,?_,?_,?_,?_,?_⟩ <;> simp [go_sem]
end Go.Proofs.Tryz
namespace Go.Proofs.Tryz
set_option maxHeartbeats 16000000
open Go.RowKit
set_option maxRecDepth 10000
theorem Outs.lt {r:Res}{F D:Nat→Prop}{w:World}{f:Value}(h:Outs r F D w f):∀ k,F k→k < w.heap.size:=by
 cases r <;> exact Str.lt h
theorem Outs.move {r:Res}{F D:Nat→Prop}{w w1:World}{f:Value}(h:Outs r F D w f) (hs:SameOn F w w1) (hl:w.heap.size≤w1.heap.size):Outs r F D w1 f:=by
 cases r <;> exact Str.move h hs hl
end Go.Proofs.Tryz
namespace Go.Proofs.Tryz
set_option maxHeartbeats 16000000
open Go.RowKit Go.Shelf
set_option maxRecDepth 100000
attribute [local go_sem] Oper.semAt_some
end Go.Proofs.Tryz
namespace Go.Proofs.Tryz
set_option maxHeartbeats 16000000
open Go.RowKit
set_option maxRecDepth 10000
def ErrIn (w:World) (g:Nat) (eb:Addr) (txt:ByteArray):Prop:=w.cell? ⟨g,0,none⟩=some (.iface 387 (.pointer (some eb)))∧w.cell? eb=some (.string txt)
abbrev numV (n:Int):Value:=.iface 98 (.int .i64 n)
theorem ErrIn.below {w w':World}{g:Nat}{eb:Addr}{txt:ByteArray}(h:ErrIn w g eb txt) (k:Below w.heap.size w w'):ErrIn w' g eb txt:=⟨(k.cell (lt_cell h.1)).trans h.1,(k.cell (lt_cell h.2)).trans h.2⟩
theorem belowN (w:World) (m:Nat):Below w.heap.size w (w.drewN m):=⟨rfl,rfl,rfl,Nat.le_refl _,fun _ _=>rfl⟩
end Go.Proofs.Tryz
namespace Go.Proofs.Tryz
set_option maxHeartbeats 16000000
open Go.RowKit
set_option maxRecDepth 10000
def sgn (a b:Int):Int:=if a < b then -1 else if b < a then 1 else 0
theorem cmp_ok (a b:Int) (w:World):Calls Tryz.prog 294 #[.int .i64 a,.int .i64 b] w fun e w'=>e = .returned (.int .i64 (sgn a b))∧Below w.heap.size w w':=by
 rcases Int.lt_trichotomy a b with h | h | h
 ·go_enter Tryz.func294,Tryz.ntmps294
  go_wp2
  go_ret
  exact ⟨by simp [sgn,h],Below.refl _ _⟩
 ·subst h
  go_enter Tryz.func294,Tryz.ntmps294
  go_wp2
  go_ret
  exact ⟨by simp [sgn],Below.refl _ _⟩
 ·have h':¬ a < b:=by omega
  go_enter Tryz.func294,Tryz.ntmps294
  go_wp2
  go_ret
  exact ⟨by simp [sgn,h,h'],Below.refl _ _⟩
theorem outside_ok (a b:Int) (w:World):Calls Tryz.prog 263 #[numV a,numV b] w fun e w'=>e = .returned (.int .i64 (sgn a b))∧Below w.heap.size w w':=by
 have m0:=missVNull;have m1:=hitVNumber;have m2:=missVString;have m3:=missVArray;have m4:=missVObject;have m5:=missVBool
 go_enter Tryz.func263,Tryz.ntmps263
 go_wp2_with (go_at_call 294;refine (cmp_ok a b _).mono ?_;rintro e w1 ⟨rfl,k1⟩)
 go_ret
 exact ⟨rfl,k1⟩
theorem parts_ok (a:Int) (w:World):Calls Tryz.prog 264 #[numV a] w fun e w'=>e = .returned (.slice none 0 0)∧Below w.heap.size w w':=by
 have m0:=missVNull;have m1:=hitVNumber;have m2:=missVString;have m3:=missVArray;have m4:=missVObject;have m5:=missVBool
 go_enter Tryz.func264,Tryz.ntmps264
 go_wp2
 go_ret
 exact ⟨rfl,Below.refl _ _⟩
theorem Compare_ok (a b:Int) (w:World):Calls Tryz.prog 223 #[numV a,numV b] w fun e w'=>e = .returned (.int .i64 (sgn a b))∧Below w.heap.size w w':=by
 by_cases h:sgn a b=0
 ·go_enter Tryz.func223,Tryz.ntmps223
  go_wp2_with fail
  go_step3
  go_wp2_with fail
  go_step3
  go_wp2_with fail
  refine wp_loop_rounds 1 ?_
  rw [rounds_succ]
  go_wp2_with (first
   | (go_at_call 263;refine (outside_ok a b _).mono ?_;rintro e w1 ⟨rfl,k1⟩;simp only [h])
   | (go_at_call 264;refine (parts_ok _ _).mono ?_;rintro e w2 ⟨rfl,k2⟩;first | (have k3:=k1.trans (k2.mono k1.size);clear k1) | (have k4:=k3.trans (k2.mono k3.size))))
  refine wp_loop_rounds 1 ?_
  rw [rounds_succ]
  go_wp2_with fail
  simp only [Exit.noGoto]
  exact bodyPost_ret (v:=.int .i64 0) (by simp [results,Tryz.results223,go_sem]) rfl ⟨by rw [h],k4⟩
 ·go_enter Tryz.func223,Tryz.ntmps223
  go_wp2_with fail
  go_step3
  go_wp2_with fail
  go_step3
  go_wp2_with fail
  refine wp_loop_rounds 1 ?_
  rw [rounds_succ]
  go_wp2_with (go_at_call 263;refine (outside_ok a b _).mono ?_;rintro e w1 ⟨rfl,k1⟩)
  simp only [Exit.noGoto]
  exact bodyPost_ret (v:=.int .i64 (sgn a b)) (by simp [results,Tryz.results223,go_sem]) rfl ⟨rfl,k1⟩
theorem compares_eq (c:Int) (w:World):Calls Tryz.prog 231 #[.int .i64 c,.string ⟨#[61,61]⟩] w fun e w'=>e = .returned (.bool (decide (c=0)))∧Below w.heap.size w w':=by
 go_enter Tryz.func231,Tryz.ntmps231
 go_wp2
 go_ret
 exact ⟨by simp;try rfl,Below.refl _ _⟩
end Go.Proofs.Tryz
namespace Go.Proofs.Tryz
set_option maxHeartbeats 16000000
open Go.RowKit
set_option maxRecDepth 10000
structure Wr (w:World) (B W:Nat) (out:List UInt8) (pv:Value):Prop where
 lt:W < B
 le:B≤w.heap.size
 has:∃ ov,w.heap[W]? = some (.cells #[ov,pv] 53 (0,0))∧w.ownsRow B 5 1 ov out.length (Lib.byteCells out)
theorem two_c0 {w:World}{b:Nat}{x y:Value}{t:TypeId}(h:w.heap[b]? = some (.cells #[x,y] t (0,0))):w.cell? ⟨b,0,none⟩=some x∧w.cell? ⟨b,1,none⟩=some y∧w.frozen? ⟨b,0,none⟩=false∧w.frozen? ⟨b,1,none⟩=false∧b < w.heap.size:=by
 refine ⟨?_,?_,?_,?_,lt_of_block h⟩ <;> simp [World.cell?,World.frozen?,h]
def Wrote (B W:Nat) (w w':World):Prop:=Fr (fun k=>k=W∨B≤k) w w'
theorem owns_shape {w:World}{B e n:Nat}{v:Value}{xs:List Value}(h:w.ownsRow B e 1 v n xs):∃ a l c,v = .slice a l c:=by
 rcases h.2 with ⟨rfl,_⟩ | ⟨g,cap,cur,rfl,_⟩
 ·exact ⟨_,_,_,rfl⟩
 ·exact ⟨_,_,_,rfl⟩
theorem owns_off {w:World}{B e n W o:Nat}{v u:Value}{xs:List Value}(h:w.ownsRow B e 1 v n xs) (hW:W < B):(w.setCell ⟨W,o,none⟩ u).ownsRow B e 1 v n xs :=
 ownsRow_setCell_other h (by
  rcases h.2 with ⟨rfl,_⟩ | ⟨g,cap,cur,rfl,hg,_⟩
  ·simp [Value.ownBlock]
  ·simp [Value.ownBlock];omega) u
theorem byteCells_append (a b:List UInt8):Lib.byteCells (a ++ b)=Lib.byteCells a ++ Lib.byteCells b:=by simp [Lib.byteCells]
theorem Wr.wrote {w w1:World}{B W:Nat}{out more:List UInt8}{pv ov v':Value}(hlt:W < B) (hle:B≤w.heap.size) (hb:w.heap[W]? = some (.cells #[ov,pv] 53 (0,0))) (k1:Below B w w1) (hown1:w1.ownsRow B 5 1 v' (out.length+more.length) (Lib.byteCells out ++ Lib.byteCells more)) :
  Wr (w1.setCell ⟨W,0,none⟩ v') B W (out ++ more) pv∧Wrote B W w (w1.setCell ⟨W,0,none⟩ v'):=by
 have hb1:w1.heap[W]? = some (.cells #[ov,pv] 53 (0,0)):=(k1.block W hlt).trans hb
 refine ⟨⟨hlt,by simpa using Nat.le_trans hle k1.size,v',two_set0 hb1,?_⟩,?_⟩
 ·have:=owns_off (o:=0) (u:=v') hown1 hlt
  rw [List.length_append,byteCells_append]
  exact this
 ·exact Fr.setCell ⟨k1.os,k1.tape,k1.output,k1.size,fun k hk hd=>k1.block k (by omega)⟩ _ (.inl (.inl rfl))
theorem owns_bytes {w:World}{B:Nat}{v:Value}{l:List UInt8}(h:w.ownsRow B 5 1 v l.length (Lib.byteCells l)) (hl:l≠[]):∃ g c,v = .slice (some ⟨g,0,none⟩) l.length c∧∀ j (hj:j < l.length),w.cell? ((⟨g,0,none⟩:Addr).add j)=some (.int .u8 (l[j].toNat:Int)):=by
 rcases h.2 with ⟨rfl,h0⟩ | ⟨g,cap,cur,rfl,hg,hb,hn,hm,hs,ht⟩
 ·exact absurd (List.length_eq_zero_iff.1 h0) hl
 ·refine ⟨g,cap,rfl,?_⟩
  intro j hj
  have e:cur[j]? = some (.int .u8 (l[j].toNat:Int)):=by
   have:(cur.toList.take (l.length * 1))[j]? = (Lib.byteCells l)[j]?:=by rw [ht]
   rw [List.getElem?_take_of_lt (by omega)] at this
   simp [Lib.byteCells,hj] at this
   rw [this]
  by_cases hj0:j=0
  ·subst hj0
   simp [World.cell?,Addr.add,hb,e]
  ·simp [World.cell?,Addr.add,hj0,hb,e]
theorem tab_up {B B':Nat}{w w1:World}{name:String}{k:IntKind}{zs:List Int}(h:Lib.TabBelow Tryz.prog B w name k zs) (hb:Below B w w1) (hB:B≤B'):Lib.TabBelow Tryz.prog B' w1 name k zs:=fun w' h'=>h w' (hb.trans (h'.mono hB))
theorem Wrote.below {w w1:World}{o:Obj}(h:Wrote (w.heap.size+1) w.heap.size (w.alloc o) w1):Below w.heap.size w w1 :=
 ⟨h.os,h.tape,h.output,by have:=h.size;simp at this;omega,fun k hk=>(h.block k (by simp;omega) (by omega)).trans ((below_alloc w o).block k hk)⟩
end Go.Proofs.Tryz
