import Derived.Test.YtbhajhlhgbnhbaaGreatDoorStep7
import Derived.Test.YtbhajhlhgbnhbaaGreatDoorNames2
import Derived.RegionDies
import Derived.RangeFuncNested
import Derived.RangeFuncBound
import Derived.RangeFuncCalls
import Derived.RangeFuncLeaves
import Derived.Shelf.RegionOpen
import Derived.OwnWalkIn
import Derived.TacticsInMore
import Derived.LoopNIn
import Derived.LoopIn
import Derived.Sort.LoopGhostIn
import Derived.Sort.QuietIn
import Derived.Lib.AppendIntMem
import Derived.Laws.IdiomStrings
import Derived.Deep.AppendLies
set_option linter.all false
namespace Go.Proofs.Tryz
set_option maxHeartbeats 16000000
open Go.RowKit
set_option maxRecDepth 10000
theorem two_set0 {w:World}{b:Nat}{x y u:Value}{t:TypeId} (h:w.heap[b]? = some (.cells #[x,y] t (0,0))):(w.setCell ⟨b,0,none⟩ u).heap[b]? = some (.cells #[u,y] t (0,0)):=by
 have hlt:=lt_of_block h
 have h':w.heap[b] = .cells #[x,y] t (0,0):=by simpa [Array.getElem?_eq_getElem hlt] using h
 show (w.heap.modify b _)[b]? = _
 rw [Array.getElem?_eq_getElem (by simpa using hlt),Array.getElem_modify_self,h']
 rfl
theorem two_set1 {w:World}{b:Nat}{x y u:Value}{t:TypeId} (h:w.heap[b]? = some (.cells #[x,y] t (0,0))):(w.setCell ⟨b,1,none⟩ u).heap[b]? = some (.cells #[x,u] t (0,0)):=by
 have hlt:=lt_of_block h
 have h':w.heap[b] = .cells #[x,y] t (0,0):=by simpa [Array.getElem?_eq_getElem hlt] using h
 show (w.heap.modify b _)[b]? = _
 rw [Array.getElem?_eq_getElem (by simpa using hlt),Array.getElem_modify_self,h']
 rfl
theorem SpotBox.set {w:World}{b:Nat}{v:Value} (h:SpotBox w b v) (u:Value):SpotBox ((w.setCell ⟨b,0,none⟩ u).setCell ⟨b,1,none⟩ (.pointer none)) b u:=two_set1 (two_set0 h)
theorem catch_idle (p:Nat) (w:World) :
  CallsD Tryz.prog 67 #[.pointer (some ⟨p,0,none⟩)] .returning w fun e u' w'=>e = .returned (.tuple #[])∧u' = .returning∧w'=w:=by
 refine callsD_of_wpS Tryz.func67 rfl fun c₀ cs hu=>?_
 apply wpS_seq
 apply wpS_region
 simp [wpOpsS,go_sem,recoverD,hu,Tryz.ntmps67,Exit.thenS]
 refine wpS_of_wp ?_
 have e:(#[.pointer (some ⟨p,0,none⟩)] ++ (Array.replicate 10 undef).setIfInBounds 3 .nilIface:Array Value) = #[.pointer (some ⟨p,0,none⟩),undef,undef,undef,.nilIface,undef,undef,undef,undef,undef,undef]:=by simp [Array.replicate]
 rw [e]
 go_wp2
 cases c₀
 simp_all [bodyPostS,results,Tryz.results67]
theorem pull_done {w:World}{f:Value}{F D:Nat→Prop} (hS:Str [] .none F D w f) :
  Calls Tryz.prog 24 #[f] w fun e w'=>Fr D w w'∧e = .returned (.tuple #[.agg #[.nilIface,.pointer none],.bool false,.pointer none]):=by
 have hmf:∀ (fn:Fn) (first cap:Array Value) (w:World),(Instr.makeFunc fn first cap).run Tryz.prog w = .ok (.func fn first cap) w:=fun _ _ _ _=>rfl
 obtain ⟨K,cap,rfl,hE,hF,hD,h⟩:=hS
 have hE':∀ (args:Array Value) (w:World),(callFunc K args).run Tryz.prog w = .ok (.enter K args) w:=hE
 simp only [Ends1] at h
 have n1:¬ D w.heap.size:=new_not hF hD
 have n2:¬ D (w.heap.size+1):=fun e=>by have:=hF _ (hD _ e);omega
 go_enter_defers Tryz.func24,Tryz.ntmps24
 go_wp2_with (go_at_fn K;refine (h _ (fun k hk=>(below_alloc2 w _ _).block k (hF k hk)) (by simp;omega)).mono ?_;rintro e w1 ⟨k1,rfl⟩;have q:SpotBox w1 w.heap.size .nilIface:=((SpotBox.new w .nilIface).alloc _).same (k1.block _ (by simp;omega) n1);obtain ⟨q0,q1,q2,q3,q4⟩:=q.facts;have c:Box w1 (w.heap.size+1) (.pointer none) 80:=Box.same (heap_new2' w _ _) (k1.block _ (by simp) n2);have c0:=c.cell;have c1:=c.free;have c2:=c.lt)
 refine leaves_cons (f:=67) (args:=#[.pointer (some ⟨w.heap.size+1,0,none⟩)]) (by simp) (by simp [go_sem]) ?_
 refine (catch_idle (w.heap.size+1) _).mono ?_
 rintro e u' w'' ⟨rfl,rfl,rfl⟩
 have hend:Fr (fun k=>k=w.heap.size∨k=w.heap.size+1) w1 (((((w1.setCell ⟨w.heap.size,0,none⟩ .nilIface).setCell ⟨w.heap.size,1,none⟩ (.pointer none)).setCell ⟨w.heap.size,0,none⟩ .nilIface).setCell ⟨w.heap.size,1,none⟩ (.pointer none)).setCell ⟨w.heap.size+1,0,none⟩ (.pointer none)):=(((((Fr.refl (fun k=>k=w.heap.size∨k=w.heap.size+1) w1).setCell _ (.inl (.inl rfl))).setCell _ (.inl (.inl rfl))).setCell _ (.inl (.inl rfl))).setCell _ (.inl (.inl rfl))).setCell _ (.inl (.inr rfl))
 have qF:=((q.set .nilIface).set .nilIface).same (Below.heap_setCell _ ⟨w.heap.size+1,0,none⟩ (.pointer none) _ (by simp))
 have cF:=((((c.same (Below.heap_setCell _ ⟨w.heap.size,0,none⟩ .nilIface _ (by simp))).same (Below.heap_setCell _ ⟨w.heap.size,1,none⟩ (.pointer none) _ (by simp))).same (Below.heap_setCell _ ⟨w.heap.size,0,none⟩ .nilIface _ (by simp))).same (Below.heap_setCell _ ⟨w.heap.size,1,none⟩ (.pointer none) _ (by simp))).set (.pointer none)
 obtain ⟨r0,r1,_,_,r4⟩:=qF.facts
 have r5:=cF.cell
 have hR:Fr D w w1:=(((Fr.refl D w).alloc _).alloc _).trans k1 (fun _ _ e=>e)
 exact ⟨.tuple #[.agg #[.nilIface,.pointer none],.bool false,.pointer none],by simp [results,Tryz.results24,go_sem,r0,r1,r5],hR.trans hend (fun i hi e=>by omega),rfl⟩
theorem plain_ok {w:World}{T:Nat}{u:Value}:Calls Tryz.prog 50 #[.agg #[.iface T u,.pointer none]] w fun e w'=>e = .returned (.agg #[.iface T u,.pointer none])∧Below w.heap.size w w':=by
 go_enter Tryz.func50,Tryz.ntmps50
 go_wp2
 exact bodyPost_ret (v:=.agg #[.iface T u,.pointer none]) (by simp [results,Tryz.results50,go_sem]) rfl ⟨rfl,below_alloc2 w _ _⟩
theorem pathless_ok {w:World}{T K:Nat}{u:Value}{cap:Array Value}:Calls Tryz.prog 65 #[.agg #[.iface T u,.pointer none],.func (.func K) #[] cap] w fun e w'=>e = .returned (.func (.func K) #[] cap)∧Below w.heap.size w w':=by
 go_enter Tryz.func65,Tryz.ntmps65
 go_wp2
 go_ret
 exact ⟨rfl,below_alloc2 w _ _⟩
theorem four {w w1:World}{kn:Option Addr}{d:Int}{T:Nat}{u:Value} (k:Below (w.heap.size+2) ((w.alloc (.cells #[.pointer kn,.int .i64 d] 71)).alloc (.cells #[.iface T u,.pointer none] 75)) w1):w1.cell? ⟨w.heap.size,0,none⟩=some (.pointer kn)∧w1.cell? ⟨w.heap.size,1,none⟩=some (.int .i64 d)∧w1.cell? ⟨w.heap.size+1,0,none⟩=some (.iface T u)∧w1.cell? ⟨w.heap.size+1,1,none⟩=some (.pointer none):=by
 have h0:=k.cell (p:=⟨w.heap.size,0,none⟩) (by simp)
 have h1:=k.cell (p:=⟨w.heap.size,1,none⟩) (by simp)
 have h2:=k.cell (p:=⟨w.heap.size+1,0,none⟩) (by simp)
 have h3:=k.cell (p:=⟨w.heap.size+1,1,none⟩) (by simp)
 simp at h0 h1 h2 h3
 exact ⟨h0,h1,h2,h3⟩
theorem sure_none {w:World}{T:Nat}{u:Value}:Calls Tryz.prog 94 #[.iface T u,.nilIface] w fun e w'=>e = .returned (.iface T u)∧w'=w:=by
 go_enter Tryz.func94,Tryz.ntmps94
 go_wp2
 go_ret
 exact ⟨rfl,rfl⟩
theorem grown_none {w:World}{T:Nat}{u:Value}:Calls Tryz.prog 96 #[.pointer none,.iface T u] w fun e w'=>e = .returned (.pointer none)∧w'=w:=by
 go_enter Tryz.func96,Tryz.ntmps96
 go_wp2
 go_ret
 exact ⟨rfl,rfl⟩
theorem lt_cell {w:World}{a:Addr}{v:Value} (h:w.cell? a=some v):a.block < w.heap.size:=by
 unfold World.cell? at h
 by_cases hb:a.block < w.heap.size
 ·exact hb
 ·simp [Array.getElem?_eq_none (by omega:w.heap.size≤a.block)] at h
theorem six {w w1:World} (k:Below w.heap.size w w1) {a b c d e f:Addr}{va vb vc vd ve vf:Value} (ha:w.cell? a=some va) (hb:w.cell? b=some vb) (hc:w.cell? c=some vc) (hd:w.cell? d=some vd) (he:w.cell? e=some ve) (hf:w.cell? f=some vf) :
  w1.cell? a=some va∧w1.cell? b=some vb∧w1.cell? c=some vc∧w1.cell? d=some vd∧w1.cell? e=some ve∧w1.cell? f=some vf :=
 ⟨(k.cell (lt_cell ha)).trans ha,(k.cell (lt_cell hb)).trans hb,(k.cell (lt_cell hc)).trans hc,(k.cell (lt_cell hd)).trans hd,(k.cell (lt_cell he)).trans he,(k.cell (lt_cell hf)).trans hf⟩
def AtIs (B:Nat) (w0:World) (x i y:IV):Prop:=∀ w,SameOn (· < B) w0 w→B≤w.heap.size→Calls Tryz.prog 95 #[iv x,iv i] w fun e w'=>e = .returned (.tuple #[iv y,.nilIface])∧Below w.heap.size w w'
theorem at_ok {B:Nat}{w0 w:World}{x i y:IV} (h:AtIs B w0 x i y) (hs:SameOn (· < B) w0 w) (hB:B≤w.heap.size) :
  Calls Tryz.prog 47 #[.agg #[iv x,.pointer none],iv i] w fun e w'=>e = .returned (.agg #[iv y,.pointer none])∧Below w.heap.size w w':=by
 obtain ⟨T,u⟩:=x
 obtain ⟨T1,u1⟩:=i
 obtain ⟨T2,u2⟩:=y
 simp only [iv,AtIs] at h ⊢
 go_enter Tryz.func47,Tryz.ntmps47
 go_wp2_with fail
 go_region_held3 (fun w'=>w'.cell? ⟨w.heap.size,0,none⟩=some (.iface T u)∧w'.cell? ⟨w.heap.size,1,none⟩=some (.pointer none)) (first | exact e4 | go_keep)
   (first
    | (go_at_call 95;refine (h _ (hs.trans (fun k hk=>(below_alloc2 w _ _).drew.block k (by have:k < B:=hk;omega))) (by simp;omega)).mono ?_;rintro e w1 ⟨rfl,k1⟩;have kA:Below (w.heap.size+2) ((w.alloc (.cells #[.iface T u,.pointer none] 75)).alloc (.cells #[.nilIface,.pointer none] 75)) w1:=(Below.refl _ _).drew.trans (k1.mono (by simp));have q0:=kA.cell (p:=⟨w.heap.size,0,none⟩) (by simp);have q1:=kA.cell (p:=⟨w.heap.size,1,none⟩) (by simp);simp at q0 q1;have e4:=And.intro q0 q1;have q:SpotBox w1 (w.heap.size+1) .nilIface:=SpotBox.same (heap_new2' w _ _) (kA.block _ (by omega));obtain ⟨r0,r1,r2,r3,r4⟩:=q.facts)
    | (go_at_call 94;refine sure_none.mono ?_;rintro e w2 ⟨rfl,rfl⟩)
    | (go_at_call 96;refine grown_none.mono ?_;rintro e w3 ⟨rfl,rfl⟩))
 go_wp2_with fail
 exact bodyPost_ret (v:=.agg #[.iface T2 u2,.pointer none]) (by simp [results,Tryz.results47,go_sem,r4,r0,r1]) rfl ⟨rfl,(((below_alloc2 w _ _).trans (kA.mono (by omega))).setCell (by simp) _).setCell (by simp) _⟩
theorem enters_open21:Enters Tryz.prog 51:=enters_of Tryz.func51 (by kernel_rfl) rfl
def PlaceBox (w:World) (b:Nat) (kn:Option Addr) (d:Int):Prop:=w.heap[b]? = some (.cells #[.pointer kn,.int .i64 d] 71 (0,0))
theorem PlaceBox.c0 {w:World}{b:Nat}{kn:Option Addr}{d:Int} (h:PlaceBox w b kn d):w.cell? ⟨b,0,none⟩=some (.pointer kn):=by simp [World.cell?,PlaceBox] at *;simp [h]
theorem PlaceBox.c1 {w:World}{b:Nat}{kn:Option Addr}{d:Int} (h:PlaceBox w b kn d):w.cell? ⟨b,1,none⟩=some (.int .i64 d):=by simp [World.cell?,PlaceBox] at *;simp [h]
theorem PlaceBox.lt {w:World}{b:Nat}{kn:Option Addr}{d:Int} (h:PlaceBox w b kn d):b < w.heap.size:=lt_of_block h
theorem PlaceBox.same {w w':World}{b:Nat}{kn:Option Addr}{d:Int} (h:PlaceBox w b kn d) (e:w'.heap[b]? = w.heap[b]?):PlaceBox w' b kn d:=e.trans h
theorem SameOn.cell {F:Nat→Prop}{w w':World} (h:SameOn F w w') {b o:Nat} (hb:F b) {v:Value} (hv:w.cell? ⟨b,o,none⟩=some v):w'.cell? ⟨b,o,none⟩=some v:=(World.cell?_of_block (w:=w) (h b hb)).trans hv
theorem enters_open2:Enters Tryz.prog 49:=enters_of Tryz.func49 (by kernel_rfl) rfl
def OperIs (B:Nat) (w0:World) (x:IV) (op:ByteArray) (y:IV) (r:Res):Prop:=∀ w,SameOn (· < B) w0 w→B≤w.heap.size→Calls Tryz.prog 183 #[iv x,.string op,iv y] w fun e w'=>Below w.heap.size w w'∧r.Is' w.heap.size e w'
theorem enters_op31:Enters Tryz.prog 182:=enters_of Tryz.func182 (by kernel_rfl) rfl
theorem enters_op3:Enters Tryz.prog 181:=enters_of Tryz.func181 (by kernel_rfl) rfl
def CanonAt (w:World) (y:IV) (out:ByteArray):Prop:=∀ w',Below w.heap.size w w'→Calls Tryz.prog 8 #[iv y] w' fun e w''=>e = .returned (.string out)∧Below w'.heap.size w' w''
theorem two_facts {w:World}{b:Nat}{x y:Value}{t:TypeId} (h:w.heap[b]? = some (.cells #[x,y] t (0,0))):w.cell? ⟨b,0,none⟩=some x∧w.cell? ⟨b,1,none⟩=some y∧w.frozen? ⟨b,0,none⟩=false∧w.frozen? ⟨b,1,none⟩=false∧b < w.heap.size:=by
 refine ⟨?_,?_,?_,?_,lt_of_block h⟩ <;> simp [World.cell?,World.frozen?,h]
def ansV (s:Int) (t:ByteArray):Value:=.agg #[.int .u8 s,.string t]
theorem answer_some {w:World}{y:IV}{out:ByteArray} (h:CanonAt w y out) :
  Calls Tryz.prog 23 #[.agg #[iv y,.pointer none],.bool true,.pointer none] w fun e w'=>e = .returned (ansV 1 out)∧Below w.heap.size w w':=by
 obtain ⟨T,u⟩:=y
 simp only [CanonAt,iv] at h ⊢
 go_enter Tryz.func23,Tryz.ntmps23
 go_wp2_with (go_at_call 8;refine (h _ (below_alloc2 w _ _)).mono ?_;rintro e w1 ⟨rfl,k1⟩;obtain ⟨q0,q1,q2,q3,q4⟩:=two_facts ((k1.block (w.heap.size+1) (by simp)).trans (heap_new2' w _ _)))
 exact bodyPost_ret (v:=ansV 1 out) (by simp [results,Tryz.results23,go_sem,q4,q0,q1,ansV]) rfl ⟨rfl,(((below_alloc2 w _ _).trans (k1.mono (by simp;omega))).setCell (by simp) _).setCell (by simp) _⟩
theorem answer_done {w:World} :
  Calls Tryz.prog 23 #[.agg #[.nilIface,.pointer none],.bool false,.pointer none] w fun e w'=>e = .returned (ansV 0 ⟨#[]⟩)∧Below w.heap.size w w':=by
 go_enter Tryz.func23,Tryz.ntmps23
 go_wp2
 exact bodyPost_ret (v:=ansV 0 ⟨#[]⟩) (by simp [results,Tryz.results23,go_sem,ansV]) rfl ⟨rfl,below_alloc2 w _ _⟩
def StreamBox (w:World) (b:Nat) (f:Value):Prop:=w.heap[b]? = some (.cells #[f,.int .u8 0,.string ⟨#[]⟩] 78 (0,0))
theorem three_facts {w:World}{b:Nat}{x y z:Value}{t:TypeId} (h:w.heap[b]? = some (.cells #[x,y,z] t (0,0))):w.cell? ⟨b,0,none⟩=some x∧w.cell? ⟨b,1,none⟩=some y∧w.cell? ⟨b,2,none⟩=some z∧w.frozen? ⟨b,0,none⟩=false∧w.frozen? ⟨b,1,none⟩=false∧w.frozen? ⟨b,2,none⟩=false∧b < w.heap.size:=by
 refine ⟨?_,?_,?_,?_,?_,?_,lt_of_block h⟩ <;> simp [World.cell?,World.frozen?,h]
theorem StreamBox.same {w w':World}{b:Nat}{f:Value} (h:StreamBox w b f) (e:w'.heap[b]? = w.heap[b]?):StreamBox w' b f:=e.trans h
theorem fn_nil (K:Nat) (cap:Array Value) (w:World):Sem.run Tryz.prog (binOp BinOp.eql 66 (.func (.func K) #[] cap) .nilFunc) w = .ok (.bool false) w:=by kernel_rfl
theorem next_done {w:World}{sb:Nat}{f:Value}{F D:Nat→Prop} (hb:StreamBox w sb f) (hS:Str [] .none F D w f) (hsD:¬ D sb) :
  Calls Tryz.prog 11 #[.pointer (some ⟨sb,0,none⟩)] w fun e w'=>Fr (fun k=>D k∨k=sb) w w'∧e = .returned (ansV 0 ⟨#[]⟩):=by
 obtain ⟨K,cap,rfl⟩:=hS.shape
 have hfn:=fn_nil
 obtain ⟨c0,c1,c2,f0,f1,f2,hl⟩:=three_facts hb
 have hS2:=fun o=>hS.move (w1:=w.alloc o) (fun k hk=>(below_alloc w o).block k (hS.lt k hk)) (by simp)
 have n1:¬ D w.heap.size:=new_not hS.lt hS.sub
 go_enter Tryz.func11,Tryz.ntmps11
 go_wp2_with (first
  | (go_at_call 24;refine (pull_done (hS2 _)).mono ?_;rintro e w1 ⟨k1,rfl⟩;have kw:Fr D w w1:=((Fr.refl D w).alloc _).trans k1 (fun _ _ e=>e))
  | (go_at_call 23;refine answer_done.mono ?_;rintro e w2 ⟨rfl,k2⟩;simp only [ansV];have kv:Fr D w w2:=kw.trans (Fr.of_below (D:=D) k2) (fun _ _ e=>e);have q:w2.heap[w.heap.size]? = _:=(k2.block w.heap.size (by have:=k1.size;simp at this;omega)).trans ((k1.block w.heap.size (by simp) n1).trans (heap_new w _));obtain ⟨q0,q1,q2,q3,q4⟩:=two_facts q;obtain ⟨d0,d1,d2,g0,g1,g2,hl2⟩:=three_facts (hb.same (kv.block _ hl hsD))))
 have ns1:¬ sb=w2.heap.size:=by omega
 have ns2:¬ w2.heap.size=sb:=by omega
 go_region
 all_goals
  go_wp2
  exact bodyPost_ret (v:=ansV 0 ⟨#[]⟩) (by simp [results,Tryz.results11,go_sem,q4,q0,q1,ansV,show ¬ w.heap.size=sb by omega,show ¬ sb=w.heap.size by omega]) rfl ⟨(((((((kv.mono (E:=fun k=>D k∨k=sb) (fun _=>.inl)).setCell _ (.inl (.inr rfl))).setCell _ (.inl (.inr rfl))).setCell _ (.inl (.inr rfl))).setCell _ (.inr (Nat.le_refl _))).setCell _ (.inr (Nat.le_refl _))).alloc _).drewN 1,rfl⟩
def Plainly (op:ByteArray):Prop:=(op.toList == [124,61])=false∧(op.toList == [61])=false∧(op.toList == [111,114])=false∧(op.toList == [97,110,100])=false∧(op.toList == [124])=false∧(op.toList == [44])=false∧(op.toList == [47,47])=false
theorem plainly_plus:Plainly ⟨#[43]⟩:=by refine ⟨?_,?_,?_,?_,?_,?_,?_⟩ <;> simp [go_sem]
theorem plainly_minus:Plainly ⟨#[45]⟩:=by refine ⟨?_,?_,?_,?_,?_,?_,?_⟩ <;> simp [go_sem]
theorem plainly_eq:Plainly ⟨#[61,61]⟩:=by refine ⟨?_,?_,?_,?_,?_,?_,?_⟩ <;> simp [go_sem]
theorem plainly_le:Plainly ⟨#[60,61]⟩:=by refine ⟨?_,?_,?_,?_,?_,?_,?_⟩ <;> simp [go_sem]
end Go.Proofs.Tryz
namespace Go.Proofs.Tryz
set_option maxHeartbeats 16000000
open Go.RowKit Go.Shelf
set_option maxRecDepth 100000
attribute [local go_sem] Oper.semAt_some
end Go.Proofs.Tryz
namespace Go.Proofs.Tryz
set_option maxHeartbeats 16000000
open Go.RowKit
set_option maxRecDepth 10000
abbrev numV (n:Int):Value:=.iface 98 (.int .i64 n)
theorem addNumbers_fits (a b:Int) (w:World) (h:decide (wrap64 (a+b) < a)=decide (b < 0)) :
  Calls Tryz.prog 266 #[.int .i64 a,.int .i64 b] w fun e w'=>e = .returned (.tuple #[numV (wrap64 (a+b)),.nilIface])∧Below w.heap.size w w':=by
 go_enter Tryz.func266,Tryz.ntmps266
 go_wp2
 go_ret2
 exact ⟨rfl,Below.refl _ _⟩
theorem Add_fits (a b:Int) (w:World) (h:decide (wrap64 (a+b) < a)=decide (b < 0)) :
  Calls Tryz.prog 227 #[numV a,numV b] w fun e w'=>e = .returned (.tuple #[numV (wrap64 (a+b)),.nilIface])∧Below w.heap.size w w':=by
 have m0:=missVNull;have m1:=hitVNumber;have m2:=missVString;have m3:=missVArray;have m4:=missVObject;have m5:=missVBool
 go_enter Tryz.func227,Tryz.ntmps227
 go_wp2_with (go_at_call 266;refine (addNumbers_fits a b _ h).mono ?_;rintro e w1 ⟨rfl,k1⟩)
 go_ret2
 exact ⟨rfl,(below_alloc _ _).trans (k1.mono (by simp))⟩
theorem subtractNumbers_fits (a b:Int) (w:World) (h:decide (a < wrap64 (a - b))=decide (b < 0)) :
  Calls Tryz.prog 174 #[.int .i64 a,.int .i64 b] w fun e w'=>e = .returned (.tuple #[numV (wrap64 (a - b)),.nilIface])∧Below w.heap.size w w':=by
 go_enter Tryz.func174,Tryz.ntmps174
 go_wp2
 go_ret2
 exact ⟨rfl,Below.refl _ _⟩
theorem Subtract_fits (a b:Int) (w:World) (h:decide (a < wrap64 (a - b))=decide (b < 0)) :
  Calls Tryz.prog 128 #[numV a,numV b] w fun e w'=>e = .returned (.tuple #[numV (wrap64 (a - b)),.nilIface])∧Below w.heap.size w w':=by
 have m0:=missVNull;have m1:=hitVNumber;have m2:=missVString;have m3:=missVArray;have m4:=missVObject;have m5:=missVBool
 go_enter Tryz.func128,Tryz.ntmps128
 go_wp2_with (go_at_call 174;refine (subtractNumbers_fits a b _ h).mono ?_;rintro e w1 ⟨rfl,k1⟩)
 go_ret2
 exact ⟨rfl,k1⟩
theorem compares_eq (c:Int) (w:World):Calls Tryz.prog 231 #[.int .i64 c,.string ⟨#[61,61]⟩] w fun e w'=>e = .returned (.bool (decide (c=0)))∧Below w.heap.size w w':=by
 go_enter Tryz.func231,Tryz.ntmps231
 go_wp2
 go_ret
 exact ⟨by simp;try rfl,Below.refl _ _⟩
theorem compares_le (c:Int) (w:World):Calls Tryz.prog 231 #[.int .i64 c,.string ⟨#[60,61]⟩] w fun e w'=>e = .returned (.bool (decide (c≤0)))∧Below w.heap.size w w':=by
 go_enter Tryz.func231,Tryz.ntmps231
 go_wp2
 go_ret
 exact ⟨by simp;try rfl,Below.refl _ _⟩
theorem operate_plus_fits {B:Nat}{w0:World} (a b:Int) (h:decide (wrap64 (a+b) < a)=decide (b < 0)):OperIs B w0 (98,.int .i64 a) ⟨#[43]⟩ (98,.int .i64 b) (.ok (98,.int .i64 (wrap64 (a+b)))):=by
 intro w hs hB
 simp only [iv,Res.Is']
 go_enter Tryz.func183,Tryz.ntmps183
 go_wp2_with (first
  | (go_at_call 227;refine (Add_fits a b _ h).mono ?_;rintro e w1 ⟨rfl,k1⟩)
  | (go_at_call 94;refine sure_none.mono ?_;rintro e w2 ⟨rfl,rfl⟩))
 go_ret
 exact ⟨k1,rfl⟩
theorem operate_minus_fits {B:Nat}{w0:World} (a b:Int) (h:decide (a < wrap64 (a - b))=decide (b < 0)):OperIs B w0 (98,.int .i64 a) ⟨#[45]⟩ (98,.int .i64 b) (.ok (98,.int .i64 (wrap64 (a - b)))):=by
 intro w hs hB
 simp only [iv,Res.Is']
 go_enter Tryz.func183,Tryz.ntmps183
 go_wp2_with (first
  | (go_at_call 128;refine (Subtract_fits a b _ h).mono ?_;rintro e w1 ⟨rfl,k1⟩)
  | (go_at_call 94;refine sure_none.mono ?_;rintro e w2 ⟨rfl,rfl⟩))
 go_ret
 exact ⟨k1,rfl⟩
theorem two_c0 {w:World}{b:Nat}{x y:Value}{t:TypeId} (h:w.heap[b]? = some (.cells #[x,y] t (0,0))):w.cell? ⟨b,0,none⟩=some x∧w.cell? ⟨b,1,none⟩=some y∧w.frozen? ⟨b,0,none⟩=false∧w.frozen? ⟨b,1,none⟩=false∧b < w.heap.size:=by
 refine ⟨?_,?_,?_,?_,lt_of_block h⟩ <;> simp [World.cell?,World.frozen?,h]
theorem owns_shape {w:World}{B e n:Nat}{v:Value}{xs:List Value} (h:w.ownsRow B e 1 v n xs):∃ a l c,v = .slice a l c:=by
 rcases h.2 with ⟨rfl,_⟩ | ⟨g,cap,cur,rfl,_⟩
 ·exact ⟨_,_,_,rfl⟩
 ·exact ⟨_,_,_,rfl⟩
theorem owns_off {w:World}{B e n W o:Nat}{v u:Value}{xs:List Value} (h:w.ownsRow B e 1 v n xs) (hW:W < B):(w.setCell ⟨W,o,none⟩ u).ownsRow B e 1 v n xs :=
 ownsRow_setCell_other h (by
  rcases h.2 with ⟨rfl,_⟩ | ⟨g,cap,cur,rfl,hg,_⟩
  ·simp [Value.ownBlock]
  ·simp [Value.ownBlock];omega) u
theorem byteCells_append (a b:List UInt8):Lib.byteCells (a ++ b)=Lib.byteCells a ++ Lib.byteCells b:=by simp [Lib.byteCells]
theorem owns_bytes {w:World}{B:Nat}{v:Value}{l:List UInt8} (h:w.ownsRow B 5 1 v l.length (Lib.byteCells l)) (hl:l≠[]):∃ g c,v = .slice (some ⟨g,0,none⟩) l.length c∧∀ j (hj:j < l.length),w.cell? ((⟨g,0,none⟩:Addr).add j)=some (.int .u8 (l[j].toNat:Int)):=by
 rcases h.2 with ⟨rfl,h0⟩ | ⟨g,cap,cur,rfl,hg,hb,hn,hm,hs,ht⟩
 ·exact absurd (List.length_eq_zero_iff.1 h0) hl
 ·refine ⟨g,cap,rfl,?_⟩
  intro j hj
  have e:cur[j]? = some (.int .u8 (l[j].toNat:Int)):=by
   have:(cur.toList.take (l.length * 1))[j]? = (Lib.byteCells l)[j]?:=by rw [ht]
   rw [List.getElem?_take_of_lt (by omega)] at this
   simp [Lib.byteCells,hj] at this
   rw [this]
  by_cases hj0:j=0
  ·subst hj0
   simp [World.cell?,Addr.add,hb,e]
  ·simp [World.cell?,Addr.add,hj0,hb,e]
theorem tab_up {B B':Nat}{w w1:World}{name:String}{k:IntKind}{zs:List Int} (h:Lib.TabBelow Tryz.prog B w name k zs) (hb:Below B w w1) (hB:B≤B'):Lib.TabBelow Tryz.prog B' w1 name k zs:=fun w' h'=>h w' (hb.trans (h'.mono hB))
end Go.Proofs.Tryz
namespace Go.Proofs.Tryz
set_option maxHeartbeats 16000000
open Go.RowKit Go.Shelf
set_option maxRecDepth 100000
attribute [local go_sem] Oper.semAt_some
theorem wpListIn_append_lies {F:Fence}{n:Nat}{P:Program} (w:World) {ops:Array Oper}{rest:List Oper}{o:Oper}{a:Act}{Q:Exit→Act→World→Prop}
  (hg:o.guard=none) (s x:Operand) (t:TypeId) (hop:o.op=Op.call { callee:=Callee.builtin Builtin.append,args:=#[s,x],argTypes:=#[t,t] })
  (base:Nat) (e:TypeId) (i:TypeInfo) (z:Value) (size bytes:Nat) (h1:P.underlying t=some (.slice e)) (h2:P.info? e=some i) (h3:i.zero=some z) (h4:i.size=size) (h5:i.bytes=bytes) (h6:z.cells.size=size) (h7:0 < size)
  (v:Value) (k:Nat) (xs:List Value) (hs:a.eval s=v) (hown:w.ownsRow base e size v k xs) (ad:Addr) (m c:Nat) (news:List Value) (hx:a.eval x = .slice (some ad) m c) (hn:news.length=m * size)
  (hc:∀ j u,news[j]? = some u→w.cell? (ad.add j)=some u) (h1c:∀ u∈news,u.oneCell'=true) (hm:0 < m) (b1:k+m≤maxLen) (b2:(k+m) * bytes≤140737488355328) (b3:base≤w.heap.size) (H:Nat) (hH:w.heap.size=H)
  (hK:∀ g cap w',w'.ownsRow base e size (.slice (some ⟨g,0,none⟩) (k+m) cap) (k+m) (xs ++ news)→w.grownBy w' v.ownBlock→(v.ownBlock=some g∨g=H)→g < w'.heap.size→wpListIn F n P ops Q rest (a.put o.dst (.slice (some ⟨g,0,none⟩) (k+m) cap)) w') :
  wpListIn F n P ops Q (o :: rest) a w:=by
 refine wpListIn_plain hg fun K hK'=>?_
 obtain ⟨g,cap,w',hrun,r1,r2,r3,r4⟩:=run_append_lies (P:=P) w t o.type base e i z size bytes h1 h2 h3 h4 h5 h6 h7 v k xs hown ad m c news hn hc h1c hm b1 b2 b3 H hH
 unfold Oper.wpIn
 refine ⟨?_,?_⟩
 ·simp [Oper.about,hop,resolve,Target.leads,Sem.run_pure]
 ·rw [Oper.semAt_plain F _ _ (by rw [hop];intro c hc';cases hc')]
  simp [execOp,hop,resolve,invoke,builtin,hs,hx,hrun,Result.andThen]
  exact hK' _ _ (hK g cap w' r1 r2 r3 r4)
end Go.Proofs.Tryz
namespace Go.Proofs.Tryz
set_option maxHeartbeats 16000000
open Go.RowKit Go.Shelf
set_option maxRecDepth 100000
attribute [local go_sem] Oper.semAt_some
theorem range_method {n:Nat}{P:Program}{g:Operand}{ps:Array Tmp}{assign body:Code}{Q:Exit→Act→World→Prop}{a:Act}{w:World}{gf:Nat}{recv:Value} (h1:1≤n) (hg:a.eval g = .func (.func gf) #[recv] #[]) (eg:∀ args w,(callFunc gf args).run P w = .ok (.enter gf args) w)
  (h:∀ fn,CallsIn Fence.wide (n - 1) P gf #[recv,.func (.yield (w.heap.size+1)) #[] #[]] ((w.alloc (.deferred (some []))).alloc (.loop { state:=.ready,pending:=none,fn,tmps:=a.tmps,params:=ps,assign,body,defers:=w.heap.size }))
   (rangePost Fence.wide n P (w.heap.size+1) Q { a with defers:=[{ target:=.collected w.heap.size,args:=#[] }] ++ a.defers })) :
  (Code.rangeFunc g ps assign body).wpIn Fence.wide n P Q a w:=by
 refine wpIn_rangeFunc ?_
 intro fn _
 refine ⟨w.heap.size+1,[{ target:=.collected w.heap.size,args:=#[] }],_,{ target:=.fn (.func gf) #[],args:=#[recv,.func (.yield (w.heap.size+1)) #[] #[]] },(w.alloc (.deferred (some []))).alloc (.loop { state:=.ready,pending:=none,fn,tmps:=a.tmps,params:=ps,assign,body,defers:=w.heap.size }),gf,
  #[recv,.func (.yield (w.heap.size+1)) #[] #[]],(w.alloc (.deferred (some []))).alloc (.loop { state:=.ready,pending:=none,fn,tmps:=a.tmps,params:=ps,assign,body,defers:=w.heap.size }),run_enterLoop_outer _ _ _ _ _,?_,?_,?_,fun _=>h1,h fn⟩
 ·simp only [resolve,hg]
  simp [go_sem]
 ·intro f' hf';trivial
 ·simp [invoke,go_sem,eg]
theorem owns_shape1 {w:World}{B e n:Nat}{v:Value}{xs:List Value} (h:w.ownsRow B e 1 v n xs):∃ a l c,v = .slice a l c:=by
 rcases h.2 with ⟨rfl,_⟩ | ⟨g,cap,cur,rfl,_⟩
 ·exact ⟨_,_,_,rfl⟩
 ·exact ⟨_,_,_,rfl⟩
end Go.Proofs.Tryz
namespace Go.Proofs.Tryz
set_option maxHeartbeats 16000000
open Go.RowKit
set_option maxRecDepth 10000
abbrev Sp:=IV×Option Addr
def spv (s:Sp):Value:=.agg #[iv s.1,.pointer s.2]
abbrev SP:=World→Sp→Prop
def HoldsP (P:SP) (G:Nat→Prop) (w:World) (s:Sp):Prop:=(∀ k,G k→k < w.heap.size)∧∀ w',SameOn G w w'→w.heap.size≤w'.heap.size→P w' s
theorem HoldsP.here {P:SP}{G:Nat→Prop}{w:World}{s:Sp} (h:HoldsP P G w s):P w s:=h.2 w (SameOn.refl _ _) (Nat.le_refl _)
theorem HoldsP.move {P:SP}{G:Nat→Prop}{w w1:World}{s:Sp} (h:HoldsP P G w s) (hs:SameOn G w w1) (hl:w.heap.size≤w1.heap.size):HoldsP P G w1 s :=
 ⟨fun k hk=>Nat.lt_of_lt_of_le (h.1 k hk) hl,fun w' a b=>h.2 w' (hs.trans a) (Nat.le_trans hl b)⟩
theorem HoldsP.after {P:SP}{G X:Nat→Prop}{w w1:World}{s:Sp} (h:HoldsP P G w s) (hs:Fr X w w1) (hd:∀ k,G k→¬ X k):HoldsP P G w1 s :=
 h.move (hs.same h.1 hd) hs.size
theorem HoldsP.to {P Q:SP}{G:Nat→Prop}{w:World}{s s':Sp} (h:HoldsP P G w s) (hPQ:∀ w',P w' s→Q w' s'):HoldsP Q G w s':=⟨h.1,fun w' a b=>hPQ w' (h.2 w' a b)⟩
theorem HoldsP.more {P:SP}{G G':Nat→Prop}{w:World}{s:Sp} (h:HoldsP P G w s) (hG:∀ k,G k→G' k) (hl:∀ k,G' k→k < w.heap.size):HoldsP P G' w s:=⟨hl,fun w' a b=>h.2 w' (a.mono hG) b⟩
def StG:List SP→(Nat→Prop)→(Nat→Prop)→World→Value→Prop
 | [],F,D,w,f=>∃ K cap,f = .func (.func K) #[] cap∧Enters Tryz.prog K∧(∀ k,F k→k < w.heap.size)∧(∀ k,D k→F k)∧
   ∀ w',SameOn F w w'→w.heap.size≤w'.heap.size→Calls Tryz.prog K cap w' fun e w''=>Fr D w' w''∧e = .returned (.tuple #[.agg #[.nilIface,.pointer none],.bool false])
 | P :: L,F,D,w,f=>∃ K cap,f = .func (.func K) #[] cap∧Enters Tryz.prog K∧(∀ k,F k→k < w.heap.size)∧(∀ k,D k→F k)∧
   ∀ w',SameOn F w w'→w.heap.size≤w'.heap.size→Calls Tryz.prog K cap w' fun e w''=>Fr D w' w''∧
    ∃ s G F' D',e = .returned (.tuple #[spv s,.bool true])∧HoldsP P G w'' s∧StG L F' D' w'' f∧(∀ k,F' k→F k∨w'.heap.size≤k)∧(∀ k,D' k→D k∨w'.heap.size≤k)∧(∀ k,G k→F k∨w'.heap.size≤k)∧(∀ k,G k→¬ D' k)
theorem StG.lt {L:List SP}{F D:Nat→Prop}{w:World}{f:Value} (h:StG L F D w f):∀ k,F k→k < w.heap.size:=by
 cases L <;> (obtain ⟨_,_,_,_,h,_⟩:=h;exact h)
theorem StG.sub {L:List SP}{F D:Nat→Prop}{w:World}{f:Value} (h:StG L F D w f):∀ k,D k→F k:=by
 cases L <;> (obtain ⟨_,_,_,_,_,h,_⟩:=h;exact h)
theorem StG.shape {L:List SP}{F D:Nat→Prop}{w:World}{f:Value} (h:StG L F D w f):∃ K cap,f = .func (.func K) #[] cap:=by
 cases L <;> (obtain ⟨K,cap,h,_⟩:=h;exact ⟨K,cap,h⟩)
theorem StG.enters {L:List SP}{F D:Nat→Prop}{w:World}{K:Nat}{cap:Array Value} (h:StG L F D w (.func (.func K) #[] cap)):Enters Tryz.prog K:=by
 cases L <;> (obtain ⟨K',cap',e,hE,_⟩:=h;cases e;exact hE)
theorem StG.move {L:List SP}{F D:Nat→Prop}{w w1:World}{f:Value} (h:StG L F D w f) (hs:SameOn F w w1) (hl:w.heap.size≤w1.heap.size):StG L F D w1 f:=by
 cases L <;>
 ·obtain ⟨K,cap,hf,hE,hF,hD,h⟩:=h
  exact ⟨K,cap,hf,hE,fun k hk=>Nat.lt_of_lt_of_le (hF k hk) hl,hD,fun w' hs' hl'=>h w' (hs.trans hs') (Nat.le_trans hl hl')⟩
theorem StG.after {L:List SP}{F D X:Nat→Prop}{w w1:World}{f:Value} (h:StG L F D w f) (hs:Fr X w w1) (hd:∀ k,F k→¬ X k):StG L F D w1 f :=
 h.move (hs.same h.lt hd) hs.size
theorem StG.ofNone {F D:Nat→Prop}{w:World}{f:Value} (h:Str [] .none F D w f):StG [] F D w f:=by
 obtain ⟨K,cap,hf,hE,hF,hD,h⟩:=h
 exact ⟨K,cap,hf,hE,hF,hD,h⟩
theorem StG.toNone {F D:Nat→Prop}{w:World}{f:Value} (h:StG [] F D w f):Str [] .none F D w f:=by
 obtain ⟨K,cap,hf,hE,hF,hD,h⟩:=h
 exact ⟨K,cap,hf,hE,hF,hD,h⟩
def Just (s:Sp):SP:=fun _ t=>t=s
def ToG (C:Nat→Prop) (w:World) (g:Value) (P Q:SP):Prop :=
 ∃ K cap,g = .func (.func K) #[] cap∧Enters Tryz.prog K∧(∀ k,C k→k < w.heap.size)∧
  ∀ w' s G,SameOn C w w'→w.heap.size≤w'.heap.size→HoldsP P G w' s→Calls Tryz.prog K (#[spv s] ++ cap) w' fun e w''=>Below w'.heap.size w' w''∧∃ s' G',e = .returned (spv s')∧HoldsP Q G' w'' s'∧∀ k,G' k→C k∨G k∨w'.heap.size≤k
theorem ToG.move {C:Nat→Prop}{w w1:World}{g:Value}{P Q:SP} (h:ToG C w g P Q) (hs:SameOn C w w1) (hl:w.heap.size≤w1.heap.size):ToG C w1 g P Q:=by
 obtain ⟨K,cap,e,hE,hC,h⟩:=h
 exact ⟨K,cap,e,hE,fun k hk=>Nat.lt_of_lt_of_le (hC k hk) hl,fun w' s G hs' hl'=>h w' s G (hs.trans hs') (Nat.le_trans hl hl')⟩
theorem mapped1_g {w:World}{ob tb:Nat}{f g:Value}{P Q:SP}{L:List SP}{F D C:Nat→Prop} (ho:Box w ob f 66) (ht:Box w tb g 133) (hS:StG (P :: L) F D w f) (hT:ToG C w g P Q) (hCD:∀ k,C k→¬ D k) (htD:¬ D tb) :
  Calls Tryz.prog 93 #[.pointer (some ⟨ob,0,none⟩),.pointer (some ⟨tb,0,none⟩)] w fun e w'=>Fr D w w'∧∃ s G F' D',e = .returned (.tuple #[spv s,.bool true])∧HoldsP Q G w' s∧StG L F' D' w' f∧(∀ k,F' k→F k∨w.heap.size < k)∧(∀ k,D' k→D k∨w.heap.size < k)∧(∀ k,G k→F k∨C k∨w.heap.size < k)∧(∀ k,G k→¬ D' k):=by
 have h0:=ho.cell
 have h2:=ho.lt
 obtain ⟨K,cap,rfl,hE,hF,hD,h⟩:=hS
 obtain ⟨K2,cap2,rfl,hE2,hC,h'⟩:=hT
 have hE':∀ (args:Array Value) (w:World),(callFunc K args).run Tryz.prog w = .ok (.enter K args) w:=hE
 have hE2':∀ (args:Array Value) (w:World),(callFunc K2 args).run Tryz.prog w = .ok (.enter K2 args) w:=hE2
 have H:Aside (∀ w',SameOn F w w'→w.heap.size≤w'.heap.size→Calls Tryz.prog K cap w' fun e w''=>Fr D w' w''∧∃ s G F' D',e = .returned (.tuple #[spv s,.bool true])∧HoldsP P G w'' s∧StG L F' D' w'' (.func (.func K) #[] cap)∧(∀ k,F' k→F k∨w'.heap.size≤k)∧(∀ k,D' k→D k∨w'.heap.size≤k)∧(∀ k,G k→F k∨w'.heap.size≤k)∧(∀ k,G k→¬ D' k)):=h
 have H':Aside (∀ w' s G,SameOn C w w'→w.heap.size≤w'.heap.size→HoldsP P G w' s→Calls Tryz.prog K2 (#[spv s] ++ cap2) w' fun e w''=>Below w'.heap.size w' w''∧∃ s' G',e = .returned (spv s')∧HoldsP Q G' w'' s'∧∀ k,G' k→C k∨G k∨w'.heap.size≤k):=h'
 clear h h'
 have hbl:∀ o,Below w.heap.size w (w.alloc o):=fun o=>below_alloc w o
 go_enter Tryz.func93,Tryz.ntmps93
 go_wp2_with (first
  | (go_at_fn K2;refine (H'.out _ ((T,u),q) G (fun k hk=>(Below.heap_alloc _ _ _ (by have:=hC k hk;omega)).trans ((k1.block k (by have:=hC k hk;simp;omega) (hCD k hk)).trans (Below.heap_alloc _ _ _ (hC k hk)))) (by simp;omega) (hP.after (X:=fun _=>False) ((Fr.refl _ _).alloc _) (fun _ _ e=>e))).mono ?_;rintro e w2 ⟨k2,⟨⟨T',u'⟩,q'⟩,G',rfl,hQ,hG'⟩;simp only [spv,iv];have p:SpotBox w2 w.heap.size .nilIface:=(qb.alloc _).same (k2.block _ (by simp;omega));obtain ⟨p0,p1,p2,p3,p4⟩:=p.facts)
  | (go_at_fn K;refine (H.out _ (fun k hk=>Below.heap_alloc _ _ _ (hF k hk)) (by simp)).mono ?_;rintro e w1 ⟨k1,⟨⟨T,u⟩,q⟩,G,F',D',rfl,hP,hS',hF',hD',hG,hGD⟩;simp only [spv,iv];have qb:SpotBox w1 w.heap.size .nilIface:=(SpotBox.new w .nilIface).same (k1.block _ (by simp) (new_not hF hD));obtain ⟨q0,q1,q2,q3,q4⟩:=qb.facts;have t0:=(ht.same ((k1.block tb (by have:=ht.lt;simp;omega) htD).trans (Below.heap_alloc _ _ _ ht.lt))).cell;have t1:tb < w1.heap.size:=by have:=ht.lt;omega))
 have hl1:w.heap.size+1≤w1.heap.size:=by have:=k1.size;simpa using this
 have hl2:w1.heap.size+1≤w2.heap.size:=by have:=k2.size;simpa using this
 have hFl:=hS'.lt
 have hDs:=hS'.sub
 simp only [World.size_alloc] at hF' hD' hG hG'
 have fe:Fr (· = w.heap.size) w1 ((w2.setCell ⟨w.heap.size,0,none⟩ (.iface T' u')).setCell ⟨w.heap.size,1,none⟩ (.pointer q')):=((((Fr.refl (· = w.heap.size) w1).alloc _).trans (Fr.of_below (D:=fun _=>False) k2) (fun _ _ e=>e.elim)).setCell _ (.inl rfl)).setCell _ (.inl rfl)
 have f2:Fr (· = w.heap.size) w2 ((w2.setCell ⟨w.heap.size,0,none⟩ (.iface T' u')).setCell ⟨w.heap.size,1,none⟩ (.pointer q')):=((Fr.refl (· = w.heap.size) w2).setCell _ (.inl rfl)).setCell _ (.inl rfl)
 refine bodyPost_ret (v:=.tuple #[.agg #[.iface T' u',.pointer q'],.bool true]) (by simp [results,Tryz.results93,go_sem,p4,p0,p1]) rfl ⟨?_,((T',u'),q'),G',F',D',rfl,?_,?_,?_,?_,?_,?_⟩
 ·exact ((((((Fr.refl D w).alloc _).trans k1 (fun _ _ e=>e)).alloc _).trans (Fr.of_below (D:=D) k2) (fun _ _ e=>e)).setCell _ (.inr (Nat.le_refl _))).setCell _ (.inr (Nat.le_refl _))
 ·exact hQ.after f2 (by grind)
 ·exact hS'.after fe (by grind)
 ·grind
 ·grind
 ·grind
 ·grind
theorem mapped_g {C:Nat→Prop}{ob tb:Nat}{f g:Value}:∀ {L:List (SP×SP)}{w:World}{F D:Nat→Prop},Box w ob f 66→Box w tb g 133→StG (L.map (·.1)) F D w f→(∀ k,C k→k < w.heap.size)→(∀ x∈L,ToG C w g x.1 x.2)→(∀ k,C k→¬ D k)→¬ D tb→¬ D ob→
  StG (L.map (·.2)) (fun k=>F k∨C k∨k=ob∨k=tb) D w (.func (.func 93) #[] #[.pointer (some ⟨ob,0,none⟩),.pointer (some ⟨tb,0,none⟩)])
 | [],w,F,D,ho,ht,hS,hC,_,hCD,htD,hoD=>by
  obtain ⟨K,cap,rfl,hE,hF,hD,h⟩:=hS
  have hol:=ho.lt
  have htl:=ht.lt
  refine ⟨_,_,rfl,enters_mapped1,by grind,by grind,?_⟩
  intro w1 hs hl
  exact mapped1_done (ho.same (hs ob (by simp))) hE (fun k hk=>Nat.lt_of_lt_of_le (hF k hk) hl) hD (fun w' a b=>h w' ((hs.mono (fun k hk=>.inl hk)).trans a) (Nat.le_trans hl b))
 | x :: L,w,F,D,ho,ht,hS,hC,hT,hCD,htD,hoD=>by
  have hol:=ho.lt
  have htl:=ht.lt
  have hSl:=hS.lt
  have hSs:=hS.sub
  refine ⟨_,_,rfl,enters_mapped1,by grind,by grind,?_⟩
  intro w1 hs hl
  have hs':SameOn F w w1:=fun k hk=>hs k (.inl hk)
  have hsC:SameOn C w w1:=fun k hk=>hs k (.inr (.inl hk))
  refine (mapped1_g (ho.same (hs ob (by simp))) (ht.same (hs tb (by simp))) (hS.move hs' hl) ((hT x (.head _)).move hsC hl) hCD htD).mono ?_
  rintro e w2 ⟨k2,s,G,F',D',rfl,hQ,hS',hF',hD',hG,hGD⟩
  have ho1:=ho.same (hs ob (by simp))
  have ht1:=ht.same (hs tb (by simp))
  have hsC2:SameOn C w1 w2:=k2.same (fun k hk=>Nat.lt_of_lt_of_le (hC k hk) hl) hCD
  have hl2:=k2.size
  refine ⟨k2,s,G,_,D',rfl,hQ,mapped_g (C:=C) (ho1.same (k2.block _ ho1.lt hoD)) (ht1.same (k2.block _ ht1.lt htD)) hS' (by grind) (fun y hy=>((hT y (.tail _ hy)).move hsC hl).move hsC2 hl2) (by grind) (by grind) (by grind),?_,?_,?_,hGD⟩
  ·grind
  ·grind
  ·grind
theorem mapped_okg {C:Nat→Prop}{f g:Value}{L:List (SP×SP)}{w:World}{F D:Nat→Prop} (hS:StG (L.map (·.1)) F D w f) (hg:∃ K cap,g = .func (.func K) #[] cap) (hC:∀ k,C k→k < w.heap.size) (hT:∀ x∈L,ToG C w g x.1 x.2) (hCD:∀ k,C k→¬ D k) :
  Calls Tryz.prog 45 #[f,g] w fun e w'=>Below w.heap.size w w'∧∃ K cap F',e = .returned (.func (.func K) #[] cap)∧StG (L.map (·.2)) F' D w' (.func (.func K) #[] cap)∧(∀ k,F' k→F k∨C k∨w.heap.size≤k):=by
 obtain ⟨K,cap,rfl⟩:=hS.shape
 obtain ⟨K2,cap2,rfl⟩:=hg
 refine mapped_made.mono ?_
 rintro e w' ⟨rfl,k,bo,bt⟩
 have hl:=hS.lt
 have hsb:=hS.sub
 refine ⟨k,_,_,_,rfl,mapped_g (C:=C) bo bt (hS.move (fun b hb=>k.block b (hl b hb)) k.size) (fun b hb=>Nat.lt_of_lt_of_le (hC b hb) k.size) (fun x hx=>(hT x hx).move (fun b hb=>k.block b (hC b hb)) k.size) hCD (by grind) (by grind),by grind⟩
def SpotB (w:World) (b:Nat) (s:Sp):Prop:=w.heap[b]? = some (.cells #[iv s.1,.pointer s.2] 75 (0,0))
theorem SpotB.same {w w':World}{b:Nat}{s:Sp} (h:SpotB w b s) (e:w'.heap[b]? = w.heap[b]?):SpotB w' b s:=e.trans h
theorem SpotB.lt {w:World}{b:Nat}{s:Sp} (h:SpotB w b s):b < w.heap.size:=lt_of_block h
theorem SpotB.new (w:World) (s:Sp):SpotB (w.alloc (.cells #[iv s.1,.pointer s.2] 75)) w.heap.size s:=heap_new _ _
theorem SpotB.facts {w:World}{b T:Nat}{u:Value}{q:Option Addr} (h:SpotB w b ((T,u),q)):w.cell? ⟨b,0,none⟩=some (.iface T u)∧w.cell? ⟨b,1,none⟩=some (.pointer q)∧w.frozen? ⟨b,0,none⟩=false∧w.frozen? ⟨b,1,none⟩=false∧b < w.heap.size:=by
 have h':w.heap[b]? = some (.cells #[.iface T u,.pointer q] 75 (0,0)):=h
 refine ⟨?_,?_,?_,?_,h.lt⟩
 ·simp [World.cell?,h']
 ·simp [World.cell?,h']
 ·simp [World.frozen?,h']
 ·simp [World.frozen?,h']
theorem SpotB.ne {w:World}{g b T:Nat}{v:Value}{s:Sp} (hg:Box w g v T) (hs:SpotB w b s):g≠b:=by
 intro e
 subst e
 have:=Option.some.inj (hg.symm.trans hs)
 simp at this
def Made (L:List SP) (C:Nat→Prop) (n:Nat) (w:World) (f:Value):Prop:=∃ F D,StG L F D w f∧(∀ k,F k→C k∨n≤k)∧(∀ k,D k→n≤k)
def MadeC (L:List SP) (C:Nat→Prop) (w:World) (e:Ending) (w':World):Prop:=Below w.heap.size w w'∧∃ K cap,e = .returned (.func (.func K) #[] cap)∧Made L C w.heap.size w' (.func (.func K) #[] cap)
theorem MadeC.mk' {L:List SP}{C F D:Nat→Prop}{w w':World}{f:Value} (k:Below w.heap.size w w') (h:StG L F D w' f) (hF:∀ k,F k→C k∨w.heap.size≤k) (hD:∀ k,D k→w.heap.size≤k):MadeC L C w (.returned f) w':=by
 obtain ⟨K,cap,rfl⟩:=h.shape
 exact ⟨k,K,cap,rfl,F,D,h,hF,hD⟩
theorem Made.low {L:List SP}{C C':Nat→Prop}{n n':Nat}{w:World}{f:Value} (h:Made L C n w f) (hn:n'≤n) (hC:∀ k,C k→C' k∨n'≤k):Made L C' n' w f:=by
 obtain ⟨F,D,h,hF,hD⟩:=h
 exact ⟨F,D,h,by grind,by grind⟩
theorem Made.upon {L:List SP}{C:Nat→Prop}{n:Nat}{w w1:World}{f:Value} (h:Made L C n w f) (k:Below w.heap.size w w1):Made L C n w1 f:=by
 obtain ⟨F,D,h,hF,hD⟩:=h
 exact ⟨F,D,h.move (fun b hb=>k.block b (h.lt b hb)) k.size,hF,hD⟩
theorem one1_firstg {w:World}{g b:Nat}{s:Sp} (hg:Box w g (.bool false) 4) (hs:SpotB w b s):Calls Tryz.prog 90 #[.pointer (some ⟨g,0,none⟩),.pointer (some ⟨b,0,none⟩)] w fun e w'=>e = .returned (.tuple #[spv s,.bool true])∧Fr (· = g) w w'∧Box w' g (.bool true) 4:=by
 have h0:=hg.cell
 have h1:=hg.free
 have h2:=hg.lt
 have hne:g≠b:=SpotB.ne hg hs
 obtain ⟨⟨T,u⟩,q⟩:=s
 obtain ⟨h3,h4,_,_,h5⟩:=hs.facts
 simp only [spv,iv]
 go_enter Tryz.func90,Tryz.ntmps90
 go_wp2_with fail
 exact bodyPost_ret (v:=.tuple #[.agg #[.iface T u,.pointer q],.bool true]) (by simp [results,Tryz.results90,go_sem]) rfl ⟨rfl,((Fr.refl (· = g) w).setCell _ (.inl rfl)).alloc _,(hg.set _).same (Below.heap_alloc _ _ _ (by simpa using h2))⟩
theorem enters_one1:Enters Tryz.prog 90:=enters_of Tryz.func90 (by kernel_rfl) rfl
theorem one_g {w:World}{P:SP}{G:Nat→Prop}{s:Sp}{g b:Nat} (hP:HoldsP P G w s) (hg:Box w g (.bool false) 4) (hs:SpotB w b s) (hgG:¬ G g) :
  StG [P] (fun k=>G k∨k=g∨k=b) (fun k=>k=g) w (.func (.func 90) #[] #[.pointer (some ⟨g,0,none⟩),.pointer (some ⟨b,0,none⟩)]):=by
 have hPl:=hP.1
 have hgl:=hg.lt
 have hsl:=hs.lt
 refine ⟨_,_,rfl,enters_one1,by grind,by grind,?_⟩
 intro w1 hs1 hl
 refine (one1_firstg (hg.same (hs1 g (by simp))) (hs.same (hs1 b (by simp)))).mono ?_
 rintro e w2 ⟨rfl,k2,k3⟩
 have hl2:=k2.size
 have hgl3:=k3.lt
 refine ⟨k2,s,G,fun k=>k=g,fun k=>k=g,rfl,(hP.move (fun k hk=>hs1 k (.inl hk)) hl).after k2 (by grind),?_,by grind,by grind,by grind,by grind⟩
 refine ⟨_,_,rfl,enters_one1,by grind,by grind,?_⟩
 intro w3 hs3 hl3
 refine (one1_given (k3.same (hs3 _ rfl))).mono ?_
 rintro e w4 ⟨rfl,k4⟩
 exact ⟨.of_below k4,rfl⟩
theorem one_okg {w:World}{P:SP}{C G:Nat→Prop}{s:Sp} (hP:HoldsP P G w s) (hG:∀ k,G k→C k):Calls Tryz.prog 43 #[spv s] w (MadeC [P] C w):=by
 obtain ⟨⟨T,u⟩,q⟩:=s
 simp only [spv,iv]
 go_enter Tryz.func43,Tryz.ntmps43
 go_wp2
 go_ret
 have k:=below_alloc2 w (.cells #[.iface T u,.pointer q] 75) (.cells #[.bool false] 4)
 have hPl:=hP.1
 exact .mk' k (one_g (hP.move (fun b hb=>k.block b (hPl b hb)) k.size) (heap_new2' w _ _) (s:=((T,u),q)) (SpotB.same (heap_new w _) (Below.heap_alloc _ _ _ (by simp))) (by grind)) (by grind) (by grind)
def OutG (C:Nat→Prop) (w:World) (g:Value) (P:SP):Prop :=
 ∃ K cap,g = .func (.func K) #[] cap∧Enters Tryz.prog K∧(∀ k,C k→k < w.heap.size)∧
  ∀ w',SameOn C w w'→w.heap.size≤w'.heap.size→Calls Tryz.prog K cap w' fun e w''=>Below w'.heap.size w' w''∧∃ x G,e = .returned (iv x)∧HoldsP P G w'' (x,none)∧∀ k,G k→C k∨w'.heap.size≤k
theorem OutG.move {C:Nat→Prop}{w w1:World}{g:Value}{P:SP} (h:OutG C w g P) (hs:SameOn C w w1) (hl:w.heap.size≤w1.heap.size):OutG C w1 g P:=by
 obtain ⟨K,cap,e,hE,hC,h⟩:=h
 exact ⟨K,cap,e,hE,fun k hk=>Nat.lt_of_lt_of_le (hC k hk) hl,fun w' hs' hl'=>h w' (hs.trans hs') (Nat.le_trans hl hl')⟩
theorem worked1_g {w:World}{g s:Nat}{f:Value}{P:SP}{C:Nat→Prop} (hg:Box w g (.bool false) 4) (hs:Box w s f 92) (hT:OutG C w f P) (hgC:¬ C g) (hgs:s≠g):Calls Tryz.prog 167 #[.pointer (some ⟨g,0,none⟩),.pointer (some ⟨s,0,none⟩)] w fun e w'=>Fr (· = g) w w'∧∃ y G,e = .returned (.tuple #[spv (y,none),.bool true])∧HoldsP P G w' (y,none)∧Box w' g (.bool true) 4∧∀ k,G k→C k∨w.heap.size < k:=by
 have h0:=hg.cell
 have h1:=hg.free
 have h2:=hg.lt
 have h3:=hs.cell
 have h4:=hs.lt
 obtain ⟨K,cap,rfl,hE,hC,h⟩:=hT
 have hE':∀ (args:Array Value) (w:World),(callFunc K args).run Tryz.prog w = .ok (.enter K args) w:=hE
 have k0:Fr (· = g) w ((w.setCell ⟨g,0,none⟩ (.bool true)).alloc (.cells #[.nilIface,.pointer none] 75)):=((Fr.refl (· = g) w).setCell _ (.inl rfl)).alloc _
 have hb:SpotBox ((w.setCell ⟨g,0,none⟩ (.bool true)).alloc (.cells #[.nilIface,.pointer none] 75)) w.heap.size .nilIface:=by
  have:=SpotBox.new (w.setCell ⟨g,0,none⟩ (.bool true)) .nilIface
  simpa using this
 have hg0:Box ((w.setCell ⟨g,0,none⟩ (.bool true)).alloc (.cells #[.nilIface,.pointer none] 75)) g (.bool true) 4:=(hg.set _).same (Below.heap_alloc _ _ _ (by simpa using h2))
 have hl0:((w.setCell ⟨g,0,none⟩ (.bool true)).alloc (.cells #[.nilIface,.pointer none] 75)).heap.size=w.heap.size+1:=by simp
 go_enter Tryz.func167,Tryz.ntmps167
 go_wp2_with (go_at_fn K;refine (h _ (fun k hk=>k0.block k (hC k hk) (fun e=>hgC (e ▸ hk))) k0.size).mono ?_;rintro e w1 ⟨k1,⟨T,u⟩,G,rfl,hP,hG⟩;simp only [iv];have q:SpotBox w1 w.heap.size .nilIface:=hb.same (k1.block _ hb.lt);obtain ⟨q0,q1,q2,q3,q4⟩:=q.facts)
 have hend:Fr (· = w.heap.size) w1 ((w1.setCell ⟨w.heap.size,0,none⟩ (.iface T u)).setCell ⟨w.heap.size,1,none⟩ (.pointer none)):=((Fr.refl (· = w.heap.size) w1).setCell _ (.inl rfl)).setCell _ (.inl rfl)
 rw [hl0] at hG
 refine bodyPost_ret (v:=.tuple #[.agg #[.iface T u,.pointer none],.bool true]) (by simp [results,Tryz.results167,go_sem,q4,q0,q1]) rfl ⟨?_,(T,u),G,rfl,?_,?_,by grind⟩
 ·exact (k0.trans (Fr.of_below (D:=fun _=>False) k1) (fun _ _ e=>e.elim)).trans hend (fun i hi e=>by omega)
 ·exact hP.after hend (by grind)
 ·exact (hg0.same (k1.block _ hg0.lt)).same (hend.block _ (by have:=hg0.lt;have:=k1.size;omega) (by omega))
theorem worked_okg {w:World}{f:Value}{P:SP}{C C':Nat→Prop} (hT:OutG C w f P) (hC':∀ k,C k→C' k):Calls Tryz.prog 122 #[f] w (MadeC [P] C' w):=by
 have hT':=hT
 obtain ⟨K,cap,rfl,_,hC,_⟩:=hT'
 go_enter Tryz.func122,Tryz.ntmps122
 go_wp2
 go_ret
 have k:=below_alloc2 w (.cells #[.func (.func K) #[] cap] 92) (.cells #[.bool false] 4)
 have b0:Box ((w.alloc (.cells #[.func (.func K) #[] cap] 92)).alloc (.cells #[.bool false] 4)) w.heap.size (.func (.func K) #[] cap) 92:=(Box.new w _ _).same (Below.heap_alloc _ _ _ (by simp))
 have b1:Box ((w.alloc (.cells #[.func (.func K) #[] cap] 92)).alloc (.cells #[.bool false] 4)) (w.heap.size+1) (.bool false) 4:=heap_new2' w _ _
 have hb0:=b0.lt
 have hb1:=b1.lt
 have hks:=k.size
 have hT2:=hT.move (fun b hb=>k.block b (hC b hb)) hks
 refine .mk' k (F:=fun k=>C k∨k=w.heap.size∨k=w.heap.size+1) (D:=fun k=>k=w.heap.size+1) ⟨_,_,rfl,enters_worked1,by grind,by grind,?_⟩ (by grind) (by grind)
 intro w1 hs hl
 have c1:Box w1 (w.heap.size+1) (.bool false) 4:=b1.same (hs _ (by simp))
 refine (worked1_g c1 (b0.same (hs _ (by simp))) (hT2.move (fun k hk=>hs k (.inl hk)) hl) (fun e=>by have:=hC _ e;omega) (by omega)).mono ?_
 rintro e w2 ⟨k2,y,G,rfl,hP,hb,hG⟩
 have hb2:=hb.lt
 refine ⟨k2,(y,none),G,fun k=>k=w.heap.size+1,fun k=>k=w.heap.size+1,rfl,hP,?_,by grind,by grind,by grind,by grind⟩
 refine ⟨_,_,rfl,enters_worked1,by grind,by grind,?_⟩
 intro w3 hs3 hl3
 refine (worked1_given (hb.same (hs3 _ rfl))).mono ?_
 rintro e w4 ⟨rfl,k4⟩
 exact ⟨.of_below k4,rfl⟩
def VG (C:Nat→Prop) (w:World) (g:Value) (P Q:SP):Prop :=
 ∃ K cap,g = .func (.func K) #[] cap∧Enters Tryz.prog K∧(∀ k,C k→k < w.heap.size)∧
  ∀ w' s G,SameOn C w w'→w.heap.size≤w'.heap.size→HoldsP P G w' s→Calls Tryz.prog K (#[iv s.1] ++ cap) w' fun e w''=>Below w'.heap.size w' w''∧∃ x G',e = .returned (iv x)∧HoldsP Q G' w'' (x,none)∧∀ k,G' k→C k∨G k∨w'.heap.size≤k
theorem VG.move {C:Nat→Prop}{w w1:World}{g:Value}{P Q:SP} (h:VG C w g P Q) (hs:SameOn C w w1) (hl:w.heap.size≤w1.heap.size):VG C w1 g P Q:=by
 obtain ⟨K,cap,e,hE,hC,h⟩:=h
 exact ⟨K,cap,e,hE,fun k hk=>Nat.lt_of_lt_of_le (hC k hk) hl,fun w' s G hs' hl'=>h w' s G (hs.trans hs') (Nat.le_trans hl hl')⟩
theorem valued1_g {C G:Nat→Prop}{w:World}{g:Value}{P Q:SP}{s:Sp}{tb:Nat} (ht:Box w tb g 242) (h:VG C w g P Q) (hP:HoldsP P G w s) :
  Calls Tryz.prog 173 #[spv s,.pointer (some ⟨tb,0,none⟩)] w fun e w'=>Below w.heap.size w w'∧∃ s' G',e = .returned (spv s')∧HoldsP Q G' w' s'∧∀ k,G' k→C k∨G k∨w.heap.size≤k:=by
 obtain ⟨K,cap,rfl,hE,hC,h⟩:=h
 have h0:=ht.cell
 have h1:=ht.lt
 have hE':∀ (args:Array Value) (w:World),(callFunc K args).run Tryz.prog w = .ok (.enter K args) w:=hE
 have H:Aside (∀ w' s G,SameOn C w w'→w.heap.size≤w'.heap.size→HoldsP P G w' s→Calls Tryz.prog K (#[iv s.1] ++ cap) w' fun e w''=>Below w'.heap.size w' w''∧∃ x G',e = .returned (iv x)∧HoldsP Q G' w'' (x,none)∧∀ k,G' k→C k∨G k∨w'.heap.size≤k):=h
 clear h
 have HP:Aside (HoldsP P G w s):=hP
 have hPl:=hP.1
 clear hP
 obtain ⟨⟨T,u⟩,q⟩:=s
 simp only [spv,iv]
 go_enter Tryz.func173,Tryz.ntmps173
 go_wp2_with (go_at_fn K;refine (H.out _ ((T,u),q) G (fun k hk=>(below_alloc2 w _ _).block k (hC k hk)) (below_alloc2 w _ _).size (HP.out.after (X:=fun _=>False) (.of_below (below_alloc2 w _ _)) (fun _ _ e=>e))).mono ?_;rintro e w1 ⟨k1,⟨T',u'⟩,G',rfl,hQ,hG'⟩;simp only [iv];have qb:SpotBox w1 (w.heap.size+1) .nilIface:=SpotBox.same (heap_new2' w _ _) (k1.block _ (by simp));obtain ⟨q0,q1,q2,q3,q4⟩:=qb.facts)
 have hl1:w.heap.size+1+1≤w1.heap.size:=by have:=k1.size;simpa using this
 simp only [World.size_alloc] at hG'
 refine bodyPost_ret (v:=.agg #[.iface T' u',.pointer none]) (by simp [results,Tryz.results173,go_sem,q4,q0,q1]) rfl ⟨?_,((T',u'),none),G',rfl,hQ.after (X:=(· = w.heap.size+1)) (((Fr.refl (· = w.heap.size+1) w1).setCell _ (.inl rfl)).setCell _ (.inl rfl)) (by grind),by grind⟩
 exact ((((below_alloc2 w _ _).trans (k1.mono (by simp;omega))).setCell (by simp) _).setCell (by simp) _)
theorem valued_okg {C:Nat→Prop}{f g:Value}{L:List (SP×SP)}{w:World}{F D:Nat→Prop} (hS:StG (L.map (·.1)) F D w f) (hg:∃ K cap,g = .func (.func K) #[] cap) (hC:∀ k,C k→k < w.heap.size) (hT:∀ x∈L,VG C w g x.1 x.2) (hCD:∀ k,C k→¬ D k) :
  Calls Tryz.prog 126 #[f,g] w fun e w'=>Below w.heap.size w w'∧∃ K cap F',e = .returned (.func (.func K) #[] cap)∧StG (L.map (·.2)) F' D w' (.func (.func K) #[] cap)∧(∀ k,F' k→F k∨C k∨w.heap.size≤k):=by
 obtain ⟨K,cap,rfl⟩:=hS.shape
 obtain ⟨K2,cap2,rfl⟩:=hg
 have hSl:=hS.lt
 have hSs:=hS.sub
 have hm:Calls Tryz.prog 45 #[.func (.func K) #[] cap,.func (.func 173) #[] #[.pointer (some ⟨w.heap.size,0,none⟩)]] (w.alloc (.cells #[.func (.func K2) #[] cap2] 242)) fun e w'=>Below w.heap.size w w'∧∃ K cap F',e = .returned (.func (.func K) #[] cap)∧StG (L.map (·.2)) F' D w' (.func (.func K) #[] cap)∧(∀ k,F' k→F k∨C k∨w.heap.size≤k):=by
  have k0:=below_alloc w (.cells #[.func (.func K2) #[] cap2] 242)
  have hb:=Box.new w (.func (.func K2) #[] cap2) 242
  have hl:∀ k,(C k∨k=w.heap.size)→k < (w.alloc (.cells #[.func (.func K2) #[] cap2] 242)).heap.size:=by
   rintro k (hk | rfl)
   ·have:=hC k hk;simp;omega
   ·simp
  refine (mapped_okg (C:=fun k=>C k∨k=w.heap.size) (L:=L) (hS.move (fun k hk=>k0.block k (hS.lt k hk)) k0.size) ⟨_,_,rfl⟩ hl ?_ ?_).mono ?_
  ·intro x hx
   refine ⟨_,_,rfl,enters_valued1,hl,?_⟩
   intro w' s G hs hl' hP
   refine (valued1_g (hb.same (hs _ (.inr rfl))) (((hT x hx).move (fun k hk=>k0.block k (hC k hk)) k0.size).move (fun k hk=>hs k (.inl hk)) hl') hP).mono ?_
   rintro e w2 ⟨k2,s',G',rfl,hQ,hG'⟩
   exact ⟨k2,s',G',rfl,hQ,by grind⟩
  ·grind
  ·rintro e w1 ⟨k1,K,cap,F',rfl,hS',hF'⟩
   simp only [World.size_alloc] at hF'
   exact ⟨k0.trans (k1.mono (by simp)),K,cap,F',rfl,hS',by grind⟩
 go_enter Tryz.func126,Tryz.ntmps126
 go_wp2_with (go_at_call 45;refine hm.mono ?_;rintro e w1 ⟨k1,K3,cap3,F',rfl,hS',hF'⟩)
 go_ret
 exact ⟨k1,_,_,F',rfl,hS',hF'⟩
end Go.Proofs.Tryz
