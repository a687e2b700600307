import Derived.Test.YtndoeeampclfaaaGreatDoorTree
import Derived.Defers
import Derived.Recover
import Derived.OneCell
import Derived.Shelf.Abstract
import Derived.WalkMore
import Derived.Laws.EntriesVeiled
set_option linter.all false
namespace Go.Proofs.Tryz
set_option maxHeartbeats 16000000
open Go.RowKit
set_option maxRecDepth 10000
structure Fr (D:Nat→Prop) (w w':World):Prop where
 os:w'.os=w.os
 tape:w'.tape=w.tape
 output:w'.output=w.output
 size:w.heap.size≤w'.heap.size
 block:∀ k,k < w.heap.size→¬ D k→w'.heap[k]? = w.heap[k]?
theorem Fr.refl (D:Nat→Prop) (w:World):Fr D w w:=⟨rfl,rfl,rfl,Nat.le_refl _,fun _ _ _=>rfl⟩
theorem Fr.trans {D E:Nat→Prop}{a b c:World}(h:Fr D a b) (k:Fr E b c) (s:∀ i,i < a.heap.size→E i→D i):Fr D a c :=
 ⟨k.os.trans h.os,k.tape.trans h.tape,k.output.trans h.output,Nat.le_trans h.size k.size,
  fun i hi hd=>(k.block i (Nat.lt_of_lt_of_le hi h.size) (fun e=>hd (s i hi e))).trans (h.block i hi hd)⟩
theorem Fr.mono {D E:Nat→Prop}{a b:World}(h:Fr D a b) (s:∀ i,D i→E i):Fr E a b :=
 ⟨h.os,h.tape,h.output,h.size,fun i hi hd=>h.block i hi (fun e=>hd (s i e))⟩
theorem Fr.of_below {D:Nat→Prop}{w w':World}(h:Below w.heap.size w w'):Fr D w w' :=
 ⟨h.os,h.tape,h.output,h.size,fun k hk _=>h.block k hk⟩
theorem Fr.below {D:Nat→Prop}{w w':World}(h:Fr D w w') (hD:∀ k,¬ D k):Below w.heap.size w w' :=
 ⟨h.os,h.tape,h.output,h.size,fun k hk=>h.block k hk (hD k)⟩
theorem Fr.alloc {D:Nat→Prop}{a w:World}(h:Fr D a w) (o:Obj):Fr D a (w.alloc o) :=
 h.trans (E:=D) (.of_below ((Below.refl _ _).alloc (Nat.le_refl _) _)) (fun _ _ e=>e)
theorem Fr.setCell {D:Nat→Prop}{a w:World}(h:Fr D a w) {b o:Nat}(u:Value) (hp:D b∨a.heap.size≤b):Fr D a (w.setCell ⟨b,o,none⟩ u) :=
 ⟨h.os,h.tape,h.output,by have:=h.size;simpa using this,fun k hk hd=>by
  rw [Below.heap_setCell _ _ _ _ (by
   rcases hp with hp | hp
   ·intro e;simp at e;subst e;exact hd hp
   ·intro e;simp at e;omega)]
  exact h.block k hk hd⟩
theorem Fr.drewN {D:Nat→Prop}{a w:World}(h:Fr D a w) (n:Nat):Fr D a (w.drewN n):=⟨h.os,h.tape,h.output,h.size,h.block⟩
def Box (w:World) (b:Nat) (v:Value) (T:Nat):Prop:=w.heap[b]? = some (.cells #[v] T (0,0))
def SpotBox (w:World) (b:Nat) (v:Value):Prop:=w.heap[b]? = some (.cells #[v,.pointer none] 75 (0,0))
abbrev IV:=Nat×Value
def iv (x:IV):Value:=.iface x.1 x.2
abbrev Fin1:=Option IV
def Thrown (b0:Nat) (v:IV) (e:Ending) (w:World):Prop :=
 ∃ b,b0≤b∧e = .panicked [{ v:=.iface 80 (.pointer (some ⟨b,0,none⟩)),recovered:=false }]∧w.heap[b]? = some (.cells #[.int .u8 0,iv v,.pointer none] 157 (0,0))
def Ends1 (E:Fin1) (b0:Nat) (e:Ending) (w:World):Prop:=match E with
 | .none=>e = .returned (.tuple #[.agg #[.nilIface,.pointer none],.bool false])
 | .some v=>Thrown b0 v e w
def SameOn (F:Nat→Prop) (w w':World):Prop:=∀ k,F k→w'.heap[k]? = w.heap[k]?
theorem SameOn.refl (F:Nat→Prop) (w:World):SameOn F w w:=fun _ _=>rfl
theorem SameOn.trans {F:Nat→Prop}{a b c:World}(h:SameOn F a b) (k:SameOn F b c):SameOn F a c:=fun i hi=>(k i hi).trans (h i hi)
theorem SameOn.mono {F G:Nat→Prop}{a b:World}(h:SameOn G a b) (s:∀ k,F k→G k):SameOn F a b:=fun i hi=>h i (s i hi)
theorem Fr.same {D F:Nat→Prop}{a b:World}(h:Fr D a b) (hl:∀ k,F k→k < a.heap.size) (hd:∀ k,F k→¬ D k):SameOn F a b:=fun k hk=>h.block k (hl k hk) (hd k hk)
def Str:List IV→Fin1→(Nat→Prop)→(Nat→Prop)→World→Value→Prop
 | [],E,F,D,w,f=>∃ K cap,f = .func (.func K) #[] cap∧Enters Tryz.prog K∧(∀ k,F k→k < w.heap.size)∧(∀ k,D k→F k)∧
   ∀ w',SameOn F w w'→w.heap.size≤w'.heap.size→Calls Tryz.prog K cap w' fun e w''=>Fr D w' w''∧Ends1 E w'.heap.size e w''
 | v :: L,E,F,D,w,f=>∃ K cap,f = .func (.func K) #[] cap∧Enters Tryz.prog K∧(∀ k,F k→k < w.heap.size)∧(∀ k,D k→F k)∧
   ∀ w',SameOn F w w'→w.heap.size≤w'.heap.size→Calls Tryz.prog K cap w' fun e w''=>Fr D w' w''∧
    e = .returned (.tuple #[.agg #[iv v,.pointer none],.bool true])∧
    ∃ F' D',(∀ k,F' k→F k∨w'.heap.size≤k)∧(∀ k,D' k→D k∨w'.heap.size≤k)∧Str L E F' D' w'' f
theorem Str.lt {L:List IV}{E:Fin1}{F D:Nat→Prop}{w:World}{f:Value}(h:Str L E F D w f):∀ k,F k→k < w.heap.size:=by
 cases L <;> (obtain ⟨_,_,_,_,h,_⟩:=h;exact h)
theorem Str.sub {L:List IV}{E:Fin1}{F D:Nat→Prop}{w:World}{f:Value}(h:Str L E F D w f):∀ k,D k→F k:=by
 cases L <;> (obtain ⟨_,_,_,_,_,h,_⟩:=h;exact h)
theorem Str.shape {L:List IV}{E:Fin1}{F D:Nat→Prop}{w:World}{f:Value}(h:Str L E F D w f):∃ K cap,f = .func (.func K) #[] cap:=by
 cases L <;> (obtain ⟨K,cap,h,_⟩:=h;exact ⟨K,cap,h⟩)
theorem Str.move {L:List IV}{E:Fin1}{F D:Nat→Prop}{w w1:World}{f:Value}(h:Str L E F D w f) (hs:SameOn F w w1) (hl:w.heap.size≤w1.heap.size):Str L E F D w1 f:=by
 cases L <;>
 ·obtain ⟨K,cap,hf,hE,hF,hD,h⟩:=h
  exact ⟨K,cap,hf,hE,fun k hk=>Nat.lt_of_lt_of_le (hF k hk) hl,hD,fun w' hs' hl'=>h w' (hs.trans hs') (Nat.le_trans hl hl')⟩
theorem Str.after {L:List IV}{E:Fin1}{F D X:Nat→Prop}{w w1:World}{f:Value}(h:Str L E F D w f) (hs:Fr X w w1) (hd:∀ k,F k→¬ X k):Str L E F D w1 f :=
 h.move (hs.same h.lt hd) hs.size
theorem none_calls (w:World):Calls Tryz.prog 19 #[] w fun e w'=>e = .returned (.tuple #[.agg #[.nilIface,.pointer none],.bool false])∧Below w.heap.size w w':=by
 go_enter Tryz.func19,Tryz.ntmps19
 go_wp2
 exact bodyPost_ret (v:=.tuple #[.agg #[.nilIface,.pointer none],.bool false]) (by simp [results,Tryz.results19,go_sem]) rfl ⟨rfl,below_alloc _ _⟩
theorem enters_none:Enters Tryz.prog 19:=enters_of Tryz.func19 (by kernel_rfl) rfl
theorem none_str (w:World):Str [] .none (fun _=>False) (fun _=>False) w (.func (.func 19) #[] #[]) :=
 ⟨_,_,rfl,enters_none,fun _ h=>h.elim,fun _ h=>h.elim,fun w' _ _=>(none_calls w').mono fun e w'' ⟨h1,h2⟩=>⟨.of_below h2,h1⟩⟩
theorem heap_new2' (w:World) (o1 o2:Obj):((w.alloc o1).alloc o2).heap[w.heap.size+1]? = some o2:=by
 have:=heap_new (w.alloc o1) o2
 simpa using this
theorem Box.cell {w:World}{b:Nat}{v:Value}{T:Nat}(h:Box w b v T):w.cell? ⟨b,0,none⟩=some v:=cell_of_one h
theorem Box.free {w:World}{b:Nat}{v:Value}{T:Nat}(h:Box w b v T):w.frozen? ⟨b,0,none⟩=false:=free_of_one h
theorem Box.lt {w:World}{b:Nat}{v:Value}{T:Nat}(h:Box w b v T):b < w.heap.size:=lt_of_block h
theorem Box.new (w:World) (v:Value) (T:Nat):Box (w.alloc (.cells #[v] T)) w.heap.size v T:=heap_new _ _
theorem Box.set {w:World}{b:Nat}{v:Value}{T:Nat}(h:Box w b v T) (u:Value):Box (w.setCell ⟨b,0,none⟩ u) b u T:=one_setCell h
theorem Box.same {w w':World}{b:Nat}{v:Value}{T:Nat}(h:Box w b v T) (e:w'.heap[b]? = w.heap[b]?):Box w' b v T:=e.trans h
theorem SpotBox.c0 {w:World}{b:Nat}{v:Value}(h:SpotBox w b v):w.cell? ⟨b,0,none⟩=some v:=by simp [World.cell?,SpotBox] at *;simp [h]
theorem SpotBox.c1 {w:World}{b:Nat}{v:Value}(h:SpotBox w b v):w.cell? ⟨b,1,none⟩=some (.pointer none):=by simp [World.cell?,SpotBox] at *;simp [h]
theorem SpotBox.f0 {w:World}{b:Nat}{v:Value}(h:SpotBox w b v):w.frozen? ⟨b,0,none⟩=false:=by simp [World.frozen?,SpotBox] at *;simp [h]
theorem SpotBox.f1 {w:World}{b:Nat}{v:Value}(h:SpotBox w b v):w.frozen? ⟨b,1,none⟩=false:=by simp [World.frozen?,SpotBox] at *;simp [h]
theorem SpotBox.lt {w:World}{b:Nat}{v:Value}(h:SpotBox w b v):b < w.heap.size:=lt_of_block h
theorem SpotBox.new (w:World) (v:Value):SpotBox (w.alloc (.cells #[v,.pointer none] 75)) w.heap.size v:=heap_new _ _
theorem SpotBox.same {w w':World}{b:Nat}{v:Value}(h:SpotBox w b v) (e:w'.heap[b]? = w.heap[b]?):SpotBox w' b v:=e.trans h
theorem SpotBox.alloc {w:World}{b:Nat}{v:Value}(h:SpotBox w b v) (o:Obj):SpotBox (w.alloc o) b v:=h.same (Below.heap_alloc _ _ _ h.lt)
theorem SpotBox.facts {w:World}{b:Nat}{v:Value}(h:SpotBox w b v):w.cell? ⟨b,0,none⟩=some v∧w.cell? ⟨b,1,none⟩=some (.pointer none)∧w.frozen? ⟨b,0,none⟩=false∧w.frozen? ⟨b,1,none⟩=false∧b < w.heap.size:=⟨h.c0,h.c1,h.f0,h.f1,h.lt⟩
theorem one1_given {w:World}{g s:Nat}(hg:Box w g (.bool true) 4):Calls Tryz.prog 90 #[.pointer (some ⟨g,0,none⟩),.pointer (some ⟨s,0,none⟩)] w fun e w'=>e = .returned (.tuple #[.agg #[.nilIface,.pointer none],.bool false])∧Below w.heap.size w w':=by
 have h0:=hg.cell
 have h2:=hg.lt
 go_enter Tryz.func90,Tryz.ntmps90
 go_wp2_with (go_at_call 19;refine (none_calls _).mono ?_;rintro e w1 ⟨rfl,k1⟩;have q:SpotBox w1 w.heap.size .nilIface:=(SpotBox.new w .nilIface).same (k1.block _ (by simp));obtain ⟨q0,q1,q2,q3,q4⟩:=q.facts)
 exact bodyPost_ret (v:=.tuple #[.agg #[.nilIface,.pointer none],.bool false]) (by simp [results,Tryz.results90,go_sem,q4,q0,q1]) rfl ⟨rfl,((((below_alloc _ _).trans (k1.mono (by simp))).setCell (by simp) _).setCell (by simp) _)⟩
end Go.Proofs.Tryz
namespace Go.Proofs.Tryz
set_option maxHeartbeats 16000000
open Go.RowKit
set_option maxRecDepth 10000
abbrev Res:=Except IV IV
def Res.Is (r:Res) (b0:Nat) (e:Ending) (w:World):Prop:=match r with
 | .ok v=>e = .returned (.agg #[iv v,.pointer none])
 | .error v=>Thrown b0 v e w
def ToIs (C:Nat→Prop) (w:World) (g:Value) (x:IV) (r:Res):Prop :=
 ∃ K cap,g = .func (.func K) #[] cap∧Enters Tryz.prog K∧(∀ k,C k→k < w.heap.size)∧
  ∀ w',SameOn C w w'→w.heap.size≤w'.heap.size→Calls Tryz.prog K (#[.agg #[iv x,.pointer none]] ++ cap) w' fun e w''=>Below w'.heap.size w' w''∧r.Is w'.heap.size e w''
theorem ToIs.move {C:Nat→Prop}{w w1:World}{g:Value}{x:IV}{r:Res}(h:ToIs C w g x r) (hs:SameOn C w w1) (hl:w.heap.size≤w1.heap.size):ToIs C w1 g x r:=by
 obtain ⟨K,cap,e,hE,hC,h⟩:=h
 exact ⟨K,cap,e,hE,fun k hk=>Nat.lt_of_lt_of_le (hC k hk) hl,fun w' hs' hl'=>h w' (hs.trans hs') (Nat.le_trans hl hl')⟩
theorem new_not {w:World}{F D:Nat→Prop}(hF:∀ k,F k→k < w.heap.size) (hD:∀ k,D k→F k):¬ D w.heap.size:=fun e=>by have:=hF _ (hD _ e);omega
theorem mapped1_done {w:World}{ob tb K:Nat}{cap:Array Value}{F D:Nat→Prop}(ho:Box w ob (.func (.func K) #[] cap) 66) (hE:Enters Tryz.prog K) (hF:∀ k,F k→k < w.heap.size) (hD:∀ k,D k→F k)
  (h:∀ w',SameOn F w w'→w.heap.size≤w'.heap.size→Calls Tryz.prog K cap w' fun e w''=>Fr D w' w''∧e = .returned (.tuple #[.agg #[.nilIface,.pointer none],.bool false])) :
  Calls Tryz.prog 93 #[.pointer (some ⟨ob,0,none⟩),.pointer (some ⟨tb,0,none⟩)] w fun e w'=>Fr D w w'∧e = .returned (.tuple #[.agg #[.nilIface,.pointer none],.bool false]):=by
 have h0:=ho.cell
 have h2:=ho.lt
 have hE':∀ (args:Array Value) (w:World),(callFunc K args).run Tryz.prog w = .ok (.enter K args) w:=hE
 go_enter Tryz.func93,Tryz.ntmps93
 go_wp2_with (first
  | (go_at_call 19;refine (none_calls _).mono ?_;rintro e w2 ⟨rfl,k2⟩;have p:SpotBox w2 w.heap.size .nilIface:=(q.alloc _).same (k2.block _ (by simp;omega));obtain ⟨p0,p1,p2,p3,p4⟩:=p.facts)
  | (go_at_fn K;refine (h _ (fun k hk=>Below.heap_alloc _ _ _ (hF k hk)) (by simp)).mono ?_;rintro e w1 ⟨k1,rfl⟩;have q:SpotBox w1 w.heap.size .nilIface:=(SpotBox.new w .nilIface).same (k1.block _ (by simp) (new_not hF hD));obtain ⟨q0,q1,q2,q3,q4⟩:=q.facts))
 refine bodyPost_ret (v:=.tuple #[.agg #[.nilIface,.pointer none],.bool false]) (by simp [results,Tryz.results93,go_sem,p4,p0,p1]) rfl ⟨?_,rfl⟩
 exact ((((((Fr.refl D w).alloc _).trans k1 (fun _ _ e=>e)).alloc _).trans (Fr.of_below (D:=D) k2) (fun _ _ e=>e)).setCell _ (.inr (Nat.le_refl _))).setCell _ (.inr (Nat.le_refl _))
theorem enters_mapped1:Enters Tryz.prog 93:=enters_of Tryz.func93 (by kernel_rfl) rfl
theorem mapped_made {w:World}{K K2:Nat}{cap cap2:Array Value}:Calls Tryz.prog 45 #[.func (.func K) #[] cap,.func (.func K2) #[] cap2] w fun e w'=>e = .returned (.func (.func 93) #[] #[.pointer (some ⟨w.heap.size,0,none⟩),.pointer (some ⟨w.heap.size+1,0,none⟩)])∧Below w.heap.size w w'∧Box w' w.heap.size (.func (.func K) #[] cap) 66∧Box w' (w.heap.size+1) (.func (.func K2) #[] cap2) 133:=by
 go_enter Tryz.func45,Tryz.ntmps45
 go_wp2
 go_ret
 exact ⟨rfl,((below_alloc _ _).alloc (by simp) _),(Box.new w _ _).same (Below.heap_alloc _ _ _ (by simp)),heap_new2' w _ _⟩
def Res.Is' (r:Res) (b0:Nat) (e:Ending) (w:World):Prop:=match r with
 | .ok v=>e = .returned (iv v)
 | .error v=>Thrown b0 v e w
def VIs (C:Nat→Prop) (w:World) (g:Value) (x:IV) (r:Res):Prop :=
 ∃ K cap,g = .func (.func K) #[] cap∧Enters Tryz.prog K∧(∀ k,C k→k < w.heap.size)∧
  ∀ w',SameOn C w w'→w.heap.size≤w'.heap.size→Calls Tryz.prog K (#[iv x] ++ cap) w' fun e w''=>Below w'.heap.size w' w''∧r.Is' w'.heap.size e w''
theorem VIs.move {C:Nat→Prop}{w w1:World}{g:Value}{x:IV}{r:Res}(h:VIs C w g x r) (hs:SameOn C w w1) (hl:w.heap.size≤w1.heap.size):VIs C w1 g x r:=by
 obtain ⟨K,cap,e,hE,hC,h⟩:=h
 exact ⟨K,cap,e,hE,fun k hk=>Nat.lt_of_lt_of_le (hC k hk) hl,fun w' hs' hl'=>h w' (hs.trans hs') (Nat.le_trans hl hl')⟩
theorem below_alloc2 (w:World) (a b:Obj):Below w.heap.size w ((w.alloc a).alloc b):=(below_alloc _ _).alloc (by simp) _
theorem enters_valued1:Enters Tryz.prog 173:=enters_of Tryz.func173 (by kernel_rfl) rfl
end Go.Proofs.Tryz
namespace Go.Proofs.Tryz
set_option maxHeartbeats 16000000
open Go.RowKit
set_option maxRecDepth 10000
def ThenIs (C:Nat→Prop) (w:World) (g:Value) (x:IV) (l:List IV) (E:Fin1):Prop :=
 ∃ K cap,g = .func (.func K) #[] cap∧Enters Tryz.prog K∧(∀ k,C k→k < w.heap.size)∧
  ∀ w',SameOn C w w'→w.heap.size≤w'.heap.size→Calls Tryz.prog K (#[.agg #[iv x,.pointer none]] ++ cap) w' fun e w''=>Below w'.heap.size w' w''∧
   ∃ f F D,e = .returned f∧Str l E F D w'' f∧(∀ k,F k→C k∨w'.heap.size≤k)∧(∀ k,D k→w'.heap.size≤k)
theorem ThenIs.move {C:Nat→Prop}{w w1:World}{g:Value}{x:IV}{l:List IV}{E:Fin1}(h:ThenIs C w g x l E) (hs:SameOn C w w1) (hl:w.heap.size≤w1.heap.size):ThenIs C w1 g x l E:=by
 obtain ⟨K,cap,e,hE,hC,h⟩:=h
 exact ⟨K,cap,e,hE,fun k hk=>Nat.lt_of_lt_of_le (hC k hk) hl,fun w' hs' hl'=>h w' (hs.trans hs') (Nat.le_trans hl hl')⟩
theorem enters_each1:Enters Tryz.prog 97:=enters_of Tryz.func97 (by kernel_rfl) rfl
end Go.Proofs.Tryz
namespace Go.Proofs.Tryz
set_option maxHeartbeats 16000000
open Go.RowKit
set_option maxRecDepth 10000
theorem heap_new3 (w:World) (o1 o2 o3:Obj):(((w.alloc o1).alloc o2).alloc o3).heap[w.heap.size+2]? = some o3:=by
 have:=heap_new ((w.alloc o1).alloc o2) o3
 simpa using this
theorem heap_at2 (w:World) (o1 o2 o3:Obj):(((w.alloc o1).alloc o2).alloc o3).heap[w.heap.size+1]? = some o2:=by
 rw [Below.heap_alloc _ _ _ (by simp)]
 exact heap_new2' w o1 o2
theorem heap_at1 (w:World) (o1 o2 o3:Obj):(((w.alloc o1).alloc o2).alloc o3).heap[w.heap.size]? = some o1:=by
 rw [Below.heap_alloc _ _ _ (by simp;omega),Below.heap_alloc _ _ _ (by simp)]
 exact heap_new w o1
theorem below_alloc3 (w:World) (a b c:Obj):Below w.heap.size w (((w.alloc a).alloc b).alloc c):=(below_alloc2 w a b).alloc (by simp;omega) _
theorem each_made {w:World}{K K2:Nat}{cap cap2:Array Value}:Calls Tryz.prog 48 #[.func (.func K) #[] cap,.func (.func K2) #[] cap2] w fun e w'=>e = .returned (.func (.func 97) #[] #[.pointer (some ⟨w.heap.size+2,0,none⟩),.pointer (some ⟨w.heap.size,0,none⟩),.pointer (some ⟨w.heap.size+1,0,none⟩)])∧Below w.heap.size w w'∧Box w' w.heap.size (.func (.func K) #[] cap) 66∧Box w' (w.heap.size+1) (.func (.func K2) #[] cap2) 126∧Box w' (w.heap.size+2) (.func (.func 19) #[] #[]) 66:=by
 go_enter Tryz.func48,Tryz.ntmps48
 go_wp2
 go_ret
 exact ⟨rfl,below_alloc3 w _ _ _,heap_at1 w _ _ _,heap_at2 w _ _ _,heap_new3 w _ _ _⟩
def Outs (r:Res) (F D:Nat→Prop) (w:World) (f:Value):Prop:=match r with
 | .ok y=>Str [y] .none F D w f
 | .error y=>Str [] (.some y) F D w f
end Go.Proofs.Tryz
namespace Go.Proofs.Tryz
set_option maxHeartbeats 16000000
open Go.RowKit
set_option maxRecDepth 10000
theorem enters_behind1:Enters Tryz.prog 41:=enters_of Tryz.func41 (by kernel_rfl) rfl
theorem behind1_over {w:World}{rb vb sb:Nat}{f:Value}{F D:Nat→Prop}(hr:Box w rb f 66) (hv:Box w vb (.bool true) 4) (hvD:¬ D vb) (hS:Str [] .none F D w f) :
  Calls Tryz.prog 41 #[.pointer (some ⟨rb,0,none⟩),.pointer (some ⟨vb,0,none⟩),.pointer (some ⟨sb,0,none⟩)] w fun e w'=>Fr D w w'∧e = .returned (.tuple #[.agg #[.nilIface,.pointer none],.bool false]):=by
 have h0:=hr.cell
 have h2:=hr.lt
 have h3:=hv.lt
 obtain ⟨K,cap,rfl,hE,hF,hD,h⟩:=hS
 have hE':∀ (args:Array Value) (w:World),(callFunc K args).run Tryz.prog w = .ok (.enter K args) w:=hE
 simp only [Ends1] at h
 go_enter Tryz.func41,Tryz.ntmps41
 go_wp2_with (go_at_fn K;refine (h _ (fun k hk=>Below.heap_alloc _ _ _ (hF k hk)) (by simp)).mono ?_;rintro e w1 ⟨k1,rfl⟩;have q:SpotBox w1 w.heap.size .nilIface:=(SpotBox.new w .nilIface).same (k1.block _ (by simp) (new_not hF hD));obtain ⟨q0,q1,q2,q3,q4⟩:=q.facts;have t0:=(hv.same ((k1.block vb (by simp;omega) hvD).trans (Below.heap_alloc _ _ _ h3))).cell;have t1:vb < w1.heap.size:=by omega)
 refine bodyPost_ret (v:=.tuple #[.agg #[.nilIface,.pointer none],.bool false]) (by simp [results,Tryz.results41,go_sem,q4,q0,q1]) rfl ⟨?_,rfl⟩
 exact (((((Fr.refl D w).alloc _).trans k1 (fun _ _ e=>e)).setCell _ (.inr (Nat.le_refl _))).setCell _ (.inr (Nat.le_refl _))).alloc _
def SecIs (C:Nat→Prop) (w:World) (g:Value) (l:List IV) (E:Fin1):Prop :=
 ∃ K cap,g = .func (.func K) #[] cap∧Enters Tryz.prog K∧(∀ k,C k→k < w.heap.size)∧
  ∀ w',SameOn C w w'→w.heap.size≤w'.heap.size→Calls Tryz.prog K cap w' fun e w''=>Below w'.heap.size w' w''∧
   ∃ f F D,e = .returned f∧Str l E F D w'' f∧(∀ k,F k→C k∨w'.heap.size≤k)∧(∀ k,D k→w'.heap.size≤k)
theorem SecIs.move {C:Nat→Prop}{w w1:World}{g:Value}{l:List IV}{E:Fin1}(h:SecIs C w g l E) (hs:SameOn C w w1) (hl:w.heap.size≤w1.heap.size):SecIs C w1 g l E:=by
 obtain ⟨K,cap,e,hE,hC,h⟩:=h
 exact ⟨K,cap,e,hE,fun k hk=>Nat.lt_of_lt_of_le (hC k hk) hl,fun w' hs' hl'=>h w' (hs.trans hs') (Nat.le_trans hl hl')⟩
theorem sec_free {C F:Nat→Prop}{rb vb n:Nat}(hFC:∀ k,F k→C k∨n≤k) (hrC:¬ C rb) (hvC:¬ C vb) (h1:rb < n) (h2:vb < n):∀ k,F k→¬ (k=rb∨k=vb):=by
 intro k hk e
 rcases hFC _ hk with h | h
 ·rcases e with rfl | rfl
  ·exact hrC h
  ·exact hvC h
 ·omega
theorem sec_new {D:Nat→Prop}{m n:Nat}(h:∀ k,D k→m≤k) (hm:n < m):∀ k,D k→n < k:=fun k hk=>by have:=h k hk;omega
end Go.Proofs.Tryz
namespace Go.Proofs.Tryz
set_option maxHeartbeats 16000000
open Go.RowKit
set_option maxRecDepth 10000
def SomeOrThrown (l:List IV) (E:Fin1):Prop:=l≠[]∨∃ y,E = .some y
theorem behind_made {w:World}{K K2:Nat}{cap cap2:Array Value}:Calls Tryz.prog 18 #[.func (.func K) #[] cap,.func (.func K2) #[] cap2] w fun e w'=>e = .returned (.func (.func 41) #[] #[.pointer (some ⟨w.heap.size+1,0,none⟩),.pointer (some ⟨w.heap.size+2,0,none⟩),.pointer (some ⟨w.heap.size,0,none⟩)])∧Below w.heap.size w w'∧Box w' (w.heap.size+1) (.func (.func K) #[] cap) 66∧Box w' w.heap.size (.func (.func K2) #[] cap2) 76∧Box w' (w.heap.size+2) (.bool false) 4:=by
 go_enter Tryz.func18,Tryz.ntmps18
 go_wp2
 go_ret
 exact ⟨rfl,below_alloc3 w _ _ _,heap_at2 w _ _ _,heap_at1 w _ _ _,heap_new3 w _ _ _⟩
end Go.Proofs.Tryz
namespace Go.Proofs.Tryz
set_option maxHeartbeats 16000000
open Go.RowKit
set_option maxRecDepth 10000
def Arr (n0:Nat) (l:List IV) (w:World) (y:IV):Prop :=
 ∃ g cap,n0≤g∧g < w.heap.size∧l.length≤cap∧cap≤maxLen∧y=(86,.slice (some ⟨g,0,none⟩) l.length cap)∧∀ i (h:i < l.length),w.cell? ⟨g,i,none⟩=some (iv l[i])
theorem Arr.fr {X:Nat→Prop}{n0:Nat}{l:List IV}{w w':World}{y:IV}(h:Arr n0 l w y) (k:Fr X w w') (hX:∀ k,n0≤k→¬ X k):Arr n0 l w' y:=by
 obtain ⟨g,cap,h1,h2,h3,h4,h5,h6⟩:=h
 exact ⟨g,cap,h1,Nat.lt_of_lt_of_le h2 k.size,h3,h4,h5,fun i hi=>(World.cell?_of_block (w:=w) (k.block g h2 (hX g h1))).trans (h6 i hi)⟩
theorem Arr.low {n0 n1:Nat}{l:List IV}{w:World}{y:IV}(h:Arr n0 l w y) (hn:n1≤n0):Arr n1 l w y:=by
 obtain ⟨g,cap,h1,h⟩:=h
 exact ⟨g,cap,Nat.le_trans hn h1,h⟩
def OutArr (C:Nat→Prop) (w:World) (g:Value) (l:List IV):Prop :=
 ∃ K cap,g = .func (.func K) #[] cap∧Enters Tryz.prog K∧(∀ k,C k→k < w.heap.size)∧
  ∀ w',SameOn C w w'→w.heap.size≤w'.heap.size→Calls Tryz.prog K cap w' fun e w''=>Below w'.heap.size w' w''∧∃ y,e = .returned (iv y)∧Arr w'.heap.size l w'' y
theorem OutArr.move {C:Nat→Prop}{w w1:World}{g:Value}{l:List IV}(h:OutArr C w g l) (hs:SameOn C w w1) (hl:w.heap.size≤w1.heap.size):OutArr C w1 g l:=by
 obtain ⟨K,cap,e,hE,hC,h⟩:=h
 exact ⟨K,cap,e,hE,fun k hk=>Nat.lt_of_lt_of_le (hC k hk) hl,fun w' hs' hl'=>h w' (hs.trans hs') (Nat.le_trans hl hl')⟩
def StrArr (l:List IV) (F D:Nat→Prop) (w:World) (f:Value):Prop :=
 ∃ K cap,f = .func (.func K) #[] cap∧Enters Tryz.prog K∧(∀ k,F k→k < w.heap.size)∧(∀ k,D k→F k)∧
   ∀ w',SameOn F w w'→w.heap.size≤w'.heap.size→Calls Tryz.prog K cap w' fun e w''=>Fr D w' w''∧
    ∃ y,e = .returned (.tuple #[.agg #[iv y,.pointer none],.bool true])∧Arr w'.heap.size l w'' y∧
    ∃ F' D',(∀ k,F' k→F k∨w'.heap.size≤k)∧(∀ k,D' k→D k∨w'.heap.size≤k)∧Str [] .none F' D' w'' f
theorem StrArr.shape {l:List IV}{F D:Nat→Prop}{w:World}{f:Value}(h:StrArr l F D w f):∃ K cap,f = .func (.func K) #[] cap:=by
 obtain ⟨K,cap,h,_⟩:=h;exact ⟨K,cap,h⟩
theorem StrArr.lt {l:List IV}{F D:Nat→Prop}{w:World}{f:Value}(h:StrArr l F D w f):∀ k,F k→k < w.heap.size:=by
 obtain ⟨_,_,_,_,h,_⟩:=h;exact h
theorem StrArr.move {l:List IV}{F D:Nat→Prop}{w w1:World}{f:Value}(h:StrArr l F D w f) (hs:SameOn F w w1) (hl:w.heap.size≤w1.heap.size):StrArr l F D w1 f:=by
 obtain ⟨K,cap,hf,hE,hF,hD,h⟩:=h
 exact ⟨K,cap,hf,hE,fun k hk=>Nat.lt_of_lt_of_le (hF k hk) hl,hD,fun w' hs' hl'=>h w' (hs.trans hs') (Nat.le_trans hl hl')⟩
theorem enters_worked1:Enters Tryz.prog 167:=enters_of Tryz.func167 (by kernel_rfl) rfl
theorem worked1_given {w:World}{g s:Nat}(hg:Box w g (.bool true) 4):Calls Tryz.prog 167 #[.pointer (some ⟨g,0,none⟩),.pointer (some ⟨s,0,none⟩)] w fun e w'=>e = .returned (.tuple #[.agg #[.nilIface,.pointer none],.bool false])∧Below w.heap.size w w':=by
 have h0:=hg.cell
 have h2:=hg.lt
 go_enter Tryz.func167,Tryz.ntmps167
 go_wp2_with (go_at_call 19;refine (none_calls _).mono ?_;rintro e w1 ⟨rfl,k1⟩;have q:SpotBox w1 w.heap.size .nilIface:=(SpotBox.new w .nilIface).same (k1.block _ (by simp));obtain ⟨q0,q1,q2,q3,q4⟩:=q.facts)
 exact bodyPost_ret (v:=.tuple #[.agg #[.nilIface,.pointer none],.bool false]) (by simp [results,Tryz.results167,go_sem,q4,q0,q1]) rfl ⟨rfl,((((below_alloc _ _).trans (k1.mono (by simp))).setCell (by simp) _).setCell (by simp) _)⟩
end Go.Proofs.Tryz
namespace Go.Proofs.Tryz
set_option maxHeartbeats 16000000
open Go.RowKit
set_option maxRecDepth 10000
theorem StrArr.after {l:List IV}{F D X:Nat→Prop}{w w1:World}{f:Value}(h:StrArr l F D w f) (hs:Fr X w w1) (hd:∀ k,F k→¬ X k):StrArr l F D w1 f :=
 h.move (hs.same h.lt hd) hs.size
def SecArr (C:Nat→Prop) (w:World) (g:Value) (l:List IV):Prop :=
 ∃ K cap,g = .func (.func K) #[] cap∧Enters Tryz.prog K∧(∀ k,C k→k < w.heap.size)∧
  ∀ w',SameOn C w w'→w.heap.size≤w'.heap.size→Calls Tryz.prog K cap w' fun e w''=>Below w'.heap.size w' w''∧
   ∃ f F D,e = .returned f∧StrArr l F D w'' f∧(∀ k,F k→C k∨w'.heap.size≤k)∧(∀ k,D k→w'.heap.size≤k)
theorem SecArr.move {C:Nat→Prop}{w w1:World}{g:Value}{l:List IV}(h:SecArr C w g l) (hs:SameOn C w w1) (hl:w.heap.size≤w1.heap.size):SecArr C w1 g l:=by
 obtain ⟨K,cap,e,hE,hC,h⟩:=h
 exact ⟨K,cap,e,hE,fun k hk=>Nat.lt_of_lt_of_le (hC k hk) hl,fun w' hs' hl'=>h w' (hs.trans hs') (Nat.le_trans hl hl')⟩
end Go.Proofs.Tryz
