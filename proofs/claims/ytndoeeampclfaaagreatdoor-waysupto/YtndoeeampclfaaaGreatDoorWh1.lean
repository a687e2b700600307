import Derived.Test.YtndoeeampclfaaaGreatDoorCanon1
import Derived.Test.YtndoeeampclfaaaGreatDoorStep7
import Derived.Deep.AppendLies
set_option linter.all false
namespace Go.Proofs.Tryz
set_option maxHeartbeats 16000000
open Go.RowKit Go.Shelf
set_option maxRecDepth 100000
attribute [local go_sem] Oper.semAt_some
theorem wpListIn_append_lies {F:Fence}{n:Nat}{P:Program}(w:World) {ops:Array Oper}{rest:List Oper}{o:Oper}{a:Act}{Q:Exit→Act→World→Prop}
  (hg:o.guard=none) (s x:Operand) (t:TypeId) (hop:o.op=Op.call { callee:=Callee.builtin Builtin.append,args:=#[s,x],argTypes:=#[t,t] })
  (base:Nat) (e:TypeId) (i:TypeInfo) (z:Value) (size bytes:Nat) (h1:P.underlying t=some (.slice e)) (h2:P.info? e=some i) (h3:i.zero=some z) (h4:i.size=size) (h5:i.bytes=bytes) (h6:z.cells.size=size) (h7:0 < size)
  (v:Value) (k:Nat) (xs:List Value) (hs:a.eval s=v) (hown:w.ownsRow base e size v k xs) (ad:Addr) (m c:Nat) (news:List Value) (hx:a.eval x = .slice (some ad) m c) (hn:news.length=m * size)
  (hc:∀ j u,news[j]? = some u→w.cell? (ad.add j)=some u) (h1c:∀ u∈news,u.oneCell'=true) (hm:0 < m) (b1:k+m≤maxLen) (b2:(k+m) * bytes≤140737488355328) (b3:base≤w.heap.size) (H:Nat) (hH:w.heap.size=H)
  (hK:∀ g cap w',w'.ownsRow base e size (.slice (some ⟨g,0,none⟩) (k+m) cap) (k+m) (xs ++ news)→w.grownBy w' v.ownBlock→(v.ownBlock=some g∨g=H)→g < w'.heap.size→wpListIn F n P ops Q rest (a.put o.dst (.slice (some ⟨g,0,none⟩) (k+m) cap)) w') :
  wpListIn F n P ops Q (o :: rest) a w:=by
 refine wpListIn_plain hg fun K hK'=>?_
 obtain ⟨g,cap,w',hrun,r1,r2,r3,r4⟩:=run_append_lies (P:=P) w t o.type base e i z size bytes h1 h2 h3 h4 h5 h6 h7 v k xs hown ad m c news hn hc h1c hm b1 b2 b3 H hH
 unfold Oper.wpIn
 refine ⟨?_,?_⟩
 ·simp [Oper.about,hop,resolve,Target.leads,Sem.run_pure]
 ·rw [Oper.semAt_plain F _ _ (by rw [hop];intro c hc';cases hc')]
  simp [execOp,hop,resolve,invoke,builtin,hs,hx,hrun,Result.andThen]
  exact hK' _ _ (hK g cap w' r1 r2 r3 r4)
def CS (w:World) (N dB lB:Nat) (rc:Loop) (F:Nat→Prop) (pre:List IV) (W:World):Prop :=
 N=w.heap.size∧N+2 < dB∧dB < lB∧∃ v,Box W (N+2) v 86∧W.ownsRow N 32 1 v pre.length (pre.map iv)∧W.heap[lB]? = some (.loop rc)∧W.heap[dB]? = some (.deferred (some []))∧Below N w W∧(∀ k,F k→k≠N+2∧k≠dB∧k≠lB∧some k≠v.ownBlock)
theorem CS.fr {w:World}{N dB lB:Nat}{rc:Loop}{F F' D:Nat→Prop}{pre:List IV}{W W':World}(h:CS w N dB lB rc F pre W) (k:Fr D W W') (hD:∀ k,D k→F k) (hN:∀ k,D k→N≤k) (hF':∀ k,F' k→F k∨W.heap.size≤k):CS w N dB lB rc F' pre W':=by
 obtain ⟨hNw,o1,o2,v,b,ow,hl,hd,hb,hf⟩:=h
 have lb:=b.lt
 have ll:=lt_of_block hl
 have ld:=lt_of_block hd
 have hsz:=hb.size
 refine ⟨hNw,o1,o2,v,b.same (k.block _ lb (fun e=>(hf _ (hD _ e)).1 rfl)),owns_same ow (fun q hq=>k.block q (ow.lt q hq).2 (fun e=>(hf _ (hD _ e)).2.2.2 hq.symm)),(k.block _ ll (fun e=>(hf _ (hD _ e)).2.2.1 rfl)).trans hl,(k.block _ ld (fun e=>(hf _ (hD _ e)).2.1 rfl)).trans hd,hb.trans ⟨k.os,k.tape,k.output,k.size,fun j hj=>k.block j (by omega) (fun e=>by have:=hN _ e;omega)⟩,?_⟩
 intro j hj
 rcases hF' j hj with e | e
 ·exact hf j e
 ·refine ⟨by omega,by omega,by omega,fun q=>?_⟩
  have:=(ow.lt j q.symm).2
  omega
theorem CS.alloc {w:World}{N dB lB:Nat}{rc:Loop}{F:Nat→Prop}{pre:List IV}{W:World}(h:CS w N dB lB rc F pre W) (o:Obj):CS w N dB lB rc F pre (W.alloc o) :=
 h.fr (D:=fun _=>False) ((Fr.refl _ _).alloc _) (fun _ e=>e.elim) (fun _ e=>e.elim) (fun _ e=>.inl e)
theorem CS.put {w:World}{N dB lB:Nat}{rc rc':Loop}{F:Nat→Prop}{pre:List IV}{W:World}(h:CS w N dB lB rc F pre W):CS w N dB lB rc' F pre (W.putObj lB (.loop rc')):=by
 obtain ⟨hNw,o1,o2,v,b,ow,hl,hd,hb,hf⟩:=h
 have ll:=lt_of_block hl
 have hsz:=hb.size
 have ht:∀ k,k≠lB→(W.putObj lB (.loop rc')).heap[k]? = W.heap[k]?:=fun k hk=>World.putObj_heap_other hk
 refine ⟨hNw,o1,o2,v,b.same (ht _ (by omega)),owns_same ow (fun q hq=>ht q ?_),World.putObj_heap_same ll,(ht _ (by omega)).trans hd,hb.trans ⟨rfl,rfl,rfl,by simp [World.putObj],fun k hk=>ht k (by omega)⟩,hf⟩
 intro e
 subst e
 rcases ow.2 with ⟨rfl,_⟩ | ⟨g,cap,cur,rfl,_,hg,_⟩
 ·simp [Value.ownBlock] at hq
 ·simp [Value.ownBlock] at hq
  subst hq
  rw [hg] at hl
  cases hl
theorem CS.came {w:World}{N dB lB:Nat}{rc:Loop}{F:Nat→Prop}{pre:List IV}{W W1:World}{x:IV}{v:Value}{g cap:Nat}{o:Obj}(hNw:N=w.heap.size) (o1:N+2 < dB) (o2:dB < lB) (b:Box W (N+2) v 86) (ow:W.ownsRow N 32 1 v pre.length (pre.map iv)) (hl:W.heap[lB]? = some (.loop rc)) (hd:W.heap[dB]? = some (.deferred (some []))) (hb:Below N w W) (hf:∀ k,F k→k≠N+2∧k≠dB∧k≠lB∧some k≠v.ownBlock) (hF:∀ k,F k→k < W.heap.size)
  (ow1:W1.ownsRow N 32 1 (.slice (some ⟨g,0,none⟩) (pre.length+1) cap) (pre.length+1) (pre.map iv ++ [iv x])) (hgr:(W.alloc o).grownBy W1 v.ownBlock) (hat:v.ownBlock=some g∨g=W.heap.size+1) :
  CS w N dB lB rc F (pre ++ [x]) (W1.setCell ⟨N+2,0,none⟩ (.slice (some ⟨g,0,none⟩) (pre.length+1) cap))∧Fr (fun k=>k=N+2∨some k=v.ownBlock) W (W1.setCell ⟨N+2,0,none⟩ (.slice (some ⟨g,0,none⟩) (pre.length+1) cap)):=by
 have hsz:=hb.size
 have lb:=b.lt
 have ll:=lt_of_block hl
 have ld:=lt_of_block hd
 have own_ne:∀ k o',W.heap[k]? = some o'→(∀ cs,o'≠.cells cs 32 (0,0))→some k≠v.ownBlock:=by
  intro k o' hk ho e
  rcases ow.2 with ⟨rfl,_⟩ | ⟨g',cap',cur,rfl,_,hg,_⟩
  ·simp [Value.ownBlock] at e
  ·simp [Value.ownBlock] at e
   subst e
   rw [hk] at hg
   exact ho _ (Option.some.inj hg)
 have n1:=own_ne _ _ b (fun cs e=>by simp at e)
 have n2:=own_ne _ _ hl (fun cs e=>by cases e)
 have n3:=own_ne _ _ hd (fun cs e=>by cases e)
 have hg1:∀ k,k < W.heap.size→some k≠v.ownBlock→W1.heap[k]? = W.heap[k]?:=fun k hk e=>(hgr.block k (by simp;omega) e).trans ((below_alloc W o).block k hk)
 have hgs:=hgr.size
 simp at hgs
 have gN:N+2≠g:=by
  rcases hat with h | h
  ·intro e;subst e;exact n1 h.symm
  ·omega
 have hset:∀ k,k≠N+2→(W1.setCell ⟨N+2,0,none⟩ (.slice (some ⟨g,0,none⟩) (pre.length+1) cap)).heap[k]? = W1.heap[k]?:=fun k hk=>Below.heap_setCell _ _ _ _ (by simpa using hk)
 have fr0:Fr (fun k=>some k=v.ownBlock) W W1:=((Fr.refl _ W).alloc o).trans (E:=fun k=>some k=v.ownBlock) ⟨hgr.os,hgr.tape,hgr.output,hgr.size,fun k hk e=>hgr.block k hk e⟩ (fun _ _ e=>e)
 have fr1:Fr (fun k=>k=N+2∨some k=v.ownBlock) W (W1.setCell ⟨N+2,0,none⟩ (.slice (some ⟨g,0,none⟩) (pre.length+1) cap)):=(fr0.mono (fun _ e=>.inr e)).setCell _ (.inl (.inl rfl))
 refine ⟨⟨hNw,o1,o2,_,(b.same (hg1 _ lb n1)).set _,?_,(hset _ (by omega)).trans ((hg1 _ ll n2).trans hl),(hset _ (by omega)).trans ((hg1 _ ld n3).trans hd),?_,?_⟩,fr1⟩
 ·rw [List.length_append,List.length_singleton,List.map_append]
  exact owns_same ow1 (fun q hq=>hset q (by simp [Value.ownBlock] at hq;omega))
 ·refine hb.trans ⟨fr1.os,fr1.tape,fr1.output,fr1.size,fun k hk=>fr1.block k (by omega) ?_⟩
  rintro (e | e)
  ·omega
  ·have:=(ow.lt k e.symm).1
   omega
 ·intro k hk
  obtain ⟨f1,f2,f3,f4⟩:=hf k hk
  refine ⟨f1,f2,f3,fun e=>?_⟩
  simp [Value.ownBlock] at e
  subst e
  rcases hat with h | h
  ·exact f4 h.symm
  ·have:=hF _ hk;omega
end Go.Proofs.Tryz
namespace Go.Proofs.Tryz
set_option maxHeartbeats 16000000
open Go.RowKit Go.Shelf
set_option maxRecDepth 100000
attribute [local go_sem] Oper.semAt_some
theorem range_method {n:Nat}{P:Program}{g:Operand}{ps:Array Tmp}{assign body:Code}{Q:Exit→Act→World→Prop}{a:Act}{w:World}{gf:Nat}{recv:Value}(h1:1≤n) (hg:a.eval g = .func (.func gf) #[recv] #[]) (eg:∀ args w,(callFunc gf args).run P w = .ok (.enter gf args) w)
  (h:∀ fn,CallsIn Fence.wide (n - 1) P gf #[recv,.func (.yield (w.heap.size+1)) #[] #[]] ((w.alloc (.deferred (some []))).alloc (.loop { state:=.ready,pending:=none,fn,tmps:=a.tmps,params:=ps,assign,body,defers:=w.heap.size }))
   (rangePost Fence.wide n P (w.heap.size+1) Q { a with defers:=[{ target:=.collected w.heap.size,args:=#[] }] ++ a.defers })) :
  (Code.rangeFunc g ps assign body).wpIn Fence.wide n P Q a w:=by
 refine wpIn_rangeFunc ?_
 intro fn _
 refine ⟨w.heap.size+1,[{ target:=.collected w.heap.size,args:=#[] }],_,{ target:=.fn (.func gf) #[],args:=#[recv,.func (.yield (w.heap.size+1)) #[] #[]] },(w.alloc (.deferred (some []))).alloc (.loop { state:=.ready,pending:=none,fn,tmps:=a.tmps,params:=ps,assign,body,defers:=w.heap.size }),gf,
  #[recv,.func (.yield (w.heap.size+1)) #[] #[]],(w.alloc (.deferred (some []))).alloc (.loop { state:=.ready,pending:=none,fn,tmps:=a.tmps,params:=ps,assign,body,defers:=w.heap.size }),run_enterLoop_outer _ _ _ _ _,?_,?_,?_,fun _=>h1,h fn⟩
 ·simp only [resolve,hg]
  simp [go_sem]
 ·intro f' hf';trivial
 ·simp [invoke,go_sem,eg]
theorem owns_shape1 {w:World}{B e n:Nat}{v:Value}{xs:List Value}(h:w.ownsRow B e 1 v n xs):∃ a l c,v = .slice a l c:=by
 rcases h.2 with ⟨rfl,_⟩ | ⟨g,cap,cur,rfl,_⟩
 ·exact ⟨_,_,_,rfl⟩
 ·exact ⟨_,_,_,rfl⟩
end Go.Proofs.Tryz
namespace Go.Proofs.Tryz
set_option maxHeartbeats 16000000
open Go.RowKit
set_option maxRecDepth 10000
abbrev Sp:=IV×Option Addr
def spv (s:Sp):Value:=.agg #[iv s.1,.pointer s.2]
abbrev SP:=World→Sp→Prop
def HoldsP (P:SP) (G:Nat→Prop) (w:World) (s:Sp):Prop:=(∀ k,G k→k < w.heap.size)∧∀ w',SameOn G w w'→w.heap.size≤w'.heap.size→P w' s
theorem HoldsP.here {P:SP}{G:Nat→Prop}{w:World}{s:Sp}(h:HoldsP P G w s):P w s:=h.2 w (SameOn.refl _ _) (Nat.le_refl _)
theorem HoldsP.move {P:SP}{G:Nat→Prop}{w w1:World}{s:Sp}(h:HoldsP P G w s) (hs:SameOn G w w1) (hl:w.heap.size≤w1.heap.size):HoldsP P G w1 s :=
 ⟨fun k hk=>Nat.lt_of_lt_of_le (h.1 k hk) hl,fun w' a b=>h.2 w' (hs.trans a) (Nat.le_trans hl b)⟩
theorem HoldsP.after {P:SP}{G X:Nat→Prop}{w w1:World}{s:Sp}(h:HoldsP P G w s) (hs:Fr X w w1) (hd:∀ k,G k→¬ X k):HoldsP P G w1 s :=
 h.move (hs.same h.1 hd) hs.size
theorem HoldsP.to {P Q:SP}{G:Nat→Prop}{w:World}{s s':Sp}(h:HoldsP P G w s) (hPQ:∀ w',P w' s→Q w' s'):HoldsP Q G w s':=⟨h.1,fun w' a b=>hPQ w' (h.2 w' a b)⟩
theorem HoldsP.more {P:SP}{G G':Nat→Prop}{w:World}{s:Sp}(h:HoldsP P G w s) (hG:∀ k,G k→G' k) (hl:∀ k,G' k→k < w.heap.size):HoldsP P G' w s:=⟨hl,fun w' a b=>h.2 w' (a.mono hG) b⟩
def StG:List SP→(Nat→Prop)→(Nat→Prop)→World→Value→Prop
 | [],F,D,w,f=>∃ K cap,f = .func (.func K) #[] cap∧Enters Tryz.prog K∧(∀ k,F k→k < w.heap.size)∧(∀ k,D k→F k)∧
   ∀ w',SameOn F w w'→w.heap.size≤w'.heap.size→Calls Tryz.prog K cap w' fun e w''=>Fr D w' w''∧e = .returned (.tuple #[.agg #[.nilIface,.pointer none],.bool false])
 | P :: L,F,D,w,f=>∃ K cap,f = .func (.func K) #[] cap∧Enters Tryz.prog K∧(∀ k,F k→k < w.heap.size)∧(∀ k,D k→F k)∧
   ∀ w',SameOn F w w'→w.heap.size≤w'.heap.size→Calls Tryz.prog K cap w' fun e w''=>Fr D w' w''∧
    ∃ s G F' D',e = .returned (.tuple #[spv s,.bool true])∧HoldsP P G w'' s∧StG L F' D' w'' f∧(∀ k,F' k→F k∨w'.heap.size≤k)∧(∀ k,D' k→D k∨w'.heap.size≤k)∧(∀ k,G k→F k∨w'.heap.size≤k)∧(∀ k,G k→¬ D' k)
theorem StG.lt {L:List SP}{F D:Nat→Prop}{w:World}{f:Value}(h:StG L F D w f):∀ k,F k→k < w.heap.size:=by
 cases L <;> (obtain ⟨_,_,_,_,h,_⟩:=h;exact h)
theorem StG.sub {L:List SP}{F D:Nat→Prop}{w:World}{f:Value}(h:StG L F D w f):∀ k,D k→F k:=by
 cases L <;> (obtain ⟨_,_,_,_,_,h,_⟩:=h;exact h)
theorem StG.shape {L:List SP}{F D:Nat→Prop}{w:World}{f:Value}(h:StG L F D w f):∃ K cap,f = .func (.func K) #[] cap:=by
 cases L <;> (obtain ⟨K,cap,h,_⟩:=h;exact ⟨K,cap,h⟩)
theorem StG.enters {L:List SP}{F D:Nat→Prop}{w:World}{K:Nat}{cap:Array Value}(h:StG L F D w (.func (.func K) #[] cap)):Enters Tryz.prog K:=by
 cases L <;> (obtain ⟨K',cap',e,hE,_⟩:=h;cases e;exact hE)
theorem StG.move {L:List SP}{F D:Nat→Prop}{w w1:World}{f:Value}(h:StG L F D w f) (hs:SameOn F w w1) (hl:w.heap.size≤w1.heap.size):StG L F D w1 f:=by
 cases L <;>
 ·obtain ⟨K,cap,hf,hE,hF,hD,h⟩:=h
  exact ⟨K,cap,hf,hE,fun k hk=>Nat.lt_of_lt_of_le (hF k hk) hl,hD,fun w' hs' hl'=>h w' (hs.trans hs') (Nat.le_trans hl hl')⟩
theorem StG.after {L:List SP}{F D X:Nat→Prop}{w w1:World}{f:Value}(h:StG L F D w f) (hs:Fr X w w1) (hd:∀ k,F k→¬ X k):StG L F D w1 f :=
 h.move (hs.same h.lt hd) hs.size
theorem StG.ofNone {F D:Nat→Prop}{w:World}{f:Value}(h:Str [] .none F D w f):StG [] F D w f:=by
 obtain ⟨K,cap,hf,hE,hF,hD,h⟩:=h
 exact ⟨K,cap,hf,hE,hF,hD,h⟩
theorem StG.toNone {F D:Nat→Prop}{w:World}{f:Value}(h:StG [] F D w f):Str [] .none F D w f:=by
 obtain ⟨K,cap,hf,hE,hF,hD,h⟩:=h
 exact ⟨K,cap,hf,hE,hF,hD,h⟩
def Just (s:Sp):SP:=fun _ t=>t=s
def ToG (C:Nat→Prop) (w:World) (g:Value) (P Q:SP):Prop :=
 ∃ K cap,g = .func (.func K) #[] cap∧Enters Tryz.prog K∧(∀ k,C k→k < w.heap.size)∧
  ∀ w' s G,SameOn C w w'→w.heap.size≤w'.heap.size→HoldsP P G w' s→Calls Tryz.prog K (#[spv s] ++ cap) w' fun e w''=>Below w'.heap.size w' w''∧∃ s' G',e = .returned (spv s')∧HoldsP Q G' w'' s'∧∀ k,G' k→C k∨G k∨w'.heap.size≤k
theorem ToG.move {C:Nat→Prop}{w w1:World}{g:Value}{P Q:SP}(h:ToG C w g P Q) (hs:SameOn C w w1) (hl:w.heap.size≤w1.heap.size):ToG C w1 g P Q:=by
 obtain ⟨K,cap,e,hE,hC,h⟩:=h
 exact ⟨K,cap,e,hE,fun k hk=>Nat.lt_of_lt_of_le (hC k hk) hl,fun w' s G hs' hl'=>h w' s G (hs.trans hs') (Nat.le_trans hl hl')⟩
theorem mapped1_g {w:World}{ob tb:Nat}{f g:Value}{P Q:SP}{L:List SP}{F D C:Nat→Prop}(ho:Box w ob f 66) (ht:Box w tb g 133) (hS:StG (P :: L) F D w f) (hT:ToG C w g P Q) (hCD:∀ k,C k→¬ D k) (htD:¬ D tb) :
  Calls Tryz.prog 93 #[.pointer (some ⟨ob,0,none⟩),.pointer (some ⟨tb,0,none⟩)] w fun e w'=>Fr D w w'∧∃ s G F' D',e = .returned (.tuple #[spv s,.bool true])∧HoldsP Q G w' s∧StG L F' D' w' f∧(∀ k,F' k→F k∨w.heap.size < k)∧(∀ k,D' k→D k∨w.heap.size < k)∧(∀ k,G k→F k∨C k∨w.heap.size < k)∧(∀ k,G k→¬ D' k):=by
 have h0:=ho.cell
 have h2:=ho.lt
 obtain ⟨K,cap,rfl,hE,hF,hD,h⟩:=hS
 obtain ⟨K2,cap2,rfl,hE2,hC,h'⟩:=hT
 have hE':∀ (args:Array Value) (w:World),(callFunc K args).run Tryz.prog w = .ok (.enter K args) w:=hE
 have hE2':∀ (args:Array Value) (w:World),(callFunc K2 args).run Tryz.prog w = .ok (.enter K2 args) w:=hE2
 have H:Aside (∀ w',SameOn F w w'→w.heap.size≤w'.heap.size→Calls Tryz.prog K cap w' fun e w''=>Fr D w' w''∧∃ s G F' D',e = .returned (.tuple #[spv s,.bool true])∧HoldsP P G w'' s∧StG L F' D' w'' (.func (.func K) #[] cap)∧(∀ k,F' k→F k∨w'.heap.size≤k)∧(∀ k,D' k→D k∨w'.heap.size≤k)∧(∀ k,G k→F k∨w'.heap.size≤k)∧(∀ k,G k→¬ D' k)):=h
 have H':Aside (∀ w' s G,SameOn C w w'→w.heap.size≤w'.heap.size→HoldsP P G w' s→Calls Tryz.prog K2 (#[spv s] ++ cap2) w' fun e w''=>Below w'.heap.size w' w''∧∃ s' G',e = .returned (spv s')∧HoldsP Q G' w'' s'∧∀ k,G' k→C k∨G k∨w'.heap.size≤k):=h'
 clear h h'
 have hbl:∀ o,Below w.heap.size w (w.alloc o):=fun o=>below_alloc w o
 go_enter Tryz.func93,Tryz.ntmps93
 go_wp2_with (first
  | (go_at_fn K2;refine (H'.out _ ((T,u),q) G (fun k hk=>(Below.heap_alloc _ _ _ (by have:=hC k hk;omega)).trans ((k1.block k (by have:=hC k hk;simp;omega) (hCD k hk)).trans (Below.heap_alloc _ _ _ (hC k hk)))) (by simp;omega) (hP.after (X:=fun _=>False) ((Fr.refl _ _).alloc _) (fun _ _ e=>e))).mono ?_;rintro e w2 ⟨k2,⟨⟨T',u'⟩,q'⟩,G',rfl,hQ,hG'⟩;simp only [spv,iv];have p:SpotBox w2 w.heap.size .nilIface:=(qb.alloc _).same (k2.block _ (by simp;omega));obtain ⟨p0,p1,p2,p3,p4⟩:=p.facts)
  | (go_at_fn K;refine (H.out _ (fun k hk=>Below.heap_alloc _ _ _ (hF k hk)) (by simp)).mono ?_;rintro e w1 ⟨k1,⟨⟨T,u⟩,q⟩,G,F',D',rfl,hP,hS',hF',hD',hG,hGD⟩;simp only [spv,iv];have qb:SpotBox w1 w.heap.size .nilIface:=(SpotBox.new w .nilIface).same (k1.block _ (by simp) (new_not hF hD));obtain ⟨q0,q1,q2,q3,q4⟩:=qb.facts;have t0:=(ht.same ((k1.block tb (by have:=ht.lt;simp;omega) htD).trans (Below.heap_alloc _ _ _ ht.lt))).cell;have t1:tb < w1.heap.size:=by have:=ht.lt;omega))
 have hl1:w.heap.size+1≤w1.heap.size:=by have:=k1.size;simpa using this
 have hl2:w1.heap.size+1≤w2.heap.size:=by have:=k2.size;simpa using this
 have hFl:=hS'.lt
 have hDs:=hS'.sub
 simp only [World.size_alloc] at hF' hD' hG hG'
 have fe:Fr (· = w.heap.size) w1 ((w2.setCell ⟨w.heap.size,0,none⟩ (.iface T' u')).setCell ⟨w.heap.size,1,none⟩ (.pointer q')):=((((Fr.refl (· = w.heap.size) w1).alloc _).trans (Fr.of_below (D:=fun _=>False) k2) (fun _ _ e=>e.elim)).setCell _ (.inl rfl)).setCell _ (.inl rfl)
 have f2:Fr (· = w.heap.size) w2 ((w2.setCell ⟨w.heap.size,0,none⟩ (.iface T' u')).setCell ⟨w.heap.size,1,none⟩ (.pointer q')):=((Fr.refl (· = w.heap.size) w2).setCell _ (.inl rfl)).setCell _ (.inl rfl)
 refine bodyPost_ret (v:=.tuple #[.agg #[.iface T' u',.pointer q'],.bool true]) (by simp [results,Tryz.results93,go_sem,p4,p0,p1]) rfl ⟨?_,((T',u'),q'),G',F',D',rfl,?_,?_,?_,?_,?_,?_⟩
 ·exact ((((((Fr.refl D w).alloc _).trans k1 (fun _ _ e=>e)).alloc _).trans (Fr.of_below (D:=D) k2) (fun _ _ e=>e)).setCell _ (.inr (Nat.le_refl _))).setCell _ (.inr (Nat.le_refl _))
 ·exact hQ.after f2 (by grind)
 ·exact hS'.after fe (by grind)
 ·grind
 ·grind
 ·grind
 ·grind
theorem mapped_g {C:Nat→Prop}{ob tb:Nat}{f g:Value}:∀ {L:List (SP×SP)}{w:World}{F D:Nat→Prop},Box w ob f 66→Box w tb g 133→StG (L.map (·.1)) F D w f→(∀ k,C k→k < w.heap.size)→(∀ x∈L,ToG C w g x.1 x.2)→(∀ k,C k→¬ D k)→¬ D tb→¬ D ob→
  StG (L.map (·.2)) (fun k=>F k∨C k∨k=ob∨k=tb) D w (.func (.func 93) #[] #[.pointer (some ⟨ob,0,none⟩),.pointer (some ⟨tb,0,none⟩)])
 | [],w,F,D,ho,ht,hS,hC,_,hCD,htD,hoD=>by
  obtain ⟨K,cap,rfl,hE,hF,hD,h⟩:=hS
  have hol:=ho.lt
  have htl:=ht.lt
  refine ⟨_,_,rfl,enters_mapped1,by grind,by grind,?_⟩
  intro w1 hs hl
  exact mapped1_done (ho.same (hs ob (by simp))) hE (fun k hk=>Nat.lt_of_lt_of_le (hF k hk) hl) hD (fun w' a b=>h w' ((hs.mono (fun k hk=>.inl hk)).trans a) (Nat.le_trans hl b))
 | x :: L,w,F,D,ho,ht,hS,hC,hT,hCD,htD,hoD=>by
  have hol:=ho.lt
  have htl:=ht.lt
  have hSl:=hS.lt
  have hSs:=hS.sub
  refine ⟨_,_,rfl,enters_mapped1,by grind,by grind,?_⟩
  intro w1 hs hl
  have hs':SameOn F w w1:=fun k hk=>hs k (.inl hk)
  have hsC:SameOn C w w1:=fun k hk=>hs k (.inr (.inl hk))
  refine (mapped1_g (ho.same (hs ob (by simp))) (ht.same (hs tb (by simp))) (hS.move hs' hl) ((hT x (.head _)).move hsC hl) hCD htD).mono ?_
  rintro e w2 ⟨k2,s,G,F',D',rfl,hQ,hS',hF',hD',hG,hGD⟩
  have ho1:=ho.same (hs ob (by simp))
  have ht1:=ht.same (hs tb (by simp))
  have hsC2:SameOn C w1 w2:=k2.same (fun k hk=>Nat.lt_of_lt_of_le (hC k hk) hl) hCD
  have hl2:=k2.size
  refine ⟨k2,s,G,_,D',rfl,hQ,mapped_g (C:=C) (ho1.same (k2.block _ ho1.lt hoD)) (ht1.same (k2.block _ ht1.lt htD)) hS' (by grind) (fun y hy=>((hT y (.tail _ hy)).move hsC hl).move hsC2 hl2) (by grind) (by grind) (by grind),?_,?_,?_,hGD⟩
  ·grind
  ·grind
  ·grind
theorem mapped_okg {C:Nat→Prop}{f g:Value}{L:List (SP×SP)}{w:World}{F D:Nat→Prop}(hS:StG (L.map (·.1)) F D w f) (hg:∃ K cap,g = .func (.func K) #[] cap) (hC:∀ k,C k→k < w.heap.size) (hT:∀ x∈L,ToG C w g x.1 x.2) (hCD:∀ k,C k→¬ D k) :
  Calls Tryz.prog 45 #[f,g] w fun e w'=>Below w.heap.size w w'∧∃ K cap F',e = .returned (.func (.func K) #[] cap)∧StG (L.map (·.2)) F' D w' (.func (.func K) #[] cap)∧(∀ k,F' k→F k∨C k∨w.heap.size≤k):=by
 obtain ⟨K,cap,rfl⟩:=hS.shape
 obtain ⟨K2,cap2,rfl⟩:=hg
 refine mapped_made.mono ?_
 rintro e w' ⟨rfl,k,bo,bt⟩
 have hl:=hS.lt
 have hsb:=hS.sub
 refine ⟨k,_,_,_,rfl,mapped_g (C:=C) bo bt (hS.move (fun b hb=>k.block b (hl b hb)) k.size) (fun b hb=>Nat.lt_of_lt_of_le (hC b hb) k.size) (fun x hx=>(hT x hx).move (fun b hb=>k.block b (hC b hb)) k.size) hCD (by grind) (by grind),by grind⟩
end Go.Proofs.Tryz
namespace Go.Proofs.Tryz
set_option maxHeartbeats 16000000
open Go.RowKit
set_option maxRecDepth 10000
def SpotB (w:World) (b:Nat) (s:Sp):Prop:=w.heap[b]? = some (.cells #[iv s.1,.pointer s.2] 75 (0,0))
theorem SpotB.same {w w':World}{b:Nat}{s:Sp}(h:SpotB w b s) (e:w'.heap[b]? = w.heap[b]?):SpotB w' b s:=e.trans h
theorem SpotB.lt {w:World}{b:Nat}{s:Sp}(h:SpotB w b s):b < w.heap.size:=lt_of_block h
theorem SpotB.new (w:World) (s:Sp):SpotB (w.alloc (.cells #[iv s.1,.pointer s.2] 75)) w.heap.size s:=heap_new _ _
theorem SpotB.facts {w:World}{b T:Nat}{u:Value}{q:Option Addr}(h:SpotB w b ((T,u),q)):w.cell? ⟨b,0,none⟩=some (.iface T u)∧w.cell? ⟨b,1,none⟩=some (.pointer q)∧w.frozen? ⟨b,0,none⟩=false∧w.frozen? ⟨b,1,none⟩=false∧b < w.heap.size:=by
 have h':w.heap[b]? = some (.cells #[.iface T u,.pointer q] 75 (0,0)):=h
 refine ⟨?_,?_,?_,?_,h.lt⟩
 ·simp [World.cell?,h']
 ·simp [World.cell?,h']
 ·simp [World.frozen?,h']
 ·simp [World.frozen?,h']
theorem SpotB.ne {w:World}{g b T:Nat}{v:Value}{s:Sp}(hg:Box w g v T) (hs:SpotB w b s):g≠b:=by
 intro e
 subst e
 have:=Option.some.inj (hg.symm.trans hs)
 simp at this
def Made (L:List SP) (C:Nat→Prop) (n:Nat) (w:World) (f:Value):Prop:=∃ F D,StG L F D w f∧(∀ k,F k→C k∨n≤k)∧(∀ k,D k→n≤k)
def MadeC (L:List SP) (C:Nat→Prop) (w:World) (e:Ending) (w':World):Prop:=Below w.heap.size w w'∧∃ K cap,e = .returned (.func (.func K) #[] cap)∧Made L C w.heap.size w' (.func (.func K) #[] cap)
theorem MadeC.mk' {L:List SP}{C F D:Nat→Prop}{w w':World}{f:Value}(k:Below w.heap.size w w') (h:StG L F D w' f) (hF:∀ k,F k→C k∨w.heap.size≤k) (hD:∀ k,D k→w.heap.size≤k):MadeC L C w (.returned f) w':=by
 obtain ⟨K,cap,rfl⟩:=h.shape
 exact ⟨k,K,cap,rfl,F,D,h,hF,hD⟩
theorem Made.low {L:List SP}{C C':Nat→Prop}{n n':Nat}{w:World}{f:Value}(h:Made L C n w f) (hn:n'≤n) (hC:∀ k,C k→C' k∨n'≤k):Made L C' n' w f:=by
 obtain ⟨F,D,h,hF,hD⟩:=h
 exact ⟨F,D,h,by grind,by grind⟩
theorem Made.upon {L:List SP}{C:Nat→Prop}{n:Nat}{w w1:World}{f:Value}(h:Made L C n w f) (k:Below w.heap.size w w1):Made L C n w1 f:=by
 obtain ⟨F,D,h,hF,hD⟩:=h
 exact ⟨F,D,h.move (fun b hb=>k.block b (h.lt b hb)) k.size,hF,hD⟩
theorem one1_firstg {w:World}{g b:Nat}{s:Sp}(hg:Box w g (.bool false) 4) (hs:SpotB w b s):Calls Tryz.prog 90 #[.pointer (some ⟨g,0,none⟩),.pointer (some ⟨b,0,none⟩)] w fun e w'=>e = .returned (.tuple #[spv s,.bool true])∧Fr (· = g) w w'∧Box w' g (.bool true) 4:=by
 have h0:=hg.cell
 have h1:=hg.free
 have h2:=hg.lt
 have hne:g≠b:=SpotB.ne hg hs
 obtain ⟨⟨T,u⟩,q⟩:=s
 obtain ⟨h3,h4,_,_,h5⟩:=hs.facts
 simp only [spv,iv]
 go_enter Tryz.func90,Tryz.ntmps90
 go_wp2_with fail
 exact bodyPost_ret (v:=.tuple #[.agg #[.iface T u,.pointer q],.bool true]) (by simp [results,Tryz.results90,go_sem]) rfl ⟨rfl,((Fr.refl (· = g) w).setCell _ (.inl rfl)).alloc _,(hg.set _).same (Below.heap_alloc _ _ _ (by simpa using h2))⟩
theorem enters_one1:Enters Tryz.prog 90:=enters_of Tryz.func90 (by kernel_rfl) rfl
theorem one_g {w:World}{P:SP}{G:Nat→Prop}{s:Sp}{g b:Nat}(hP:HoldsP P G w s) (hg:Box w g (.bool false) 4) (hs:SpotB w b s) (hgG:¬ G g) :
  StG [P] (fun k=>G k∨k=g∨k=b) (fun k=>k=g) w (.func (.func 90) #[] #[.pointer (some ⟨g,0,none⟩),.pointer (some ⟨b,0,none⟩)]):=by
 have hPl:=hP.1
 have hgl:=hg.lt
 have hsl:=hs.lt
 refine ⟨_,_,rfl,enters_one1,by grind,by grind,?_⟩
 intro w1 hs1 hl
 refine (one1_firstg (hg.same (hs1 g (by simp))) (hs.same (hs1 b (by simp)))).mono ?_
 rintro e w2 ⟨rfl,k2,k3⟩
 have hl2:=k2.size
 have hgl3:=k3.lt
 refine ⟨k2,s,G,fun k=>k=g,fun k=>k=g,rfl,(hP.move (fun k hk=>hs1 k (.inl hk)) hl).after k2 (by grind),?_,by grind,by grind,by grind,by grind⟩
 refine ⟨_,_,rfl,enters_one1,by grind,by grind,?_⟩
 intro w3 hs3 hl3
 refine (one1_given (k3.same (hs3 _ rfl))).mono ?_
 rintro e w4 ⟨rfl,k4⟩
 exact ⟨.of_below k4,rfl⟩
theorem one_okg {w:World}{P:SP}{C G:Nat→Prop}{s:Sp}(hP:HoldsP P G w s) (hG:∀ k,G k→C k):Calls Tryz.prog 43 #[spv s] w (MadeC [P] C w):=by
 obtain ⟨⟨T,u⟩,q⟩:=s
 simp only [spv,iv]
 go_enter Tryz.func43,Tryz.ntmps43
 go_wp2
 go_ret
 have k:=below_alloc2 w (.cells #[.iface T u,.pointer q] 75) (.cells #[.bool false] 4)
 have hPl:=hP.1
 exact .mk' k (one_g (hP.move (fun b hb=>k.block b (hPl b hb)) k.size) (heap_new2' w _ _) (s:=((T,u),q)) (SpotB.same (heap_new w _) (Below.heap_alloc _ _ _ (by simp))) (by grind)) (by grind) (by grind)
def OutG (C:Nat→Prop) (w:World) (g:Value) (P:SP):Prop :=
 ∃ K cap,g = .func (.func K) #[] cap∧Enters Tryz.prog K∧(∀ k,C k→k < w.heap.size)∧
  ∀ w',SameOn C w w'→w.heap.size≤w'.heap.size→Calls Tryz.prog K cap w' fun e w''=>Below w'.heap.size w' w''∧∃ x G,e = .returned (iv x)∧HoldsP P G w'' (x,none)∧∀ k,G k→C k∨w'.heap.size≤k
theorem OutG.move {C:Nat→Prop}{w w1:World}{g:Value}{P:SP}(h:OutG C w g P) (hs:SameOn C w w1) (hl:w.heap.size≤w1.heap.size):OutG C w1 g P:=by
 obtain ⟨K,cap,e,hE,hC,h⟩:=h
 exact ⟨K,cap,e,hE,fun k hk=>Nat.lt_of_lt_of_le (hC k hk) hl,fun w' hs' hl'=>h w' (hs.trans hs') (Nat.le_trans hl hl')⟩
theorem worked1_g {w:World}{g s:Nat}{f:Value}{P:SP}{C:Nat→Prop}(hg:Box w g (.bool false) 4) (hs:Box w s f 92) (hT:OutG C w f P) (hgC:¬ C g) (hgs:s≠g):Calls Tryz.prog 167 #[.pointer (some ⟨g,0,none⟩),.pointer (some ⟨s,0,none⟩)] w fun e w'=>Fr (· = g) w w'∧∃ y G,e = .returned (.tuple #[spv (y,none),.bool true])∧HoldsP P G w' (y,none)∧Box w' g (.bool true) 4∧∀ k,G k→C k∨w.heap.size < k:=by
 have h0:=hg.cell
 have h1:=hg.free
 have h2:=hg.lt
 have h3:=hs.cell
 have h4:=hs.lt
 obtain ⟨K,cap,rfl,hE,hC,h⟩:=hT
 have hE':∀ (args:Array Value) (w:World),(callFunc K args).run Tryz.prog w = .ok (.enter K args) w:=hE
 have k0:Fr (· = g) w ((w.setCell ⟨g,0,none⟩ (.bool true)).alloc (.cells #[.nilIface,.pointer none] 75)):=((Fr.refl (· = g) w).setCell _ (.inl rfl)).alloc _
 have hb:SpotBox ((w.setCell ⟨g,0,none⟩ (.bool true)).alloc (.cells #[.nilIface,.pointer none] 75)) w.heap.size .nilIface:=by
  have:=SpotBox.new (w.setCell ⟨g,0,none⟩ (.bool true)) .nilIface
  simpa using this
 have hg0:Box ((w.setCell ⟨g,0,none⟩ (.bool true)).alloc (.cells #[.nilIface,.pointer none] 75)) g (.bool true) 4:=(hg.set _).same (Below.heap_alloc _ _ _ (by simpa using h2))
 have hl0:((w.setCell ⟨g,0,none⟩ (.bool true)).alloc (.cells #[.nilIface,.pointer none] 75)).heap.size=w.heap.size+1:=by simp
 go_enter Tryz.func167,Tryz.ntmps167
 go_wp2_with (go_at_fn K;refine (h _ (fun k hk=>k0.block k (hC k hk) (fun e=>hgC (e ▸ hk))) k0.size).mono ?_;rintro e w1 ⟨k1,⟨T,u⟩,G,rfl,hP,hG⟩;simp only [iv];have q:SpotBox w1 w.heap.size .nilIface:=hb.same (k1.block _ hb.lt);obtain ⟨q0,q1,q2,q3,q4⟩:=q.facts)
 have hend:Fr (· = w.heap.size) w1 ((w1.setCell ⟨w.heap.size,0,none⟩ (.iface T u)).setCell ⟨w.heap.size,1,none⟩ (.pointer none)):=((Fr.refl (· = w.heap.size) w1).setCell _ (.inl rfl)).setCell _ (.inl rfl)
 rw [hl0] at hG
 refine bodyPost_ret (v:=.tuple #[.agg #[.iface T u,.pointer none],.bool true]) (by simp [results,Tryz.results167,go_sem,q4,q0,q1]) rfl ⟨?_,(T,u),G,rfl,?_,?_,by grind⟩
 ·exact (k0.trans (Fr.of_below (D:=fun _=>False) k1) (fun _ _ e=>e.elim)).trans hend (fun i hi e=>by omega)
 ·exact hP.after hend (by grind)
 ·exact (hg0.same (k1.block _ hg0.lt)).same (hend.block _ (by have:=hg0.lt;have:=k1.size;omega) (by omega))
theorem worked_okg {w:World}{f:Value}{P:SP}{C C':Nat→Prop}(hT:OutG C w f P) (hC':∀ k,C k→C' k):Calls Tryz.prog 122 #[f] w (MadeC [P] C' w):=by
 have hT':=hT
 obtain ⟨K,cap,rfl,_,hC,_⟩:=hT'
 go_enter Tryz.func122,Tryz.ntmps122
 go_wp2
 go_ret
 have k:=below_alloc2 w (.cells #[.func (.func K) #[] cap] 92) (.cells #[.bool false] 4)
 have b0:Box ((w.alloc (.cells #[.func (.func K) #[] cap] 92)).alloc (.cells #[.bool false] 4)) w.heap.size (.func (.func K) #[] cap) 92:=(Box.new w _ _).same (Below.heap_alloc _ _ _ (by simp))
 have b1:Box ((w.alloc (.cells #[.func (.func K) #[] cap] 92)).alloc (.cells #[.bool false] 4)) (w.heap.size+1) (.bool false) 4:=heap_new2' w _ _
 have hb0:=b0.lt
 have hb1:=b1.lt
 have hks:=k.size
 have hT2:=hT.move (fun b hb=>k.block b (hC b hb)) hks
 refine .mk' k (F:=fun k=>C k∨k=w.heap.size∨k=w.heap.size+1) (D:=fun k=>k=w.heap.size+1) ⟨_,_,rfl,enters_worked1,by grind,by grind,?_⟩ (by grind) (by grind)
 intro w1 hs hl
 have c1:Box w1 (w.heap.size+1) (.bool false) 4:=b1.same (hs _ (by simp))
 refine (worked1_g c1 (b0.same (hs _ (by simp))) (hT2.move (fun k hk=>hs k (.inl hk)) hl) (fun e=>by have:=hC _ e;omega) (by omega)).mono ?_
 rintro e w2 ⟨k2,y,G,rfl,hP,hb,hG⟩
 have hb2:=hb.lt
 refine ⟨k2,(y,none),G,fun k=>k=w.heap.size+1,fun k=>k=w.heap.size+1,rfl,hP,?_,by grind,by grind,by grind,by grind⟩
 refine ⟨_,_,rfl,enters_worked1,by grind,by grind,?_⟩
 intro w3 hs3 hl3
 refine (worked1_given (hb.same (hs3 _ rfl))).mono ?_
 rintro e w4 ⟨rfl,k4⟩
 exact ⟨.of_below k4,rfl⟩
def VG (C:Nat→Prop) (w:World) (g:Value) (P Q:SP):Prop :=
 ∃ K cap,g = .func (.func K) #[] cap∧Enters Tryz.prog K∧(∀ k,C k→k < w.heap.size)∧
  ∀ w' s G,SameOn C w w'→w.heap.size≤w'.heap.size→HoldsP P G w' s→Calls Tryz.prog K (#[iv s.1] ++ cap) w' fun e w''=>Below w'.heap.size w' w''∧∃ x G',e = .returned (iv x)∧HoldsP Q G' w'' (x,none)∧∀ k,G' k→C k∨G k∨w'.heap.size≤k
theorem VG.move {C:Nat→Prop}{w w1:World}{g:Value}{P Q:SP}(h:VG C w g P Q) (hs:SameOn C w w1) (hl:w.heap.size≤w1.heap.size):VG C w1 g P Q:=by
 obtain ⟨K,cap,e,hE,hC,h⟩:=h
 exact ⟨K,cap,e,hE,fun k hk=>Nat.lt_of_lt_of_le (hC k hk) hl,fun w' s G hs' hl'=>h w' s G (hs.trans hs') (Nat.le_trans hl hl')⟩
theorem valued1_g {C G:Nat→Prop}{w:World}{g:Value}{P Q:SP}{s:Sp}{tb:Nat}(ht:Box w tb g 242) (h:VG C w g P Q) (hP:HoldsP P G w s) :
  Calls Tryz.prog 173 #[spv s,.pointer (some ⟨tb,0,none⟩)] w fun e w'=>Below w.heap.size w w'∧∃ s' G',e = .returned (spv s')∧HoldsP Q G' w' s'∧∀ k,G' k→C k∨G k∨w.heap.size≤k:=by
 obtain ⟨K,cap,rfl,hE,hC,h⟩:=h
 have h0:=ht.cell
 have h1:=ht.lt
 have hE':∀ (args:Array Value) (w:World),(callFunc K args).run Tryz.prog w = .ok (.enter K args) w:=hE
 have H:Aside (∀ w' s G,SameOn C w w'→w.heap.size≤w'.heap.size→HoldsP P G w' s→Calls Tryz.prog K (#[iv s.1] ++ cap) w' fun e w''=>Below w'.heap.size w' w''∧∃ x G',e = .returned (iv x)∧HoldsP Q G' w'' (x,none)∧∀ k,G' k→C k∨G k∨w'.heap.size≤k):=h
 clear h
 have HP:Aside (HoldsP P G w s):=hP
 have hPl:=hP.1
 clear hP
 obtain ⟨⟨T,u⟩,q⟩:=s
 simp only [spv,iv]
 go_enter Tryz.func173,Tryz.ntmps173
 go_wp2_with (go_at_fn K;refine (H.out _ ((T,u),q) G (fun k hk=>(below_alloc2 w _ _).block k (hC k hk)) (below_alloc2 w _ _).size (HP.out.after (X:=fun _=>False) (.of_below (below_alloc2 w _ _)) (fun _ _ e=>e))).mono ?_;rintro e w1 ⟨k1,⟨T',u'⟩,G',rfl,hQ,hG'⟩;simp only [iv];have qb:SpotBox w1 (w.heap.size+1) .nilIface:=SpotBox.same (heap_new2' w _ _) (k1.block _ (by simp));obtain ⟨q0,q1,q2,q3,q4⟩:=qb.facts)
 have hl1:w.heap.size+1+1≤w1.heap.size:=by have:=k1.size;simpa using this
 simp only [World.size_alloc] at hG'
 refine bodyPost_ret (v:=.agg #[.iface T' u',.pointer none]) (by simp [results,Tryz.results173,go_sem,q4,q0,q1]) rfl ⟨?_,((T',u'),none),G',rfl,hQ.after (X:=(· = w.heap.size+1)) (((Fr.refl (· = w.heap.size+1) w1).setCell _ (.inl rfl)).setCell _ (.inl rfl)) (by grind),by grind⟩
 exact ((((below_alloc2 w _ _).trans (k1.mono (by simp;omega))).setCell (by simp) _).setCell (by simp) _)
theorem valued_okg {C:Nat→Prop}{f g:Value}{L:List (SP×SP)}{w:World}{F D:Nat→Prop}(hS:StG (L.map (·.1)) F D w f) (hg:∃ K cap,g = .func (.func K) #[] cap) (hC:∀ k,C k→k < w.heap.size) (hT:∀ x∈L,VG C w g x.1 x.2) (hCD:∀ k,C k→¬ D k) :
  Calls Tryz.prog 126 #[f,g] w fun e w'=>Below w.heap.size w w'∧∃ K cap F',e = .returned (.func (.func K) #[] cap)∧StG (L.map (·.2)) F' D w' (.func (.func K) #[] cap)∧(∀ k,F' k→F k∨C k∨w.heap.size≤k):=by
 obtain ⟨K,cap,rfl⟩:=hS.shape
 obtain ⟨K2,cap2,rfl⟩:=hg
 have hSl:=hS.lt
 have hSs:=hS.sub
 have hm:Calls Tryz.prog 45 #[.func (.func K) #[] cap,.func (.func 173) #[] #[.pointer (some ⟨w.heap.size,0,none⟩)]] (w.alloc (.cells #[.func (.func K2) #[] cap2] 242)) fun e w'=>Below w.heap.size w w'∧∃ K cap F',e = .returned (.func (.func K) #[] cap)∧StG (L.map (·.2)) F' D w' (.func (.func K) #[] cap)∧(∀ k,F' k→F k∨C k∨w.heap.size≤k):=by
  have k0:=below_alloc w (.cells #[.func (.func K2) #[] cap2] 242)
  have hb:=Box.new w (.func (.func K2) #[] cap2) 242
  have hl:∀ k,(C k∨k=w.heap.size)→k < (w.alloc (.cells #[.func (.func K2) #[] cap2] 242)).heap.size:=by
   rintro k (hk | rfl)
   ·have:=hC k hk;simp;omega
   ·simp
  refine (mapped_okg (C:=fun k=>C k∨k=w.heap.size) (L:=L) (hS.move (fun k hk=>k0.block k (hS.lt k hk)) k0.size) ⟨_,_,rfl⟩ hl ?_ ?_).mono ?_
  ·intro x hx
   refine ⟨_,_,rfl,enters_valued1,hl,?_⟩
   intro w' s G hs hl' hP
   refine (valued1_g (hb.same (hs _ (.inr rfl))) (((hT x hx).move (fun k hk=>k0.block k (hC k hk)) k0.size).move (fun k hk=>hs k (.inl hk)) hl') hP).mono ?_
   rintro e w2 ⟨k2,s',G',rfl,hQ,hG'⟩
   exact ⟨k2,s',G',rfl,hQ,by grind⟩
  ·grind
  ·rintro e w1 ⟨k1,K,cap,F',rfl,hS',hF'⟩
   simp only [World.size_alloc] at hF'
   exact ⟨k0.trans (k1.mono (by simp)),K,cap,F',rfl,hS',by grind⟩
 go_enter Tryz.func126,Tryz.ntmps126
 go_wp2_with (go_at_call 45;refine hm.mono ?_;rintro e w1 ⟨k1,K3,cap3,F',rfl,hS',hF'⟩)
 go_ret
 exact ⟨k1,_,_,F',rfl,hS',hF'⟩
end Go.Proofs.Tryz
