import Derived.Test.YtbhajhlhgbnhbaaGreatDoorOi3
import Derived.Test.YtbhajhlhgbnhbaaGreatDoorOj2
set_option linter.all false
namespace Go.Proofs.Tryz
set_option maxHeartbeats 16000000
open Go.RowKit Go.Shelf
set_option maxRecDepth 100000
attribute [local go_sem] Oper.semAt_some
theorem mustParts_o {C:Nat→Prop}{w:World}{r:Value}{q:Option Addr}{Qs:List SP} (h:∀ w1,Below w.heap.size w w1→Calls Tryz.prog 92 #[spv ((102,r),q)] w1 (MadeC Qs C w1)):Calls Tryz.prog 52 #[spv ((102,r),q)] w (MadeC Qs C w):=by
 have m3:=missVArray;have m4:=hitVObject
 simp only [spv,iv] at h ⊢
 go_enter Tryz.func52,Tryz.ntmps52
 go_wp2_with (go_at_call 92;refine (h _ (below_alloc w _)).mono ?_;rintro e w1 ⟨k1,K,cap,rfl,hM⟩)
 go_ret
 exact MadeC.under ⟨k1,K,cap,rfl,hM⟩ (below_alloc w _)
def BehindP (k:ByteArray):SP:=PathP (some [strS k])
def keyS (k:ByteArray):Sp:=(strS k,none)
theorem keys_iter {C:Nat→Prop}{w w1:World}{N b0 K n:Nat}{cap:Array Value}{ks:List ByteArray}{F D:Nat→Prop} (rc:Loop) (hNw:N=w.heap.size) (o0:N≤b0) (o1:b0 < w1.heap.size) (b:Box w1 b0 (.slice none 0 0) 86) (hb:Below N w w1) (hS:StG (ks.map BehindP) F D w1 (.func (.func K) #[] cap)) (hF2:∀ k,F k→k≠b0) (hFC:∀ k,F k→C k∨N≤k) (hDN:∀ k,D k→N≤k)
  (hround:∀ (pre:List Sp) (x:Sp) (key:ByteArray) (W:World) (v:Value) (F G:Nat→Prop),pre.length < ks.length→N=w.heap.size→Box W b0 v 86→W.ownsRow N 32 1 v pre.length (pre.map fun t=>iv t.1)→W.heap[w1.heap.size+1]? = some (.loop rc)→W.heap[w1.heap.size]? = some (.deferred (some []))→Below N w W→(∀ k,F k→k≠b0∧k≠w1.heap.size∧k≠w1.heap.size+1∧some k≠v.ownBlock)→(∀ k,F k→k < W.heap.size)→HoldsP (BehindP key) G W x→(∀ k,G k→F k)→
   YieldAt Fence.wide (n - 1) Tryz.prog (w1.heap.size+1) #[spv x] W fun e W'=>e = .returned (.bool true)∧CSg (fun t=>iv t.1) 32 86 w N b0 w1.heap.size (w1.heap.size+1) rc F (pre ++ [keyS key]) W'∧Fr (fun k=>k=b0∨k=w1.heap.size+1∨some k=v.ownBlock) W W') :
  CallsIn Fence.wide n Tryz.prog 105 #[.func (.func K) #[] cap,.func (.yield (w1.heap.size+1)) #[] #[]] ((w1.alloc (.deferred (some []))).alloc (.loop rc)) fun e W'=>(∃ v,e = .returned v)∧∃ G,CSg (fun t=>iv t.1) 32 86 w N b0 w1.heap.size (w1.heap.size+1) rc G (ks.map keyS) W':=by
 have hE:Enters Tryz.prog K:=hS.enters
 have hFl:=hS.lt
 refine all_ing n (w1.heap.size+1) K cap
  (fun rest W=>∃ pre post F D,rest=List.map BehindP post∧pre ++ post=ks∧CSg (fun t=>iv t.1) 32 86 w N b0 w1.heap.size (w1.heap.size+1) rc F (pre.map keyS) W∧StG rest F D W (.func (.func K) #[] cap)∧(∀ k,D k→N≤k)∧(∀ k,F k→C k∨N≤k))
  (fun s rest W=>∃ pre key post F D G,rest=List.map BehindP post∧pre ++ key :: post=ks∧CSg (fun t=>iv t.1) 32 86 w N b0 w1.heap.size (w1.heap.size+1) rc (fun k=>F k∨G k) (pre.map keyS) W∧StG rest F D W (.func (.func K) #[] cap)∧HoldsP (BehindP key) G W s∧(∀ k,D k→N≤k)∧(∀ k,F k→C k∨N≤k))
  (fun W=>∃ G,CSg (fun t=>iv t.1) 32 86 w N b0 w1.heap.size (w1.heap.size+1) rc G (ks.map keyS) W) hE ?_ ?_ ?_ ?_ ?_ (ks.map BehindP) _ ?_
 ·rintro P rest W ⟨pre,post,F,D,he,hpp,hc,hs,hd,hFC⟩
  have hsub:=hs.sub
  cases post with
  | nil=>simp at he
  | cons key post =>
  simp only [List.map_cons,List.cons.injEq] at he
  obtain ⟨rfl,rfl⟩:=he
  obtain ⟨K',cap',e',_,hF,hD,h⟩:=hs
  cases e'
  refine (h W (SameOn.refl _ _) (Nat.le_refl _)).mono ?_
  rintro e W' ⟨fr,s,G1,F',D',rfl,hP,hS',hF',hD',hG1,hG1D⟩
  have hsz:N≤W.heap.size:=by obtain ⟨hN,_,_,_,_,_,_,_,_,hb,_⟩:=hc;rw [hN];exact hb.size
  refine ⟨s,rfl,pre,key,post,F',D',G1,rfl,hpp,hc.fr fr (by grind) hd (by grind),hS',hP,by grind,by grind⟩
 ·rintro s rest W o ⟨pre,key,post,F,D,G,he,hpp,hc,hs,hH,hd⟩
  exact ⟨pre,key,post,F,D,G,he,hpp,hc.alloc o,hs.move (fun k hk=>(below_alloc W o).block k (hs.lt k hk)) (by simp),hH.move (fun k hk=>(below_alloc W o).block k (hH.1 k hk)) (by simp),hd⟩
 ·rintro s rest W ⟨pre,key,post,F,D,G,he,hpp,⟨hN,p0,p1,p2,v,bx,ow,hl,hdf,hbl,hf⟩,hs,hH,hd,hFC⟩
  obtain ⟨fn,tmps,assign,body,hy,hR⟩:=hround (pre.map keyS) s key W v (fun k=>F k∨G k) G (by rw [← hpp];simp) hN bx ow hl hdf hbl hf (fun k hk=>hk.elim (hs.lt k) (hH.1 k)) hH (fun _ h=>.inr h)
  refine ⟨fn,tmps,assign,body,hy,hR.mono ?_⟩
  rintro e W' ⟨rfl,hc',fr'⟩
  obtain ⟨hN',q0,q1,q2,v',bx',ow',hl',hdf',hbl',hf'⟩:=hc'
  exact ⟨rfl,pre ++ [key],post,F,D,he,by rw [← hpp];simp,⟨hN',q0,q1,q2,v',bx',by simpa using ow',hl',hdf',hbl',fun k hk=>hf' k (.inl hk)⟩,hs.after fr' (by grind),hd,hFC⟩
 ·rintro W ⟨pre,post,F,D,he,hpp,hc,hs,hd,hFC⟩
  obtain ⟨K',cap',e',_,hF,hD,h⟩:=hs
  cases e'
  refine (h W (SameOn.refl _ _) (Nat.le_refl _)).mono ?_
  rintro e W' ⟨fr,rfl⟩
  have:post=[]:=by simpa using he.symm
  subst this
  rw [List.append_nil] at hpp
  subst hpp
  exact ⟨rfl,F,hc.fr fr (by grind) hd (by grind)⟩
 ·rintro W o ⟨G,hc⟩
  exact ⟨G,hc.alloc o⟩
 ·have bl:=below_alloc2 w1 (.deferred (some [])) (.loop rc)
  refine ⟨[],ks,F,D,rfl,rfl,⟨hNw,o0,by omega,by omega,.slice none 0 0,b.same (bl.block _ b.lt),World.ownsRow_nil _ _ _ _,heap_new2' w1 _ _,(Below.heap_alloc _ _ _ (by simp)).trans (heap_new w1 _),hb.trans (bl.mono (by have:=hb.size;omega)),?_⟩,hS.move (fun k hk=>bl.block k (hFl k hk)) bl.size,hDN,hFC⟩
  intro k hk
  have:=hFl k hk
  exact ⟨hF2 k hk,by omega,by omega,by simp [Value.ownBlock]⟩
end Go.Proofs.Tryz
namespace Go.Proofs.Tryz
set_option maxHeartbeats 16000000
open Go.RowKit Go.Shelf
set_option maxRecDepth 100000
attribute [local go_sem] Oper.semAt_some
theorem stepIn_append_lies {F:Fence}{n:Nat}{P:Program} (w:World) {ops:Array Oper}{o:Oper}{a:Act}{K:Act→World→Prop}{Q:Exit→Act→World→Prop}{E:Prop}
  (hg:o.guard=none) (s x:Operand) (t:TypeId) (hop:o.op=Op.call { callee:=Callee.builtin Builtin.append,args:=#[s,x],argTypes:=#[t,t] })
  (base:Nat) (e:TypeId) (i:TypeInfo) (z:Value) (size bytes:Nat) (h1:P.underlying t=some (.slice e)) (h2:P.info? e=some i) (h3:i.zero=some z) (h4:i.size=size) (h5:i.bytes=bytes) (h6:z.cells.size=size) (h7:0 < size)
  (v:Value) (k:Nat) (xs:List Value) (hs:a.eval s=v) (hown:w.ownsRow base e size v k xs) (ad:Addr) (m c:Nat) (news:List Value) (hx:a.eval x = .slice (some ad) m c) (hn:news.length=m * size)
  (hc:∀ j u,news[j]? = some u→w.cell? (ad.add j)=some u) (h1c:∀ u∈news,u.oneCell'=true) (hm:0 < m) (b1:k+m≤maxLen) (b2:(k+m) * bytes≤140737488355328) (b3:base≤w.heap.size) (H:Nat) (hH:w.heap.size=H)
  (hK:∀ g cap w',w'.ownsRow base e size (.slice (some ⟨g,0,none⟩) (k+m) cap) (k+m) (xs ++ news)→w.grownBy w' v.ownBlock→(v.ownBlock=some g∨g=H)→g < w'.heap.size→K (a.put o.dst (.slice (some ⟨g,0,none⟩) (k+m) cap)) w') :
  if Region.wanted o (yielded ops a.tmps)=true then Oper.wpIn F n P o a w K Q else E:=by
 have hw:Region.wanted o (yielded ops a.tmps)=true:=by simp [Region.wanted,hg]
 rw [if_pos hw]
 obtain ⟨g,cap,w',hrun,r1,r2,r3,r4⟩:=run_append_lies (P:=P) w t o.type base e i z size bytes h1 h2 h3 h4 h5 h6 h7 v k xs hown ad m c news hn hc h1c hm b1 b2 b3 H hH
 unfold Oper.wpIn
 refine ⟨?_,?_⟩
 ·simp [Oper.about,hop,resolve,Target.leads,Sem.run_pure]
 ·rw [Oper.semAt_plain F _ _ (by rw [hop];intro c hc';cases hc')]
  simp [execOp,hop,resolve,invoke,builtin,hs,hx,hrun,Result.andThen]
  exact hK g cap w' r1 r2 r3 r4
theorem keys_okg {w:World}{r:Value}{L:List El} (hr:w.ownsRow 0 107 2 r L.length (L.flatMap elC)) (hn:L.length≤100000000) :
  Calls Tryz.prog 213 #[.iface 102 r] w fun e w'=>Below w.heap.size w w'∧∃ v,e = .returned (.iface 86 v)∧w'.ownsRow w.heap.size 32 1 v L.length (L.map fun t=>iv (strS t.1)):=by
 obtain ⟨i0,hi0,hz0,hz1,hz2⟩:=info_parts (show (Tryz.prog.info? 32).map (fun i=>(i.zero,i.size,i.bytes))=some (some .nilIface,1,16) by kernel_rfl)
 have x2:Box _ w.heap.size (.slice none 0 0) 86:=heap_new w (.cells #[.slice none 0 0] 86)
 have k3:=below_alloc w (.cells #[.slice none 0 0] 86)
 have HR:∀ w1,Calls Tryz.prog 155 #[.iface 102 r] w1 fun e w'=>∃ q,e = .returned (.agg #[.iface 102 r,.pointer (some ⟨q,0,none⟩)])∧Below w1.heap.size w1 w'∧w1.heap.size≤q∧w'.heap[q]? = some (.cells #[.pointer none,.nilIface,.int .i64 0] 263 (0,0)):=fun w1=>rooted_ok (x:=(102,r))
 have HP:Aside (∀ w1 q,Below w.heap.size w w1→w.heap.size≤q→w1.heap[q]? = some (.cells #[.pointer none,.nilIface,.int .i64 0] 263 (0,0))→Calls Tryz.prog 52 #[.agg #[.iface 102 r,.pointer (some ⟨q,0,none⟩)]] w1 (MadeC ((L.map (·.1)).map BehindP) (fun k=>r.ownBlock=some k∨k=q) w1)):=by
  intro w1 q k hq hqb
  refine mustParts_o (r:=r) (q:=some ⟨q,0,none⟩) (fun w2 k2=>?_)
  have kk:Below w.heap.size w w2:=k.trans (k2.mono k.size)
  have hql:=lt_of_block hqb
  have hqb2:=(k2.block q hql).trans hqb
  refine parts_objg (V:=fun k=>r.ownBlock=some k) (G:=fun k=>k=q) (o:=some []) (L:=L) (owns_same hr (fun g hg=>kk.block g (hr.lt g hg).2)) hn (Nat.zero_le _) (fun _ h=>h) (fun g hg=>Nat.lt_of_lt_of_le (hr.lt g hg).2 kk.size) ⟨fun j hj=>by subst hj;exact lt_of_block hqb2,fun w' a _=>⟨q,rfl,(a q rfl).trans hqb2⟩⟩ ⟨by simp,fun j Q hj=>?_⟩ (fun _ h=>.inl h) (fun _ h=>.inr h)
  rw [List.map_map,List.getElem?_map] at hj
  cases hL:L[j]? with
  | none=>rw [hL] at hj;cases hj
  | some e =>
   rw [hL] at hj
   cases hj
   exact ⟨(strS e.1,e.2.1),by rw [List.getElem?_map,hL];rfl,fun w' q' _ _ h=>h⟩
 have hrl:=hr.lt
 clear hr
 refine (callsIn_wide (n:=4)).1 ?_
 refine callsIn_of_wp_marks Tryz.func213 rfl trivial ?_ rfl
 simp only [Tryz.ntmps213,List.size_toArray,List.length_cons,List.length_nil,Nat.reduceAdd,Nat.reduceSub,Array.replicate_succ,Array.replicate_zero,List.push_toArray,List.append_toArray,List.nil_append,List.cons_append]
 gi_wp2
 refine ⟨trivial,(callsIn_wide.2 (HR _)).mono ?_⟩
 rintro e w2 ⟨q,rfl,kq,hq,hqb⟩
 have kq2:Below w.heap.size w w2:=k3.trans (kq.mono k3.size)
 simp only [World.size_alloc] at hq
 gi_wp2
 refine ⟨trivial,(callsIn_wide.2 (HP.out w2 q kq2 (by omega) hqb)).mono ?_⟩
 rintro e w1 ⟨k1,K,cap,rfl,F,D,hS,hF,hD⟩
 gi_wp2
 have hk1:=k1.size
 have hk2:=kq.size
 simp only [World.size_alloc] at hk2
 have bx1:Box w1 w.heap.size (.slice none 0 0) 86:=(x2.same (kq.block _ (by simp))).same (k1.block _ (by omega))
 have hFb:∀ k,F k→k≠w.heap.size:=fun k hk e=>by
  rcases hF k hk with (h | h) | h
  ·have:=(hrl k h).2;omega
  ·omega
  ·omega
 refine range_method (by omega) rfl (enters_of Tryz.func105 (by kernel_rfl) rfl) ?_
 intro fn
 ·refine (keys_iter (C:=fun _=>True) (b0:=w.heap.size) _ rfl (by omega) (by omega) bx1 (kq2.trans (k1.mono kq2.size)) hS hFb (fun _ _=>.inl trivial) (fun k hk=>by have:=hD k hk;omega) ?_).mono ?_
  ·intro pre x key W v F' G' hlen hN bx ow hl hdf hbl hf hFl hH hGF
   rw [List.length_map] at hlen
   obtain ⟨va,vl,vc,rfl⟩:=owns_shape1 ow
   obtain ⟨qb,v',hxq,hqb',_⟩:=hH.here
   obtain ⟨Wb,hbr,b1,ow1,hl1,hd1,hbl1,hsp,hsz,fr1⟩:=begun_roundg x rfl hN (by omega) (by omega) (by omega) bx ow hl hdf hbl
   have hqW:Wb.heap[qb]? = W.heap[qb]?:=fr1.block qb (lt_of_block hqb') (fun e=>by rw [e,hl] at hqb';cases hqb')
   obtain ⟨⟨Tx,ux⟩,qx⟩:=x
   simp only at hxq
   cases hxq
   simp only [iv] at hbr
   show YieldAt Fence.wide (3 - 1) Tryz.prog (w1.heap.size+1) #[.agg #[.iface Tx ux,.pointer (some ⟨qb,0,none⟩)]] W _
   refine ⟨fn,_,_,_,run_yield hl rfl,roundIn_of_wpIn trivial ?_⟩
   clear hl
   have HS:Hid _:=hsz
   clear hsz
   gi_wp2
   refine ⟨Wb,hbr,?_⟩
   have c0:=b1.cell
   have c1:=b1.free
   have c2:=b1.lt
   obtain ⟨s0,s1,_,_,s4⟩:=hsp.facts
   obtain ⟨t0,t1,t2,_,_,_,t4⟩:=three_facts' (hqW.trans hqb')
   simp only [strS,iv] at t1
   gi_wp2
   refine wpIn_region_any (by kernel_rfl) ?_
   obtain ⟨Wd,hWd⟩:∃ Wd,Wd=Wb.drew:=⟨_,rfl⟩
   show wpAnyIn _ _ _ _ _ _ _ _ _ Wb.drew
   rw [← hWd]
   have eh:Wd.heap=Wb.heap:=by rw [hWd];rfl
   have kd:Below w.heap.size w Wd:=by rw [hWd];exact hbl1.drew
   have b1d:Box Wd w.heap.size (.slice va vl vc) 86:=b1.same (by rw [eh])
   have c0:=b1d.cell
   have c1:=b1d.free
   have c2:=b1d.lt
   obtain ⟨s0,s1,_,_,s4⟩:=(hsp.same (w':=Wd) (by rw [eh])).facts
   obtain ⟨t0,t1,t2,_,_,_,t4⟩:=three_facts' (w:=Wd) ((congrArg (·[qb]?) eh).trans (hqW.trans hqb'))
   simp only [strS,iv] at t1
   have owd:Wd.ownsRow w.heap.size 32 1 (.slice va vl vc) pre.length (pre.map fun t=>iv t.1):=owns_same ow1 (fun q _=>by rw [eh])
   have hl1d:=(congrArg (·[w1.heap.size+1]?) eh).trans hl1
   have hd1d:=(congrArg (·[w1.heap.size]?) eh).trans hd1
   have hsd:Hid (Wd.heap.size=W.heap.size+1):=by rw [eh];exact HS.out
   have fr1d:Fr (· = w1.heap.size+1) W Wd:=⟨by rw [hWd];exact fr1.os,by rw [hWd];exact fr1.tape,by rw [hWd];exact fr1.output,by rw [eh];exact fr1.size,fun k hk e=>(congrArg (·[k]?) eh).trans (fr1.block k hk e)⟩
   clear hWd eh
   have hwd:w.heap.size≤Wd.heap.size:=kd.size
   have news1:∀ j u,([.iface 100 (.string key)]:List Value)[j]? = some u→(Wd.alloc (.cells #[.iface 100 (.string key)] 32)).cell? ((⟨Wd.heap.size,0,none⟩:Addr).add j)=some u:=World.news_of_block (cs:=#[.iface 100 (.string key)]) (t:=32) (fr:=(0,0)) (heap_new Wd _)
   have hmx:pre.length+1≤maxLen:=by unfold maxLen;omega
   have hbs:w.heap.size≤(Wd.alloc (.cells #[.iface 100 (.string key)] 32)).heap.size:=by simp;omega
   have hst:∀ g2 cap2 w2,w2.ownsRow w.heap.size 32 1 (.slice (some ⟨g2,0,none⟩) (pre.length+1) cap2) (pre.length+1) (pre.map (fun t=>iv t.1) ++ [.iface 100 (.string key)])→(Wd.alloc (.cells #[.iface 100 (.string key)] 32)).grownBy w2 (Value.slice va vl vc).ownBlock→((Value.slice va vl vc).ownBlock=some g2∨g2=Wd.heap.size+1)→w2.cell? ⟨w.heap.size,0,none⟩=some (.slice va vl vc)∧w2.frozen? ⟨w.heap.size,0,none⟩=false∧w.heap.size < w2.heap.size:=fun g2 cap2 w2 ow2 hgr hat=>by
    have b2:=b1d.same ((hgr.block _ (by simp;omega) (own_otherg owd b1d (fun cs h=>by simp at h))).trans ((below_alloc Wd _).block _ c2))
    exact ⟨b2.cell,b2.free,b2.lt⟩
   refine wpAnyIn_ready (rs:=[0,1]) (by kernel_rfl) (by simp) ?_
   refine AllReadyIn.cons rfl (fun K hK=>?_) (AllReadyIn.cons rfl (fun K hK=>?_) AllReadyIn.nil)
   ·go_simp;refine hK _ _ ?_;clear hK K
    refine wpAnyIn_ready (rs:=[1]) (by kernel_rfl) (by simp) ?_
    refine AllReadyIn.cons rfl (fun K hK=>?_) AllReadyIn.nil
    go_simp;refine hK _ _ ?_;clear hK K
    refine wpAnyIn_ready (rs:=[2]) (by kernel_rfl) (by simp) ?_
    refine AllReadyIn.cons rfl (fun K hK=>?_) AllReadyIn.nil
    go_simp;refine hK _ _ ?_;clear hK K
    refine wpAnyIn_ready (rs:=[3]) (by kernel_rfl) (by simp) ?_
    refine AllReadyIn.cons rfl (fun K hK=>?_) AllReadyIn.nil
    go_simp;refine hK _ _ ?_;clear hK K
    refine wpAnyIn_ready (rs:=[4]) (by kernel_rfl) (by simp) ?_
    refine AllReadyIn.cons rfl (fun K hK=>?_) AllReadyIn.nil
    go_simp;refine hK _ _ ?_;clear hK K
    refine wpAnyIn_ready (rs:=[5]) (by kernel_rfl) (by simp) ?_
    refine AllReadyIn.cons rfl (fun K hK=>?_) AllReadyIn.nil
    go_simp;refine hK _ _ ?_;clear hK K
    refine wpAnyIn_ready (rs:=[6]) (by kernel_rfl) (by simp) ?_
    refine AllReadyIn.cons rfl (fun K hK=>?_) AllReadyIn.nil
    go_simp;refine hK _ _ ?_;clear hK K
    refine wpAnyIn_ready (rs:=[7]) (by kernel_rfl) (by simp) ?_
    refine AllReadyIn.cons rfl (fun K hK=>?_) AllReadyIn.nil
    refine stepIn_append_lies _ (by rfl) _ _ _ (by rfl) w.heap.size 32 i0 _ 1 16 Tryz.underlying86 hi0 hz0 hz1 hz2 rfl (by omega) _ pre.length (pre.map fun t=>iv t.1) (by rfl) (owd.alloc _) ⟨Wd.heap.size,0,none⟩ 1 1 [.iface 100 (.string key)] (by rfl) (by rfl) news1 (by simp [Value.oneCell']) (by omega) hmx (by omega) hbs (Wd.heap.size+1) (by simp) ?_
    intro g2 cap2 w2 ow2 hgr hat hlt2
    obtain ⟨d0,d1,d2⟩:=hst g2 cap2 w2 ow2 hgr hat
    refine hK _ _ ?_
    clear hK K
    refine wpAnyIn_ready (rs:=[8]) (by kernel_rfl) (by simp) ?_
    refine AllReadyIn.cons rfl (fun K hK=>?_) AllReadyIn.nil
    go_simp
    refine hK _ _ ?_
    clear hK K
    refine wpAnyIn_done (by kernel_rfl) ?_ _
    gi_wp2
    obtain ⟨hC,fr2⟩:=CSg.came (cf:=fun t=>iv t.1) (x:=keyS key) (by decide) rfl (by omega) (by omega) (by omega) b1d owd hl1d hd1d kd hf (fun k hk=>by have:=hFl k hk;have:=hsd.out;omega) ow2 hgr hat
    have hl3:_=some (Obj.loop _):=hC.2.2.2.2.choose_spec.2.2.1
    have frA:Fr (fun k=>k=w.heap.size∨k=w1.heap.size+1∨some k=(Value.slice va vl vc).ownBlock) W _:=(fr1d.mono (E:=fun k=>k=w.heap.size∨k=w1.heap.size+1∨some k=(Value.slice va vl vc).ownBlock) (fun _ e=>.inr (.inl e))).trans fr2 (fun _ _ e=>e.elim .inl (fun h=>.inr (.inr h)))
    refine ⟨_,_,run_endRound none hl3,rfl,hC.put,?_⟩
    exact ⟨frA.os,frA.tape,frA.output,by have:=frA.size;simpa [World.putObj] using this,fun k hk e=>(World.putObj_heap_other (fun h=>e (.inr (.inl h)))).trans (frA.block k hk e)⟩
   ·go_simp;refine hK _ _ ?_;clear hK K
    refine wpAnyIn_ready (rs:=[0,2]) (by kernel_rfl) (by simp) ?_
    refine AllReadyIn.cons rfl (fun K hK=>?_) (AllReadyIn.cons rfl (fun K hK=>?_) AllReadyIn.nil)
    ·go_simp;refine hK _ _ ?_;clear hK K
     refine wpAnyIn_ready (rs:=[2]) (by kernel_rfl) (by simp) ?_
     refine AllReadyIn.cons rfl (fun K hK=>?_) AllReadyIn.nil
     go_simp;refine hK _ _ ?_;clear hK K
     refine wpAnyIn_ready (rs:=[3]) (by kernel_rfl) (by simp) ?_
     refine AllReadyIn.cons rfl (fun K hK=>?_) AllReadyIn.nil
     go_simp;refine hK _ _ ?_;clear hK K
     refine wpAnyIn_ready (rs:=[4]) (by kernel_rfl) (by simp) ?_
     refine AllReadyIn.cons rfl (fun K hK=>?_) AllReadyIn.nil
     go_simp;refine hK _ _ ?_;clear hK K
     refine wpAnyIn_ready (rs:=[5]) (by kernel_rfl) (by simp) ?_
     refine AllReadyIn.cons rfl (fun K hK=>?_) AllReadyIn.nil
     go_simp;refine hK _ _ ?_;clear hK K
     refine wpAnyIn_ready (rs:=[6]) (by kernel_rfl) (by simp) ?_
     refine AllReadyIn.cons rfl (fun K hK=>?_) AllReadyIn.nil
     go_simp;refine hK _ _ ?_;clear hK K
     refine wpAnyIn_ready (rs:=[7]) (by kernel_rfl) (by simp) ?_
     refine AllReadyIn.cons rfl (fun K hK=>?_) AllReadyIn.nil
     refine stepIn_append_lies _ (by rfl) _ _ _ (by rfl) w.heap.size 32 i0 _ 1 16 Tryz.underlying86 hi0 hz0 hz1 hz2 rfl (by omega) _ pre.length (pre.map fun t=>iv t.1) (by rfl) (owd.alloc _) ⟨Wd.heap.size,0,none⟩ 1 1 [.iface 100 (.string key)] (by rfl) (by rfl) news1 (by simp [Value.oneCell']) (by omega) hmx (by omega) hbs (Wd.heap.size+1) (by simp) ?_
     intro g2 cap2 w2 ow2 hgr hat hlt2
     obtain ⟨d0,d1,d2⟩:=hst g2 cap2 w2 ow2 hgr hat
     refine hK _ _ ?_
     clear hK K
     refine wpAnyIn_ready (rs:=[8]) (by kernel_rfl) (by simp) ?_
     refine AllReadyIn.cons rfl (fun K hK=>?_) AllReadyIn.nil
     go_simp
     refine hK _ _ ?_
     clear hK K
     refine wpAnyIn_done (by kernel_rfl) ?_ _
     gi_wp2
     obtain ⟨hC,fr2⟩:=CSg.came (cf:=fun t=>iv t.1) (x:=keyS key) (by decide) rfl (by omega) (by omega) (by omega) b1d owd hl1d hd1d kd hf (fun k hk=>by have:=hFl k hk;have:=hsd.out;omega) ow2 hgr hat
     have hl3:_=some (Obj.loop _):=hC.2.2.2.2.choose_spec.2.2.1
     have frA:Fr (fun k=>k=w.heap.size∨k=w1.heap.size+1∨some k=(Value.slice va vl vc).ownBlock) W _:=(fr1d.mono (E:=fun k=>k=w.heap.size∨k=w1.heap.size+1∨some k=(Value.slice va vl vc).ownBlock) (fun _ e=>.inr (.inl e))).trans fr2 (fun _ _ e=>e.elim .inl (fun h=>.inr (.inr h)))
     refine ⟨_,_,run_endRound none hl3,rfl,hC.put,?_⟩
     exact ⟨frA.os,frA.tape,frA.output,by have:=frA.size;simpa [World.putObj] using this,fun k hk e=>(World.putObj_heap_other (fun h=>e (.inr (.inl h)))).trans (frA.block k hk e)⟩
    ·go_simp;refine hK _ _ ?_;clear hK K
     refine wpAnyIn_ready (rs:=[0,3]) (by kernel_rfl) (by simp) ?_
     refine AllReadyIn.cons rfl (fun K hK=>?_) (AllReadyIn.cons rfl (fun K hK=>?_) AllReadyIn.nil)
     ·go_simp;refine hK _ _ ?_;clear hK K
      refine wpAnyIn_ready (rs:=[3]) (by kernel_rfl) (by simp) ?_
      refine AllReadyIn.cons rfl (fun K hK=>?_) AllReadyIn.nil
      go_simp;refine hK _ _ ?_;clear hK K
      refine wpAnyIn_ready (rs:=[4]) (by kernel_rfl) (by simp) ?_
      refine AllReadyIn.cons rfl (fun K hK=>?_) AllReadyIn.nil
      go_simp;refine hK _ _ ?_;clear hK K
      refine wpAnyIn_ready (rs:=[5]) (by kernel_rfl) (by simp) ?_
      refine AllReadyIn.cons rfl (fun K hK=>?_) AllReadyIn.nil
      go_simp;refine hK _ _ ?_;clear hK K
      refine wpAnyIn_ready (rs:=[6]) (by kernel_rfl) (by simp) ?_
      refine AllReadyIn.cons rfl (fun K hK=>?_) AllReadyIn.nil
      go_simp;refine hK _ _ ?_;clear hK K
      refine wpAnyIn_ready (rs:=[7]) (by kernel_rfl) (by simp) ?_
      refine AllReadyIn.cons rfl (fun K hK=>?_) AllReadyIn.nil
      refine stepIn_append_lies _ (by rfl) _ _ _ (by rfl) w.heap.size 32 i0 _ 1 16 Tryz.underlying86 hi0 hz0 hz1 hz2 rfl (by omega) _ pre.length (pre.map fun t=>iv t.1) (by rfl) (owd.alloc _) ⟨Wd.heap.size,0,none⟩ 1 1 [.iface 100 (.string key)] (by rfl) (by rfl) news1 (by simp [Value.oneCell']) (by omega) hmx (by omega) hbs (Wd.heap.size+1) (by simp) ?_
      intro g2 cap2 w2 ow2 hgr hat hlt2
      obtain ⟨d0,d1,d2⟩:=hst g2 cap2 w2 ow2 hgr hat
      refine hK _ _ ?_
      clear hK K
      refine wpAnyIn_ready (rs:=[8]) (by kernel_rfl) (by simp) ?_
      refine AllReadyIn.cons rfl (fun K hK=>?_) AllReadyIn.nil
      go_simp
      refine hK _ _ ?_
      clear hK K
      refine wpAnyIn_done (by kernel_rfl) ?_ _
      gi_wp2
      obtain ⟨hC,fr2⟩:=CSg.came (cf:=fun t=>iv t.1) (x:=keyS key) (by decide) rfl (by omega) (by omega) (by omega) b1d owd hl1d hd1d kd hf (fun k hk=>by have:=hFl k hk;have:=hsd.out;omega) ow2 hgr hat
      have hl3:_=some (Obj.loop _):=hC.2.2.2.2.choose_spec.2.2.1
      have frA:Fr (fun k=>k=w.heap.size∨k=w1.heap.size+1∨some k=(Value.slice va vl vc).ownBlock) W _:=(fr1d.mono (E:=fun k=>k=w.heap.size∨k=w1.heap.size+1∨some k=(Value.slice va vl vc).ownBlock) (fun _ e=>.inr (.inl e))).trans fr2 (fun _ _ e=>e.elim .inl (fun h=>.inr (.inr h)))
      refine ⟨_,_,run_endRound none hl3,rfl,hC.put,?_⟩
      exact ⟨frA.os,frA.tape,frA.output,by have:=frA.size;simpa [World.putObj] using this,fun k hk e=>(World.putObj_heap_other (fun h=>e (.inr (.inl h)))).trans (frA.block k hk e)⟩
     ·go_simp;refine hK _ _ ?_;clear hK K
      refine wpAnyIn_ready (rs:=[0,4]) (by kernel_rfl) (by simp) ?_
      refine AllReadyIn.cons rfl (fun K hK=>?_) (AllReadyIn.cons rfl (fun K hK=>?_) AllReadyIn.nil)
      ·go_simp;refine hK _ _ ?_;clear hK K
       refine wpAnyIn_ready (rs:=[4]) (by kernel_rfl) (by simp) ?_
       refine AllReadyIn.cons rfl (fun K hK=>?_) AllReadyIn.nil
       go_simp;refine hK _ _ ?_;clear hK K
       refine wpAnyIn_ready (rs:=[5]) (by kernel_rfl) (by simp) ?_
       refine AllReadyIn.cons rfl (fun K hK=>?_) AllReadyIn.nil
       go_simp;refine hK _ _ ?_;clear hK K
       refine wpAnyIn_ready (rs:=[6]) (by kernel_rfl) (by simp) ?_
       refine AllReadyIn.cons rfl (fun K hK=>?_) AllReadyIn.nil
       go_simp;refine hK _ _ ?_;clear hK K
       refine wpAnyIn_ready (rs:=[7]) (by kernel_rfl) (by simp) ?_
       refine AllReadyIn.cons rfl (fun K hK=>?_) AllReadyIn.nil
       refine stepIn_append_lies _ (by rfl) _ _ _ (by rfl) w.heap.size 32 i0 _ 1 16 Tryz.underlying86 hi0 hz0 hz1 hz2 rfl (by omega) _ pre.length (pre.map fun t=>iv t.1) (by rfl) (owd.alloc _) ⟨Wd.heap.size,0,none⟩ 1 1 [.iface 100 (.string key)] (by rfl) (by rfl) news1 (by simp [Value.oneCell']) (by omega) hmx (by omega) hbs (Wd.heap.size+1) (by simp) ?_
       intro g2 cap2 w2 ow2 hgr hat hlt2
       obtain ⟨d0,d1,d2⟩:=hst g2 cap2 w2 ow2 hgr hat
       refine hK _ _ ?_
       clear hK K
       refine wpAnyIn_ready (rs:=[8]) (by kernel_rfl) (by simp) ?_
       refine AllReadyIn.cons rfl (fun K hK=>?_) AllReadyIn.nil
       go_simp
       refine hK _ _ ?_
       clear hK K
       refine wpAnyIn_done (by kernel_rfl) ?_ _
       gi_wp2
       obtain ⟨hC,fr2⟩:=CSg.came (cf:=fun t=>iv t.1) (x:=keyS key) (by decide) rfl (by omega) (by omega) (by omega) b1d owd hl1d hd1d kd hf (fun k hk=>by have:=hFl k hk;have:=hsd.out;omega) ow2 hgr hat
       have hl3:_=some (Obj.loop _):=hC.2.2.2.2.choose_spec.2.2.1
       have frA:Fr (fun k=>k=w.heap.size∨k=w1.heap.size+1∨some k=(Value.slice va vl vc).ownBlock) W _:=(fr1d.mono (E:=fun k=>k=w.heap.size∨k=w1.heap.size+1∨some k=(Value.slice va vl vc).ownBlock) (fun _ e=>.inr (.inl e))).trans fr2 (fun _ _ e=>e.elim .inl (fun h=>.inr (.inr h)))
       refine ⟨_,_,run_endRound none hl3,rfl,hC.put,?_⟩
       exact ⟨frA.os,frA.tape,frA.output,by have:=frA.size;simpa [World.putObj] using this,fun k hk e=>(World.putObj_heap_other (fun h=>e (.inr (.inl h)))).trans (frA.block k hk e)⟩
      ·go_simp;refine hK _ _ ?_;clear hK K
       refine wpAnyIn_ready (rs:=[0,5]) (by kernel_rfl) (by simp) ?_
       refine AllReadyIn.cons rfl (fun K hK=>?_) (AllReadyIn.cons rfl (fun K hK=>?_) AllReadyIn.nil)
       ·go_simp;refine hK _ _ ?_;clear hK K
        refine wpAnyIn_ready (rs:=[5]) (by kernel_rfl) (by simp) ?_
        refine AllReadyIn.cons rfl (fun K hK=>?_) AllReadyIn.nil
        go_simp;refine hK _ _ ?_;clear hK K
        refine wpAnyIn_ready (rs:=[6]) (by kernel_rfl) (by simp) ?_
        refine AllReadyIn.cons rfl (fun K hK=>?_) AllReadyIn.nil
        go_simp;refine hK _ _ ?_;clear hK K
        refine wpAnyIn_ready (rs:=[7]) (by kernel_rfl) (by simp) ?_
        refine AllReadyIn.cons rfl (fun K hK=>?_) AllReadyIn.nil
        refine stepIn_append_lies _ (by rfl) _ _ _ (by rfl) w.heap.size 32 i0 _ 1 16 Tryz.underlying86 hi0 hz0 hz1 hz2 rfl (by omega) _ pre.length (pre.map fun t=>iv t.1) (by rfl) (owd.alloc _) ⟨Wd.heap.size,0,none⟩ 1 1 [.iface 100 (.string key)] (by rfl) (by rfl) news1 (by simp [Value.oneCell']) (by omega) hmx (by omega) hbs (Wd.heap.size+1) (by simp) ?_
        intro g2 cap2 w2 ow2 hgr hat hlt2
        obtain ⟨d0,d1,d2⟩:=hst g2 cap2 w2 ow2 hgr hat
        refine hK _ _ ?_
        clear hK K
        refine wpAnyIn_ready (rs:=[8]) (by kernel_rfl) (by simp) ?_
        refine AllReadyIn.cons rfl (fun K hK=>?_) AllReadyIn.nil
        go_simp
        refine hK _ _ ?_
        clear hK K
        refine wpAnyIn_done (by kernel_rfl) ?_ _
        gi_wp2
        obtain ⟨hC,fr2⟩:=CSg.came (cf:=fun t=>iv t.1) (x:=keyS key) (by decide) rfl (by omega) (by omega) (by omega) b1d owd hl1d hd1d kd hf (fun k hk=>by have:=hFl k hk;have:=hsd.out;omega) ow2 hgr hat
        have hl3:_=some (Obj.loop _):=hC.2.2.2.2.choose_spec.2.2.1
        have frA:Fr (fun k=>k=w.heap.size∨k=w1.heap.size+1∨some k=(Value.slice va vl vc).ownBlock) W _:=(fr1d.mono (E:=fun k=>k=w.heap.size∨k=w1.heap.size+1∨some k=(Value.slice va vl vc).ownBlock) (fun _ e=>.inr (.inl e))).trans fr2 (fun _ _ e=>e.elim .inl (fun h=>.inr (.inr h)))
        refine ⟨_,_,run_endRound none hl3,rfl,hC.put,?_⟩
        exact ⟨frA.os,frA.tape,frA.output,by have:=frA.size;simpa [World.putObj] using this,fun k hk e=>(World.putObj_heap_other (fun h=>e (.inr (.inl h)))).trans (frA.block k hk e)⟩
       ·go_simp;refine hK _ _ ?_;clear hK K
        refine wpAnyIn_ready (rs:=[0,6]) (by kernel_rfl) (by simp) ?_
        refine AllReadyIn.cons rfl (fun K hK=>?_) (AllReadyIn.cons rfl (fun K hK=>?_) AllReadyIn.nil)
        ·go_simp;refine hK _ _ ?_;clear hK K
         refine wpAnyIn_ready (rs:=[6]) (by kernel_rfl) (by simp) ?_
         refine AllReadyIn.cons rfl (fun K hK=>?_) AllReadyIn.nil
         go_simp;refine hK _ _ ?_;clear hK K
         refine wpAnyIn_ready (rs:=[7]) (by kernel_rfl) (by simp) ?_
         refine AllReadyIn.cons rfl (fun K hK=>?_) AllReadyIn.nil
         refine stepIn_append_lies _ (by rfl) _ _ _ (by rfl) w.heap.size 32 i0 _ 1 16 Tryz.underlying86 hi0 hz0 hz1 hz2 rfl (by omega) _ pre.length (pre.map fun t=>iv t.1) (by rfl) (owd.alloc _) ⟨Wd.heap.size,0,none⟩ 1 1 [.iface 100 (.string key)] (by rfl) (by rfl) news1 (by simp [Value.oneCell']) (by omega) hmx (by omega) hbs (Wd.heap.size+1) (by simp) ?_
         intro g2 cap2 w2 ow2 hgr hat hlt2
         obtain ⟨d0,d1,d2⟩:=hst g2 cap2 w2 ow2 hgr hat
         refine hK _ _ ?_
         clear hK K
         refine wpAnyIn_ready (rs:=[8]) (by kernel_rfl) (by simp) ?_
         refine AllReadyIn.cons rfl (fun K hK=>?_) AllReadyIn.nil
         go_simp
         refine hK _ _ ?_
         clear hK K
         refine wpAnyIn_done (by kernel_rfl) ?_ _
         gi_wp2
         obtain ⟨hC,fr2⟩:=CSg.came (cf:=fun t=>iv t.1) (x:=keyS key) (by decide) rfl (by omega) (by omega) (by omega) b1d owd hl1d hd1d kd hf (fun k hk=>by have:=hFl k hk;have:=hsd.out;omega) ow2 hgr hat
         have hl3:_=some (Obj.loop _):=hC.2.2.2.2.choose_spec.2.2.1
         have frA:Fr (fun k=>k=w.heap.size∨k=w1.heap.size+1∨some k=(Value.slice va vl vc).ownBlock) W _:=(fr1d.mono (E:=fun k=>k=w.heap.size∨k=w1.heap.size+1∨some k=(Value.slice va vl vc).ownBlock) (fun _ e=>.inr (.inl e))).trans fr2 (fun _ _ e=>e.elim .inl (fun h=>.inr (.inr h)))
         refine ⟨_,_,run_endRound none hl3,rfl,hC.put,?_⟩
         exact ⟨frA.os,frA.tape,frA.output,by have:=frA.size;simpa [World.putObj] using this,fun k hk e=>(World.putObj_heap_other (fun h=>e (.inr (.inl h)))).trans (frA.block k hk e)⟩
        ·go_simp;refine hK _ _ ?_;clear hK K
         refine wpAnyIn_ready (rs:=[0]) (by kernel_rfl) (by simp) ?_
         refine AllReadyIn.cons rfl (fun K hK=>?_) AllReadyIn.nil
         go_simp;refine hK _ _ ?_;clear hK K
         refine wpAnyIn_ready (rs:=[7]) (by kernel_rfl) (by simp) ?_
         refine AllReadyIn.cons rfl (fun K hK=>?_) AllReadyIn.nil
         refine stepIn_append_lies _ (by rfl) _ _ _ (by rfl) w.heap.size 32 i0 _ 1 16 Tryz.underlying86 hi0 hz0 hz1 hz2 rfl (by omega) _ pre.length (pre.map fun t=>iv t.1) (by rfl) (owd.alloc _) ⟨Wd.heap.size,0,none⟩ 1 1 [.iface 100 (.string key)] (by rfl) (by rfl) news1 (by simp [Value.oneCell']) (by omega) hmx (by omega) hbs (Wd.heap.size+1) (by simp) ?_
         intro g2 cap2 w2 ow2 hgr hat hlt2
         obtain ⟨d0,d1,d2⟩:=hst g2 cap2 w2 ow2 hgr hat
         refine hK _ _ ?_
         clear hK K
         refine wpAnyIn_ready (rs:=[8]) (by kernel_rfl) (by simp) ?_
         refine AllReadyIn.cons rfl (fun K hK=>?_) AllReadyIn.nil
         go_simp
         refine hK _ _ ?_
         clear hK K
         refine wpAnyIn_done (by kernel_rfl) ?_ _
         gi_wp2
         obtain ⟨hC,fr2⟩:=CSg.came (cf:=fun t=>iv t.1) (x:=keyS key) (by decide) rfl (by omega) (by omega) (by omega) b1d owd hl1d hd1d kd hf (fun k hk=>by have:=hFl k hk;have:=hsd.out;omega) ow2 hgr hat
         have hl3:_=some (Obj.loop _):=hC.2.2.2.2.choose_spec.2.2.1
         have frA:Fr (fun k=>k=w.heap.size∨k=w1.heap.size+1∨some k=(Value.slice va vl vc).ownBlock) W _:=(fr1d.mono (E:=fun k=>k=w.heap.size∨k=w1.heap.size+1∨some k=(Value.slice va vl vc).ownBlock) (fun _ e=>.inr (.inl e))).trans fr2 (fun _ _ e=>e.elim .inl (fun h=>.inr (.inr h)))
         refine ⟨_,_,run_endRound none hl3,rfl,hC.put,?_⟩
         exact ⟨frA.os,frA.tape,frA.output,by have:=frA.size;simpa [World.putObj] using this,fun k hk e=>(World.putObj_heap_other (fun h=>e (.inr (.inl h)))).trans (frA.block k hk e)⟩
  ·rintro e W2 ⟨⟨v,rfl⟩,G,hC⟩
   obtain ⟨-,-,-,-,v2,bv,ov,hl,hd,hb2,hGo⟩:=hC
   obtain ⟨va,vl,vc,rfl⟩:=owns_shape1 ov
   have p0:∀ o,(W2.putObj (w1.heap.size+1) o).cell? ⟨w.heap.size,0,none⟩=some (.slice va vl vc):=fun o=>Box.cell (bv.same (World.putObj_heap_other (by omega)))
   have p1:∀ o,(W2.putObj (w1.heap.size+1) o).heap[w1.heap.size]? = some (.deferred (some [])):=fun o=>(World.putObj_heap_other (by omega)).trans hd
   have p2:∀ o,Below w.heap.size w (W2.putObj (w1.heap.size+1) o):=fun o=>hb2.trans ⟨rfl,rfl,rfl,by simp [World.putObj],fun k hk=>World.putObj_heap_other (by omega)⟩
   have n1:=own_otherg ov hl (fun cs h=>by cases h)
   have nD:=own_otherg ov hd (fun cs h=>by cases h)
   have p5:∀ o o',((W2.putObj (w1.heap.size+1) o).putObj w1.heap.size o').ownsRow w.heap.size 32 1 (.slice va vl vc) L.length (L.map fun t=>iv (strS t.1)):=fun o o'=>by
    have:=owns_same (w':=(W2.putObj (w1.heap.size+1) o).putObj w1.heap.size o') ov (fun q hq=>(World.putObj_heap_other (fun e=>nD (by rw [← e];exact hq.symm))).trans (World.putObj_heap_other (fun e=>n1 (by rw [← e];exact hq.symm))))
    simpa [keyS,List.map_map,Function.comp_def] using this
   refine ⟨none,_,run_endLoop hl (by simp),?_⟩
   gi_wp2
   refine ⟨by simp,.inl ⟨_,_,rfl,run_takeDeferred (p1 _),?_⟩⟩
   exact ⟨_,results_tmp rfl _ _ _,(p2 _).trans ⟨rfl,rfl,rfl,by simp [World.putObj],fun k hk=>World.putObj_heap_other (by omega)⟩,.slice va vl vc,rfl,p5 _ _⟩
end Go.Proofs.Tryz
namespace Go.Proofs.Tryz
set_option maxHeartbeats 16000000
open Go.RowKit
set_option maxRecDepth 10000
def sKNull:ByteArray:=⟨#[110,117,108,108]⟩
def sKBool:ByteArray:=⟨#[98,111,111,108,101,97,110]⟩
def sKNumber:ByteArray:=⟨#[110,117,109,98,101,114]⟩
def sKString:ByteArray:=⟨#[115,116,114,105,110,103]⟩
def sKArray:ByteArray:=⟨#[97,114,114,97,121]⟩
def sKObject:ByteArray:=⟨#[111,98,106,101,99,116]⟩
def kindN (T:Nat):ByteArray:=if T=95 then sKNull else if T=96 then sKBool else if T=98 then sKNumber else if T=100 then sKString else if T=86 then sKArray else sKObject
def IsKind (T:Nat):Prop:=T=95∨T=96∨T=98∨T=100∨T=86∨T=102
theorem kindName_ok {T:Nat}{u:Value}{w:World} (hT:IsKind T):Calls Tryz.prog 211 #[.iface T u] w fun e w'=>e = .returned (.string (kindN T))∧Below w.heap.size w w':=by
 have m0:=missVNull;have m1:=missVBool;have m2:=missVNumber;have m3:=missVString;have m4:=missVArray;have m5:=missVObject
 have h0:=hitVNull;have h1:=hitVBool;have h2:=hitVNumber;have h3:=hitVString;have h4:=hitVArray;have h5:=hitVObject
 rcases hT with rfl | rfl | rfl | rfl | rfl | rfl
 all_goals
  go_enter Tryz.func211,Tryz.ntmps211
  go_wp2_with fail
  go_ret
  first
   | exact ⟨rfl,Below.refl _ _⟩
   | exact ⟨rfl,below_alloc _ _⟩
   | exact ⟨rfl,below_alloc2 _ _ _⟩
theorem alone_type {C:Nat→Prop}{w0:World}{x:IV} (hT:IsKind x.1):AloneG C w0 ⟨#[116,121,112,101]⟩ x (Just (strI (kindN x.1),none)):=by
 intro w hs hl
 obtain ⟨T,u⟩:=x
 have HK:∀ w1,Calls Tryz.prog 211 #[.iface T u] w1 fun e w'=>e = .returned (.string (kindN T))∧Below w1.heap.size w1 w':=fun w1=>kindName_ok hT
 simp only [iv]
 go_enter Tryz.func165,Tryz.ntmps165
 go_wp2_with (go_at_call 211;refine (HK _).mono ?_;rintro e w1 ⟨rfl,k1⟩)
 go_ret
 exact ⟨k1,strI (kindN T),fun _=>False,rfl,just_holds _ _,fun _ h=>h.elim⟩
theorem notNamed_type:NotNamed ⟨#[116,121,112,101]⟩:=by refine ⟨?_,?_,?_,?_,?_⟩ <;> simp [go_sem]
theorem notGiven_type:NotGiven ⟨#[116,121,112,101]⟩:=by refine ⟨?_,?_,?_⟩ <;> simp [go_sem]
theorem notNamed_keys:NotNamed ⟨#[107,101,121,115]⟩:=by refine ⟨?_,?_,?_,?_,?_⟩ <;> simp [go_sem]
theorem notGiven_keys:NotGiven ⟨#[107,101,121,115]⟩:=by refine ⟨?_,?_,?_⟩ <;> simp [go_sem]
def ElP (T:Nat) (c:Bys):SP:=fun w s=>s.2=none∧s.1.1=T∧c.length≤10000000∧∃ d P,RepV w P d s.1 c
theorem repV_kind {w:World}{P:Nat→Prop}:∀ {d:Nat}{x:IV}{c:Bys},RepV w P d x c→IsKind x.1
 | 0,x,c,h=>by
  rcases h with ⟨rfl,_⟩ | ⟨b,rfl,_⟩ | ⟨n,_,_,rfl,_⟩ | ⟨t,_,rfl,_⟩
  ·exact .inl rfl
  ·exact .inr (.inl rfl)
  ·exact .inr (.inr (.inl rfl))
  ·exact .inr (.inr (.inr (.inl rfl)))
 | d+1,x,c,h=>by
  rcases h with h | ⟨r,its,rfl,_⟩ | ⟨r,ms,rfl,_⟩
  ·exact repV_kind (w:=w) (P:=P) (d:=0) h
  ·exact .inr (.inr (.inr (.inr (.inl rfl))))
  ·exact .inr (.inr (.inr (.inr (.inr rfl))))
theorem obj_open {w:World}{P:Nat→Prop}{d:Nat}{r:Value}{c:Bys} (h:RepV w P d (102,r) c):∃ ms:List El,w.ownsRow 0 107 2 r ms.length (ms.flatMap elC)∧ms.length≤c.length∧RiseE ms:=by
 have leaf:leafV (102,r) c→False:=fun h=>by
  rcases h with ⟨h,_⟩ | ⟨b,h,_⟩ | ⟨n,_,_,h,_⟩ | ⟨t,_,h,_⟩ <;> simp at h
 cases d with
 | zero=>exact (leaf h).elim
 | succ d =>
  rcases h with h | ⟨r,its,h,_⟩ | ⟨r',ms,h,ow,_,_,e,hr⟩
  ·exact (leaf h).elim
  ·simp at h
  ·cases h
   refine ⟨ms,ow,?_,hr⟩
   have h4:((ms.map fun x=>(elKey x,x.2.2)).map memT).length≤(objT (ms.map fun x=>(elKey x,x.2.2))).length:=by
    cases hm:ms.map (fun x=>(elKey x,x.2.2)) with
    | nil=>simp
    | cons m r =>
     have h1:=join_len (memT m) (r.map memT)
     have h2:=lens_ge ((m :: r).map memT)
     have h3:=len_le_sum List.length ((m :: r).map memT) (fun t ht=>by
      obtain ⟨k,_,rfl⟩:=List.mem_map.1 ht
      simp [memT]
      omega)
     simp only [objT,List.map_cons,List.length_cons,List.length_append,List.length_nil,List.length_map,List.sum_cons] at h1 h2 h3 ⊢
     omega
   rw [e]
   simpa using h4
def keyE (t:El):En:=(strI t.1,3 :: strC t.1.data.toList,1)
theorem alone_keys {C:Nat→Prop}{w0:World}{x:IV}{c:Bys} (hx:HoldsP (ElP 102 c) C w0 (x,none)):∃ cs:List (List Int),cs.Pairwise (fun a b=>lexC a b≤0)∧cs.length≤90000000∧AloneG C w0 ⟨#[107,101,121,115]⟩ x (ArrC cs):=by
 obtain ⟨_,hT,hc,d,P,hr⟩:=hx.masked
 obtain ⟨T,r⟩:=x
 simp only at hT
 subst hT
 obtain ⟨ms,ow,hlen,hrise⟩:=obj_open hr
 refine ⟨ms.map fun t=>3 :: strC t.1.data.toList,?_,by rw [List.length_map];omega,?_⟩
 ·rw [List.pairwise_map]
  refine List.Pairwise.imp ?_ hrise
  intro a b hab
  have hk:Lib.compareBytes a.1.data.toList b.1.data.toList < 0:=hab
  have e:=strC_cmp a.1.data.toList b.1.data.toList [] []
  rw [List.append_nil,List.append_nil] at e
  rw [lexC_cons,e]
  split
  ·simp [lexC]
  ·omega
 ·intro w hs hl
  have kv:KeptV (maskU C w0) w:=kept_mask hs
  have HK:∀ w1,Below w.heap.size w w1→Calls Tryz.prog 213 #[.iface 102 r] w1 fun e w'=>Below w1.heap.size w1 w'∧∃ v,e = .returned (.iface 86 v)∧w'.ownsRow w1.heap.size 32 1 v ms.length (ms.map fun t=>iv (strS t.1)):=fun w1 k=>keys_okg (owns_same (kv.rowM ow) (fun g hg=>k.block g ((kv.rowM ow).lt g hg).2)) (by omega)
  have HK0:=HK w (Below.refl _ _)
  clear HK
  simp only [iv]
  go_enter Tryz.func165,Tryz.ntmps165
  go_wp2_with (go_at_call 213;refine HK0.mono ?_;rintro e w1 ⟨k1,v,rfl,ow1⟩)
  go_ret
  refine ⟨k1,(86,v),fun k=>v.ownBlock=some k,rfl,⟨fun k hk=>(ow1.lt k hk).2,fun w' hs' _=>⟨rfl,v,ms.map keyE,rfl,?_,?_,?_,?_⟩⟩,fun k hk=>.inr (ow1.lt k hk).1⟩
  ·have:=own_low (owns_same ow1 (fun g hg=>hs' g hg))
   rw [List.length_map,List.map_map]
   exact this
  ·intro t ht
   obtain ⟨m,_,rfl⟩:=List.mem_map.1 ht
   exact ⟨0,⟨Nat.le_refl _,.inr (.inr (.inr ⟨m.1,rfl,rfl⟩))⟩,by show 1≤100000000;omega⟩
  ·rw [List.map_map];rfl
  ·rw [List.map_map,show ((fun x:En=>x.2.2) ∘ keyE)=fun _=>1 from rfl,List.map_const',List.sum_replicate_nat]
   omega
end Go.Proofs.Tryz
