import Derived.Test.YtbhajhlhgbnhbaaGreatDoorFs10
import Derived.Laws.OwnMore
import Derived.Deep.RegionLaw
import Derived.Deep.AppendLies
set_option linter.all false
namespace Go.Proofs.Tryz
set_option maxHeartbeats 16000000
open Go.RowKit
set_option maxRecDepth 10000
def blk (s:ByteArray) (a:Nat):Nat:=blanksV s (s.size+1) a
theorem blanksV_le {s:ByteArray}:∀ (k a:Nat),a≤s.size→a≤blanksV s k a∧blanksV s k a≤s.size
 | 0,a,h=>⟨Nat.le_refl _,h⟩
 | k+1,a,h=>by
  unfold blanksV
  split
  ·rename_i hb
   have:=blank_lt hb
   have:=blanksV_le (s:=s) k (a+1) (by omega)
   omega
  ·exact ⟨Nat.le_refl _,h⟩
theorem blk_le {s:ByteArray}{a:Nat} (h:a≤s.size):a≤blk s a∧blk s a≤s.size:=blanksV_le _ _ h
def keyAt (s:ByteArray) (a:Nat):List UInt8×Nat×Bool :=
 if byteAt s (blk s a)=34 then
  if (strAt s (blk s a)).2.2 then
   if byteAt s (blk s (strAt s (blk s a)).2.1)=58 then ((strAt s (blk s a)).1,blk s (strAt s (blk s a)).2.1+1,true)
   else ([],blk s (strAt s (blk s a)).2.1,false)
  else ([],(strAt s (blk s a)).2.1,false)
 else ([],blk s a,false)
theorem keyAt_le {s:ByteArray}{a:Nat} (h:a≤s.size):(keyAt s a).2.1≤s.size:=by
 have h1:=(blk_le h).2
 unfold keyAt
 split
 ·rename_i h34
  have hlt:blk s a < s.size:=byte_pos (by rw [h34];omega)
  have h2:=strAt_le hlt
  split
  ·split
   ·rename_i h58
    have:blk s (strAt s (blk s a)).2.1 < s.size:=byte_pos (by rw [h58];omega)
    simp only;omega
   ·exact (blk_le h2).2
  ·exact h2
 ·exact h1
def TopAt (w:World) (g o:Nat) (h:Hd):Prop:=∃ cs,w.heap[g]? = some (.cells cs 89 (0,0))∧∀ i v,h.cells[i]? = some v→cs[o+i]? = some v
theorem TopAt.same {w w':World}{g o:Nat}{h:Hd} (t:TopAt w g o h) (e:w'.heap[g]? = w.heap[g]?):TopAt w' g o h:=by
 obtain ⟨cs,h0,h1⟩:=t
 exact ⟨cs,e.trans h0,h1⟩
theorem TopAt.facts {w:World}{g o:Nat}{h:Hd} (t:TopAt w g o h):w.cell? ⟨g,o,none⟩=some (.int .u8 (if h.obj then 125 else 93))∧w.cell? ⟨g,o+1,none⟩=some (if h.obj then .slice none 0 0 else h.row)∧w.cell? ⟨g,o+2,none⟩=some (if h.obj then h.row else .slice none 0 0)∧w.cell? ⟨g,o+3,none⟩=some (.string h.key)∧(∀ q,w.frozen? ⟨g,q,none⟩=false)∧g < w.heap.size:=by
 obtain ⟨cs,h0,h1⟩:=t
 exact ⟨cells_cell h0 (h1 0 _ rfl),cells_cell h0 (h1 1 _ rfl),cells_cell h0 (h1 2 _ rfl),cells_cell h0 (h1 3 _ rfl),fun q=>cells_free h0,lt_of_block h0⟩
theorem Stk.top {w:World}{vb:Nat}{ov:Value}{lo:List Hd}{h:Hd} (st:Stk w vb ov (lo ++ [h])):∃ g cap,ov = .slice (some ⟨g,0,none⟩) (lo.length+1) cap∧vb < g∧lo.length+1≤cap∧cap≤9223372036854775807∧TopAt w g (lo.length * 4) h:=by
 have ow:=st.own
 rw [List.length_append,List.length_singleton] at ow
 rcases ow.2 with ⟨_,h0⟩ | ⟨g,cap,cur,e,hg,hb,hn,hm,hs,ht⟩
 ·omega
 ·refine ⟨g,cap,e,hg,hn,by simpa [maxLen] using hm,cur,hb,fun i v hi=>?_⟩
  have hi4:i < 4:=by have:=(List.getElem?_eq_some_iff.1 hi).1;simpa [Hd.cells] using this
  have h2:cur.toList[lo.length * 4+i]? = some v:=by
   rw [← List.getElem?_take_of_lt (show lo.length * 4+i < (lo.length+1) * 4 by omega),ht,List.flatMap_append,List.getElem?_append_right (by rw [cells_len];omega),cells_len,Nat.add_sub_cancel_left]
   simpa using hi
  simpa using h2
theorem row_ne {w:World}{vb b:Nat}{P:Nat→Prop}{x:Hd}{cs:Array Value} (ok:HOk w vb P x) (hx:x.row.ownBlock=some b) (hb:w.heap[b]? = some (.cells cs 89 (0,0))):False:=by
 unfold HOk at ok
 split at ok
 ·rcases ok.1.2 with ⟨e,_⟩ | ⟨g',c',cur,e,_,hg,_⟩
  ·rw [e] at hx;cases hx
  ·rw [e] at hx;cases hx;rw [hb] at hg;simp at hg
 ·rcases ok.1.2 with ⟨e,_⟩ | ⟨g',c',cur,e,_,hg,_⟩
  ·rw [e] at hx;cases hx
  ·rw [e] at hx;cases hx;rw [hb] at hg;simp at hg
theorem row_ov {w:World}{vb b:Nat}{P:Nat→Prop}{x:Hd}{ov:Value}{N n:Nat}{xs:List Value} (ok:HOk w vb P x) (ow:w.ownsRow N 89 4 ov n xs) (hx:x.row.ownBlock=some b):ov.ownBlock≠some b:=by
 intro e
 rcases ow.2 with ⟨e',_⟩ | ⟨g',c',cur,e',_,hg,_⟩
 ·rw [e'] at e;cases e
 ·rw [e'] at e;cases e;exact row_ne ok hx hg
theorem Stk.change {w w':World}{vb:Nat}{ov ov':Value}{lo:List Hd}{h h':Hd} (st:Stk w vb ov (lo ++ [h])) (hz:w.heap.size≤w'.heap.size)
  (own:w'.ownsRow (vb+1) 89 4 ov' (lo.length+1) ((lo ++ [h']).flatMap Hd.cells))
  (fr:∀ b,vb < b→b < w.heap.size→ov.ownBlock≠some b→h.row.ownBlock≠some b→w'.heap[b]? = w.heap[b]?)
  (hov:ov'.ownBlock=ov.ownBlock∨∃ j,ov'.ownBlock=some j∧w.heap.size≤j)
  (hrow:h'.row.ownBlock=h.row.ownBlock∨∃ j,h'.row.ownBlock=some j∧w.heap.size≤j) :
  (∀ b,Done w vb ov (lo ++ [h]) b→Done w' vb ov' (lo ++ [h']) b∧w'.heap[b]? = w.heap[b]?)∧(HOk w' vb (Done w' vb ov' (lo ++ [h'])) h'→Stk w' vb ov' (lo ++ [h'])):=by
 have hmem:h∈lo ++ [h]:=by simp
 have hd:∀ b,Done w vb ov (lo ++ [h]) b→Done w' vb ov' (lo ++ [h']) b∧w'.heap[b]? = w.heap[b]?:=fun b hb=>by
  have n1:ov.ownBlock≠some b:=fun e=>hb.2.2 (.inl e)
  have n2:h.row.ownBlock≠some b:=fun e=>hb.2.2 (.inr ⟨h,hmem,e⟩)
  refine ⟨⟨hb.1,Nat.lt_of_lt_of_le hb.2.1 hz,fun hm=>?_⟩,fr b hb.1 hb.2.1 n1 n2⟩
  rcases hm with e | ⟨x,hx,e⟩
  ·rcases hov with e' | ⟨j,e',hj⟩
   ·exact n1 (e' ▸ e)
   ·rw [e'] at e;cases e;have:=hb.2.1;omega
  ·rcases List.mem_append.1 hx with hx | hx
   ·exact hb.2.2 (.inr ⟨x,by simp [hx],e⟩)
   ·rw [List.mem_singleton] at hx
    subst hx
    rcases hrow with e' | ⟨j,e',hj⟩
    ·exact n2 (e' ▸ e)
    ·rw [e'] at e;cases e;have:=hb.2.1;omega
 have hap:=List.pairwise_append.1 st.apart
 refine ⟨hd,fun ok'=>⟨by rw [List.length_append,List.length_singleton];exact own,fun x hx=>?_,?_⟩⟩
 ·rcases List.mem_append.1 hx with hx | hx
  ·have okx:=st.ok x (by simp [hx])
   refine okx.mono (fun g hg=>fr g (okx.range g hg).1 (okx.range g hg).2 (row_ov okx st.own hg) (hap.2.2 x hx h (by simp) g hg)) hd
  ·rw [List.mem_singleton] at hx
   subst hx
   exact ok'
 ·refine List.pairwise_append.2 ⟨hap.1,by simp,fun x hx y hy b hb=>?_⟩
  rw [List.mem_singleton] at hy
  subst hy
  rcases hrow with e' | ⟨j,e',hj⟩
  ·rw [e'];exact hap.2.2 x hx h (by simp) b hb
  ·rw [e']
   intro e;cases e
   have:=((st.ok x (by simp [hx])).range _ hb).2
   omega
theorem Stk.push {w w':World}{vb:Nat}{ov ov':Value}{hs:List Hd}{n:Hd} (st:Stk w vb ov hs) (hz:w.heap.size≤w'.heap.size)
  (own:w'.ownsRow (vb+1) 89 4 ov' (hs.length+1) ((hs ++ [n]).flatMap Hd.cells))
  (fr:∀ b,vb < b→b < w.heap.size→ov.ownBlock≠some b→w'.heap[b]? = w.heap[b]?)
  (hov:ov'.ownBlock=ov.ownBlock∨∃ j,ov'.ownBlock=some j∧w.heap.size≤j)
  (hn:n.row = .slice none 0 0) (hi:n.its=[]) (hm:n.ms=[]):Stk w' vb ov' (hs ++ [n]):=by
 have hnb:n.row.ownBlock=none:=by rw [hn];rfl
 have hd:∀ b,Done w vb ov hs b→Done w' vb ov' (hs ++ [n]) b∧w'.heap[b]? = w.heap[b]?:=fun b hb=>by
  have n1:ov.ownBlock≠some b:=fun e=>hb.2.2 (.inl e)
  refine ⟨⟨hb.1,Nat.lt_of_lt_of_le hb.2.1 hz,fun hm=>?_⟩,fr b hb.1 hb.2.1 n1⟩
  rcases hm with e | ⟨x,hx,e⟩
  ·rcases hov with e' | ⟨j,e',hj⟩
   ·exact n1 (e' ▸ e)
   ·rw [e'] at e;cases e;have:=hb.2.1;omega
  ·rcases List.mem_append.1 hx with hx | hx
   ·exact hb.2.2 (.inr ⟨x,hx,e⟩)
   ·rw [List.mem_singleton] at hx
    subst hx
    rw [hnb] at e;cases e
 refine ⟨by rw [List.length_append,List.length_singleton];exact own,fun x hx=>?_,?_⟩
 ·rcases List.mem_append.1 hx with hx | hx
  ·have okx:=st.ok x hx
   exact okx.mono (fun g hg=>fr g (okx.range g hg).1 (okx.range g hg).2 (row_ov okx st.own hg)) hd
  ·rw [List.mem_singleton] at hx
   subst hx
   unfold HOk
   rw [hn,hi,hm]
   split
   ·exact ⟨World.ownsRow_nil _ _ _ _,by simp⟩
   ·exact ⟨World.ownsRow_nil _ _ _ _,by simp⟩
 ·refine List.pairwise_append.2 ⟨st.apart,by simp,fun x hx y hy b hb=>?_⟩
  rw [List.mem_singleton] at hy
  subst hy
  rw [hnb]
  exact fun e=>by cases e
theorem Stk.pop {w w':World}{vb g cap:Nat}{lo:List Hd}{h:Hd} (st:Stk w vb (.slice (some ⟨g,0,none⟩) (lo.length+1) cap) (lo ++ [h])) (hz:w.heap.size≤w'.heap.size)
  (fr:∀ b,vb < b→b < w.heap.size→h.row.ownBlock≠some b→w'.heap[b]? = w.heap[b]?) :
  Stk w' vb (.slice (some ⟨g,0,none⟩) lo.length cap) lo∧(∀ b,Done w vb (.slice (some ⟨g,0,none⟩) (lo.length+1) cap) (lo ++ [h]) b→Done w' vb (.slice (some ⟨g,0,none⟩) lo.length cap) lo b∧w'.heap[b]? = w.heap[b]?)∧(∀ b,h.row.ownBlock=some b→Done w' vb (.slice (some ⟨g,0,none⟩) lo.length cap) lo b):=by
 have hmem:h∈lo ++ [h]:=by simp
 have hap:=List.pairwise_append.1 st.apart
 have hd:∀ b,Done w vb (.slice (some ⟨g,0,none⟩) (lo.length+1) cap) (lo ++ [h]) b→Done w' vb (.slice (some ⟨g,0,none⟩) lo.length cap) lo b∧w'.heap[b]? = w.heap[b]?:=fun b hb=>by
  have n2:h.row.ownBlock≠some b:=fun e=>hb.2.2 (.inr ⟨h,hmem,e⟩)
  refine ⟨⟨hb.1,Nat.lt_of_lt_of_le hb.2.1 hz,fun hm=>hb.2.2 ?_⟩,fr b hb.1 hb.2.1 n2⟩
  rcases hm with e | ⟨x,hx,e⟩
  ·exact .inl e
  ·exact .inr ⟨x,by simp [hx],e⟩
 have ow:=st.own
 rw [List.length_append,List.length_singleton] at ow
 rcases ow.2 with ⟨h0,_⟩ | ⟨g',cap',cur,e,hg,hb,hn,hm,hs,ht⟩
 ·cases h0
 ·cases e
  have hg':w'.heap[g]? = w.heap[g]?:=fr g hg (lt_of_block hb) (fun e=>row_ne (st.ok h hmem) e hb)
  refine ⟨⟨⟨cells_len _,.inr ⟨g,cap,cur,rfl,hg,hg'.trans hb,by omega,hm,hs,?_⟩⟩,fun x hx=>?_,hap.1⟩,hd,fun b hbr=>?_⟩
  ·have:cur.toList.take (lo.length * 4)=(cur.toList.take ((lo.length+1) * 4)).take (lo.length * 4):=by
    rw [List.take_take];congr 1;omega
   rw [this,ht,List.flatMap_append,← cells_len lo,List.take_left]
  ·have okx:=st.ok x (by simp [hx])
   exact okx.mono (fun q hq=>fr q (okx.range q hq).1 (okx.range q hq).2 (hap.2.2 x hx h (by simp) q hq)) hd
  ·have hr:=(st.ok h hmem).range b hbr
   refine ⟨hr.1,Nat.lt_of_lt_of_le hr.2 hz,fun hm=>?_⟩
   rcases hm with e | ⟨x,hx,e⟩
   ·exact row_ov (st.ok h hmem) st.own hbr e
   ·exact hap.2.2 x hx h (by simp) b e hbr
theorem set_cells {lo:List Hd}{h h':Hd}{j:Nat}{u:Value} (hj:j < 4) (e:h.cells.set j u=h'.cells):((lo ++ [h]).flatMap Hd.cells).set (lo.length * 4+j) u=(lo ++ [h']).flatMap Hd.cells:=by
 rw [List.flatMap_append,List.flatMap_append,List.set_append_right _ _ (by rw [cells_len];omega),cells_len,Nat.add_sub_cancel_left]
 simp [e]
theorem Stk.stored {w:World}{vb g cap j:Nat}{lo:List Hd}{h h':Hd}{u:Value} (ow:w.ownsRow (vb+1) 89 4 (.slice (some ⟨g,0,none⟩) (lo.length+1) cap) (lo.length+1) ((lo ++ [h]).flatMap Hd.cells)) (hj:j < 4) (e:h.cells.set j u=h'.cells):(w.setCell ⟨g,lo.length * 4+j,none⟩ u).ownsRow (vb+1) 89 4 (.slice (some ⟨g,0,none⟩) (lo.length+1) cap) (lo.length+1) ((lo ++ [h']).flatMap Hd.cells):=by
 have:=ow.stored (lo.length * 4+j) u
 rw [set_cells hj e] at this
 exact this.1
theorem Stk.own1 {w:World}{vb:Nat}{ov:Value}{lo:List Hd}{h:Hd} (st:Stk w vb ov (lo ++ [h])):w.ownsRow (vb+1) 89 4 ov (lo.length+1) ((lo ++ [h]).flatMap Hd.cells):=by
 have:=st.own
 rwa [List.length_append,List.length_singleton] at this
theorem Stk.setKey {w:World}{vb g cap:Nat}{lo:List Hd}{h:Hd}{k:ByteArray} (st:Stk w vb (.slice (some ⟨g,0,none⟩) (lo.length+1) cap) (lo ++ [h])):Stk (w.setCell ⟨g,lo.length * 4+3,none⟩ (.string k)) vb (.slice (some ⟨g,0,none⟩) (lo.length+1) cap) (lo ++ [{ h with key:=k }]):=by
 have hother:∀ b,b≠g→(w.setCell ⟨g,lo.length * 4+3,none⟩ (.string k)).heap[b]? = w.heap[b]?:=fun b hne=>Below.heap_setCell _ _ _ _ (by simpa using hne)
 have c:=st.change (w':=w.setCell ⟨g,lo.length * 4+3,none⟩ (.string k)) (ov':=.slice (some ⟨g,0,none⟩) (lo.length+1) cap) (h':={ h with key:=k }) (by simp) (Stk.stored st.own1 (by omega) rfl) (fun b _ _ hb _=>hother b (fun e=>hb (by rw [e];rfl))) (.inl rfl) (.inl rfl)
 refine c.2 ?_
 have okh:=st.ok h (by simp)
 have:=okh.mono (w':=w.setCell ⟨g,lo.length * 4+3,none⟩ (.string k)) (fun b hb=>hother b (fun e=>row_ov okh st.own hb (by rw [e];rfl))) c.1
 exact this
def KeyEnd (R:List UInt8×Nat×Bool) (vb:Nat) (ov:Value) (lo:List Hd) (h:Hd) (w:World):Prop:=∃ k:ByteArray,k.data.toList=R.1∧(R.2.2=true→Stk w vb ov (lo ++ [{ h with key:=k }]))
theorem readKey_ok (hA:AppendsRune) {w:World}{vb a:Nat}{s:ByteArray}{ov:Value}{lo:List Hd}{h:Hd} (hv:VBlk w vb s a ov) (st:Stk w vb ov (lo ++ [h])) (ha:a≤s.size) (hm:s.size≤10000000) (hlo:lo.length≤1000) :
  Calls Tryz.prog 29 #[.pointer (some ⟨vb,0,none⟩)] w fun e w'=>e = .returned (.bool (keyAt s a).2.2)∧VBlk w' vb s (keyAt s a).2.1 ov∧KeyEnd (keyAt s a) vb ov lo h w'∧Fr (fun b=>vb≤b) w w':=by
 obtain ⟨g,cap,rfl,hgv,hcap,hcm,ht⟩:=st.top
 obtain ⟨c0,c1,c2,f0,f1,f2,hl⟩:=three_facts' hv
 have hbl:=blk_le ha
 have hsk:Calls Tryz.prog 26 #[.pointer (some ⟨vb,0,none⟩)] w fun e w'=>e = .returned (.tuple #[])∧VBlk w' vb s (blk s a) _∧Fr (· = vb) w w':=skipV_ok hv ha hm
 obtain ⟨R,hR⟩:∃ R,keyAt s a=R:=⟨_,rfl⟩
 rw [hR]
 unfold keyAt at hR
 obtain ⟨p,hp⟩:∃ p,blk s a=p:=⟨_,rfl⟩
 rw [hp] at hsk hbl hR
 have HS:Aside (Calls Tryz.prog 26 #[.pointer (some ⟨vb,0,none⟩)] w fun e w'=>e = .returned (.tuple #[])∧VBlk w' vb s p (.slice (some ⟨g,0,none⟩) (lo.length+1) cap)∧Fr (· = vb) w w'):=hsk
 have ST:Aside (Stk w vb (.slice (some ⟨g,0,none⟩) (lo.length+1) cap) (lo ++ [h])):=st
 clear hsk st hp
 by_cases h34:byteAt s p=34
 ·rw [if_pos h34] at hR
  have b34:(byteAt s p != 34)=false:=by simpa using h34
  have hlt:p < s.size:=byte_pos (by rw [h34];omega)
  obtain ⟨S,hS⟩:∃ S,strAt s p=S:=⟨_,rfl⟩
  have hSle:=strAt_le hlt
  rw [hS] at hSle hR
  have HRS:Aside (∀ w1,VBlk w1 vb s p (.slice (some ⟨g,0,none⟩) (lo.length+1) cap)→Calls Tryz.prog 69 #[.pointer (some ⟨vb,0,none⟩)] w1 fun e w'=>(∃ t:ByteArray,e = .returned (.tuple #[.string t,.bool S.2.2])∧t.data.toList=S.1)∧VBlk w' vb s S.2.1 (.slice (some ⟨g,0,none⟩) (lo.length+1) cap)∧Fr (· = vb) w1 w'):=by
   show ∀ w1,_→_
   intro w1 h1
   have:=readString_ok hA h1 hlt hm
   rwa [hS] at this
  clear hS h34
  obtain ⟨cs,q,ok⟩:=S
  simp only at hSle hR
  have HV2:Aside (∀ w1,VBlk w1 vb s q (.slice (some ⟨g,0,none⟩) (lo.length+1) cap)→Calls Tryz.prog 26 #[.pointer (some ⟨vb,0,none⟩)] w1 fun e w'=>e = .returned (.tuple #[])∧VBlk w' vb s (blk s q) (.slice (some ⟨g,0,none⟩) (lo.length+1) cap)∧Fr (· = vb) w1 w'):=by
   show ∀ w1,_→_
   exact fun w1 h1=>skipV_ok h1 hSle hm
  cases ok with
  | false =>
   have hr:([],q,false)=R:=by simpa using hR
   have HR:Hid _:=hr
   clear hr hR
   go_enter Tryz.func29,Tryz.ntmps29
   go_wp2_with fail
   refine Calls.mono HS.out ?_
   rintro e w1 ⟨rfl,v1,fr1⟩
   have hA1:=v1.va hbl.2 hm
   go_wp2_with (go_at_call 28;refine (nextV_ok hA1).mono ?_;rintro e w2 ⟨rfl,m,rfl⟩)
   refine Calls.mono (HRS.out _ (v1.drewN _)) ?_
   rintro e w3 ⟨⟨t,rfl,ht3⟩,v3,fr3⟩
   go_wp2_with fail
   refine bodyPost_ret (v:=.bool false) (by simp [results,Tryz.results29,go_sem]) rfl ?_
   rw [← HR.out]
   exact ⟨rfl,v3,⟨⟨#[]⟩,rfl,fun e=>by cases e⟩,((fr1.drewN _).trans fr3 (fun _ _ e=>e)).mono (fun _ e=>by omega)⟩
  | true =>
   obtain ⟨r,hr⟩:∃ r,blk s q=r:=⟨_,rfl⟩
   have hrl:=blk_le hSle
   rw [hr] at hrl HV2 hR
   simp only [if_true] at hR
   clear hr
   by_cases h58:byteAt s r=58
   ·rw [if_pos h58] at hR
    have b58:(byteAt s r != 58)=false:=by simpa using h58
    have hrlt:r < s.size:=byte_pos (by rw [h58];omega)
    have HR:Hid _:=hR
    clear hR h58
    go_enter Tryz.func29,Tryz.ntmps29
    go_wp2_with fail
    refine Calls.mono HS.out ?_
    rintro e w1 ⟨rfl,v1,fr1⟩
    have hA1:=v1.va hbl.2 hm
    go_wp2_with (go_at_call 28;refine (nextV_ok hA1).mono ?_;rintro e w2 ⟨rfl,m,rfl⟩)
    refine Calls.mono (HRS.out _ (v1.drewN _)) ?_
    rintro e w3 ⟨⟨t,rfl,ht3⟩,v3,fr3⟩
    go_wp2_with fail
    refine Calls.mono (HV2.out _ v3) ?_
    rintro e w4 ⟨rfl,v4,fr4⟩
    have hA4:=v4.va hrl.2 hm
    have fr14:Fr (· = vb) w w4:=((fr1.drewN m).trans fr3 (fun _ _ e=>e)).trans fr4 (fun _ _ e=>e)
    have t4:TopAt w4 g (lo.length * 4) h:=ht.same (fr14.block g ht.facts.2.2.2.2.2 (by omega))
    obtain ⟨d0,d1,d2,g0,g1,g2,dl⟩:=three_facts' v4
    obtain ⟨t0,t1,t2,t3,tf,tl⟩:=t4.facts
    have hgne:g≠vb:=by omega
    have hc1:((lo.length+1:Nat):Int) - 1=(lo.length:Int):=by omega
    go_wp2_with (go_at_call 28;refine (nextV_ok hA4).mono ?_;rintro e w5 ⟨rfl,m5,rfl⟩)
    have mixed:Tryz.prog.follows Departure.mixedOrders=true:=by kernel_rfl
    go_big_region_o
    go_wp2_with fail
    refine bodyPost_ret (v:=.bool true) (by simp [results,Tryz.results29,go_sem]) rfl ?_
    rw [← HR.out]
    have v5:VBlk ((w4.drewN m5).setCell ⟨vb,1,none⟩ (.int .i64 ((r:Int)+1))) vb s (r+1) (.slice (some ⟨g,0,none⟩) (lo.length+1) cap):=(v4.drewN m5).set (b:=r+1)
    have s5:Stk ((w4.drewN m5).setCell ⟨vb,1,none⟩ (.int .i64 ((r:Int)+1))) vb (.slice (some ⟨g,0,none⟩) (lo.length+1) cap) (lo ++ [h]):=(ST.out.frame fr14.vb fr14.size).frame (fun b hb _=>Below.heap_setCell _ _ _ _ (by simp;omega)) (by simp)
    refine ⟨rfl,v5.same (Below.heap_setCell _ _ _ _ (by simp;omega)),⟨t,ht3,fun _=>s5.setKey.frame (fun _ _ _=>rfl) (Nat.le_refl _)⟩,?_⟩
    have f1:Fr (fun b=>vb≤b) w w4:=fr14.mono (fun _ e=>by omega)
    exact (((f1.drewN m5).setCell _ (.inl (Nat.le_refl _))).setCell _ (.inl (Nat.le_of_lt hgv))).drewN 1
   ·rw [if_neg h58] at hR
    have b58:(byteAt s r != 58)=true:=by simpa using h58
    have HR:Hid _:=hR
    clear hR h58
    go_enter Tryz.func29,Tryz.ntmps29
    go_wp2_with fail
    refine Calls.mono HS.out ?_
    rintro e w1 ⟨rfl,v1,fr1⟩
    have hA1:=v1.va hbl.2 hm
    go_wp2_with (go_at_call 28;refine (nextV_ok hA1).mono ?_;rintro e w2 ⟨rfl,m,rfl⟩)
    refine Calls.mono (HRS.out _ (v1.drewN _)) ?_
    rintro e w3 ⟨⟨t,rfl,ht3⟩,v3,fr3⟩
    go_wp2_with fail
    refine Calls.mono (HV2.out _ v3) ?_
    rintro e w4 ⟨rfl,v4,fr4⟩
    have hA4:=v4.va hrl.2 hm
    go_wp2_with (go_at_call 28;refine (nextV_ok hA4).mono ?_;rintro e w5 ⟨rfl,m5,rfl⟩)
    refine bodyPost_ret (v:=.bool false) (by simp [results,Tryz.results29,go_sem]) rfl ?_
    rw [← HR.out]
    exact ⟨rfl,v4.drewN _,⟨⟨#[]⟩,rfl,fun e=>by cases e⟩,((((fr1.drewN _).trans fr3 (fun _ _ e=>e)).trans fr4 (fun _ _ e=>e)).drewN _).mono (fun _ e=>by omega)⟩
 ·rw [if_neg h34] at hR
  have b34:(byteAt s p != 34)=true:=by simpa using h34
  have HR:Hid _:=hR
  clear hR h34
  go_enter Tryz.func29,Tryz.ntmps29
  go_wp2_with fail
  refine Calls.mono HS.out ?_
  rintro e w1 ⟨rfl,v1,fr1⟩
  have hA1:=v1.va hbl.2 hm
  go_wp2_with (go_at_call 28;refine (nextV_ok hA1).mono ?_;rintro e w2 ⟨rfl,m,rfl⟩)
  refine bodyPost_ret (v:=.bool false) (by simp [results,Tryz.results29,go_sem]) rfl ?_
  rw [← HR.out]
  exact ⟨rfl,v1.drewN _,⟨⟨#[]⟩,rfl,fun e=>by cases e⟩,(fr1.drewN _).mono (fun _ e=>by omega)⟩
def Hd.add (h:Hd) (row:Value) (x:IV) (c:Bys):Hd:=if h.obj then { h with row:=row,ms:=h.ms ++ [(h.key,x,c)] } else { h with row:=row,its:=h.its ++ [(x,c)] }
theorem add_arr {w:World}{vb g cap:Nat}{lo:List Hd}{h:Hd}{T:Nat}{u:Value}{c:Bys} (st:Stk w vb (.slice (some ⟨g,0,none⟩) (lo.length+1) cap) (lo ++ [h])) (hv:Vl w (Done w vb (.slice (some ⟨g,0,none⟩) (lo.length+1) cap) (lo ++ [h])) (T,u) c) (ho:h.obj=false) (hk:h.its.length≤10000000) :
  Calls Tryz.prog 27 #[.pointer (some ⟨g,lo.length * 4,none⟩),.iface T u] w fun e w'=>e = .returned (.tuple #[])∧(∃ row,Stk w' vb (.slice (some ⟨g,0,none⟩) (lo.length+1) cap) (lo ++ [h.add row (T,u) c]))∧Fr (fun b=>vb < b) w w':=by
 obtain ⟨i0,hi0,hz0,hz1,hz2⟩:=info_parts (show (Tryz.prog.info? 32).map (fun i=>(i.zero,i.size,i.bytes))=some (some .nilIface,1,16) by kernel_rfl)
 obtain ⟨g',cap',e,hgv,hcap,hcm,ht⟩:=st.top
 cases e
 obtain ⟨t0,t1,t2,t3,tf,tl⟩:=ht.facts
 simp only [ho,Bool.false_eq_true,if_false] at t0 t1 t2
 have okh:=st.ok h (by simp)
 have okh0:=okh
 unfold HOk at okh
 simp only [ho,Bool.false_eq_true,if_false] at okh
 obtain ⟨ow,hvs⟩:=okh
 obtain ⟨ra,rl,rc,hrow⟩:=owns_shape ow
 have hrg:∀ b,h.row.ownBlock=some b→b≠g:=fun b hb e=>row_ov okh0 st.own hb (by rw [e];rfl)
 rw [hrow] at ow t1 hrg
 have ST:Aside _:=st
 have HV:Aside _:=hv
 have HVS:Aside _:=hvs
 have HRO:Hid _:=hrow
 clear st hv hvs hrow okh0 ht
 go_enter Tryz.func27,Tryz.ntmps27
 go_wp2_with (refine wpList_append_lies _ (by rfl) _ _ _ (by rfl) (vb+1) 32 i0 _ 1 16 Tryz.underlying86 hi0 hz0 hz1 hz2 rfl (by omega) _ h.its.length (h.its.map itC) (by rfl) (ow.alloc _) ⟨w.heap.size,0,none⟩ 1 1 [.iface T u] (by rfl) (by rfl) (World.news_of_block (cs:=#[.iface T u]) (t:=32) (fr:=(0,0)) (heap_new w _)) (by simp [Value.oneCell']) (by omega) (by unfold maxLen;omega) (by omega) (by simp;omega) (w.heap.size+1) (by simp) ?_;intro g2 cap2 w2 ow2 hgr hat hlt2;have h2:w2.cell? ⟨g,lo.length * 4+1,none⟩=some (.slice ra rl rc)∧w2.frozen? ⟨g,lo.length * 4+1,none⟩=false:=⟨(World.cell?_of_block (w:=w) ((hgr.block g (by simp;omega) (fun e=>hrg g e.symm rfl)).trans ((below_alloc w _).block g tl))).trans t1,(World.frozen?_of_block (w:=w) ((hgr.block g (by simp;omega) (fun e=>hrg g e.symm rfl)).trans ((below_alloc w _).block g tl))).trans (tf _)⟩;obtain ⟨d0,d1⟩:=h2)
 go_end0
 have st:=ST.out
 have hrow:=HRO.out
 have hg2:g2≠g:=by
  rcases hat with e | e
  ·exact fun e2=>hrg g2 e e2
  ·omega
 have hw2:∀ b,b < w.heap.size→h.row.ownBlock≠some b→w2.heap[b]? = w.heap[b]?:=fun b hb hn=>(hgr.block b (by simp;omega) (fun e=>hn (by rw [hrow];exact e.symm))).trans ((below_alloc w _).block b hb)
 have hset:∀ b,b≠g→(w2.setCell ⟨g,lo.length * 4+1,none⟩ (.slice (some ⟨g2,0,none⟩) (h.its.length+1) cap2)).heap[b]? = w2.heap[b]?:=fun b hne=>Below.heap_setCell _ _ _ _ (by simpa using hne)
 have hgw:w2.heap[g]? = w.heap[g]?:=hw2 g tl (fun e=>hrg g (by rw [← hrow];exact e) rfl)
 have hsz:w.heap.size≤w2.heap.size:=by have:=hgr.size;simp at this;omega
 have ow1:=owns_same st.own1 (w':=w2) (fun k hk=>by cases hk;exact hgw)
 have hadd:h.add (.slice (some ⟨g2,0,none⟩) (h.its.length+1) cap2) (T,u) c = { h with row:=.slice (some ⟨g2,0,none⟩) (h.its.length+1) cap2,its:=h.its ++ [((T,u),c)] }:=by unfold Hd.add;rw [ho];rfl
 refine ⟨rfl,⟨.slice (some ⟨g2,0,none⟩) (h.its.length+1) cap2,?_⟩,?_⟩
 ·rw [hadd]
  have cc:=st.change (w':=w2.setCell ⟨g,lo.length * 4+1,none⟩ (.slice (some ⟨g2,0,none⟩) (h.its.length+1) cap2)) (ov':=.slice (some ⟨g,0,none⟩) (lo.length+1) cap) (h':={ h with row:=.slice (some ⟨g2,0,none⟩) (h.its.length+1) cap2,its:=h.its ++ [((T,u),c)] }) (by simpa using hsz) (Stk.stored ow1 (by omega) (by simp [Hd.cells,ho])) (fun b _ hb h1 h2=>(hset b (fun e=>h1 (by rw [e];rfl))).trans (hw2 b hb h2)) (.inl rfl) (by
   rcases hat with e | e
   ·exact .inl (by rw [hrow];exact e.symm)
   ·exact .inr ⟨g2,rfl,by omega⟩)
  refine cc.2 ?_
  unfold HOk
  rw [if_neg (by simp [ho])]
  refine ⟨?_,fun x hx=>?_⟩
  ·have:=owns_same ow2 (w':=w2.setCell ⟨g,lo.length * 4+1,none⟩ (.slice (some ⟨g2,0,none⟩) (h.its.length+1) cap2)) (fun k hk=>by cases hk;exact hset g2 hg2)
   simpa [itC,iv] using this
  ·rcases List.mem_append.1 hx with hx | hx
   ·exact Vl.mono (HVS.out x hx) cc.1
   ·rw [List.mem_singleton] at hx
    subst hx
    exact Vl.mono HV.out cc.1
 ·exact ((((Fr.refl (fun b=>vb < b) w).alloc _).trans (E:=fun b=>vb < b) (Fr.of_grownBy hgr (fun k e=>(ow.lt k e.symm).1)) (fun _ _ e=>e))).setCell _ (.inl hgv)
theorem owns_shape2 {w:World}{B e n s:Nat}{v:Value}{xs:List Value} (h:w.ownsRow B e s v n xs):∃ a l c,v = .slice a l c:=by
 rcases h.2 with ⟨rfl,_⟩ | ⟨g,cap,cur,rfl,_⟩
 ·exact ⟨_,_,_,rfl⟩
 ·exact ⟨_,_,_,rfl⟩
theorem add_obj {w:World}{vb g cap:Nat}{lo:List Hd}{h:Hd}{T:Nat}{u:Value}{c:Bys} (st:Stk w vb (.slice (some ⟨g,0,none⟩) (lo.length+1) cap) (lo ++ [h])) (hv:Vl w (Done w vb (.slice (some ⟨g,0,none⟩) (lo.length+1) cap) (lo ++ [h])) (T,u) c) (ho:h.obj=true) (hk:h.ms.length≤10000000) :
  Calls Tryz.prog 27 #[.pointer (some ⟨g,lo.length * 4,none⟩),.iface T u] w fun e w'=>e = .returned (.tuple #[])∧(∃ row,Stk w' vb (.slice (some ⟨g,0,none⟩) (lo.length+1) cap) (lo ++ [h.add row (T,u) c]))∧Fr (fun b=>vb < b) w w':=by
 obtain ⟨i0,hi0,hz0,hz1,hz2⟩:=info_parts (show (Tryz.prog.info? 107).map (fun i=>(i.zero,i.size,i.bytes))=some (some (.agg #[.string ⟨#[]⟩,.nilIface]),2,32) by kernel_rfl)
 obtain ⟨g',cap',e,hgv,hcap,hcm,ht⟩:=st.top
 cases e
 obtain ⟨t0,t1,t2,t3,tf,tl⟩:=ht.facts
 simp only [ho,if_true] at t0 t1 t2
 have okh:=st.ok h (by simp)
 have okh0:=okh
 unfold HOk at okh
 simp only [ho,if_true] at okh
 obtain ⟨ow,hvs⟩:=okh
 obtain ⟨ra,rl,rc,hrow⟩:=owns_shape2 ow
 have hrg:∀ b,h.row.ownBlock=some b→b≠g:=fun b hb e=>row_ov okh0 st.own hb (by rw [e];rfl)
 rw [hrow] at ow t2 hrg
 have ST:Aside _:=st
 have HV:Aside _:=hv
 have HVS:Aside _:=hvs
 have HRO:Hid _:=hrow
 clear st hv hvs hrow okh0 ht
 go_enter Tryz.func27,Tryz.ntmps27
 have hnew:∀ W:World,W.heap[g]? = w.heap[g]?→W.cell? ⟨g,lo.length * 4+2,none⟩=some (.slice ra rl rc)∧W.cell? ⟨g,lo.length * 4+3,none⟩=some (.string h.key)∧W.frozen? ⟨g,lo.length * 4+2,none⟩=false:=fun W e=>⟨(World.cell?_of_block (w:=w) e).trans t2,(World.cell?_of_block (w:=w) e).trans t3,(World.frozen?_of_block (w:=w) e).trans (tf _)⟩
 go_wp2_with fail
 go_region_law
  ((refine step_append_lies _ (by rfl) _ _ _ (by rfl) (vb+1) 107 i0 _ 2 32 Tryz.underlying87 hi0 hz0 hz1 hz2 rfl (by omega) (.slice ra rl rc) h.ms.length (h.ms.flatMap elC) (by rfl) (by first | exact ow.alloc _ | exact (World.ownsRow.drew ow).alloc _) ⟨w.heap.size,0,none⟩ 1 1 [.string h.key,.iface T u] (by rfl) (by rfl) (World.news_of_block (cs:=#[.string h.key,.iface T u]) (t:=107) (fr:=(0,0)) (by first | exact heap_new _ _ | exact heap_alloc_new _ _)) (by simp [Value.oneCell']) (by omega) (by unfold maxLen;omega) (by omega) (by simp;omega) (w.heap.size+1) (by simp) ?_;intro g2 cap2 w2 ow2 hgr hat hlt2;have hw2g:w2.heap[g]? = w.heap[g]?:=(hgr.block g (by simp;omega) (fun e=>hrg g e.symm rfl)).trans (by first | exact (below_alloc w _).block g tl | exact (below_alloc w.drew _).block g tl);obtain ⟨d0,d1,d2⟩:=hnew _ hw2g))
 all_goals
  go_end0
  have st:=ST.out
  have hrow:=HRO.out
  have hg2:g2≠g:=by
   rcases hat with e | e
   ·exact fun e2=>hrg g2 e e2
   ·omega
  have hw2:∀ b,b < w.heap.size→h.row.ownBlock≠some b→w2.heap[b]? = w.heap[b]?:=fun b hb hn=>(hgr.block b (by simp;omega) (fun e=>hn (by rw [hrow];exact e.symm))).trans (by first | exact (below_alloc w _).block b hb | exact (below_alloc w.drew _).block b hb)
  have hset:∀ b,b≠g→(w2.setCell ⟨g,lo.length * 4+2,none⟩ (.slice (some ⟨g2,0,none⟩) (h.ms.length+1) cap2)).heap[b]? = w2.heap[b]?:=fun b hne=>Below.heap_setCell _ _ _ _ (by simpa using hne)
  have hgw:w2.heap[g]? = w.heap[g]?:=hw2 g tl (fun e=>hrg g (by rw [← hrow];exact e) rfl)
  have hsz:w.heap.size≤w2.heap.size:=by have:=hgr.size;simp at this;omega
  have ow1:=owns_same st.own1 (w':=w2) (fun k hk=>by cases hk;exact hgw)
  have hadd:h.add (.slice (some ⟨g2,0,none⟩) (h.ms.length+1) cap2) (T,u) c = { h with row:=.slice (some ⟨g2,0,none⟩) (h.ms.length+1) cap2,ms:=h.ms ++ [(h.key,(T,u),c)] }:=by unfold Hd.add;rw [ho];rfl
  refine ⟨rfl,⟨.slice (some ⟨g2,0,none⟩) (h.ms.length+1) cap2,?_⟩,?_⟩
  ·rw [hadd]
   have cc:=st.change (w':=w2.setCell ⟨g,lo.length * 4+2,none⟩ (.slice (some ⟨g2,0,none⟩) (h.ms.length+1) cap2)) (ov':=.slice (some ⟨g,0,none⟩) (lo.length+1) cap) (h':={ h with row:=.slice (some ⟨g2,0,none⟩) (h.ms.length+1) cap2,ms:=h.ms ++ [(h.key,(T,u),c)] }) (by simpa using hsz) (Stk.stored ow1 (by omega) (by simp [Hd.cells,ho])) (fun b _ hb h1 h2=>(hset b (fun e=>h1 (by rw [e];rfl))).trans (hw2 b hb h2)) (.inl rfl) (by
    rcases hat with e | e
    ·exact .inl (by rw [hrow];exact e.symm)
    ·exact .inr ⟨g2,rfl,by omega⟩)
   refine cc.2 ?_
   unfold HOk
   rw [if_pos (by simp [ho])]
   refine ⟨?_,fun x hx=>?_⟩
   ·have:=owns_same ow2 (w':=w2.setCell ⟨g,lo.length * 4+2,none⟩ (.slice (some ⟨g2,0,none⟩) (h.ms.length+1) cap2)) (fun k hk=>by cases hk;exact hset g2 hg2)
    simpa [elC,iv] using this
   ·rcases List.mem_append.1 hx with hx | hx
    ·exact Vl.mono (HVS.out x hx) cc.1
    ·rw [List.mem_singleton] at hx
     subst hx
     exact Vl.mono HV.out cc.1
  ·exact (((((Fr.refl (fun b=>vb < b) w).alloc _).drewN 1).trans (E:=fun b=>vb < b) (Fr.of_grownBy hgr (fun k e=>(ow.lt k e.symm).1)) (fun _ _ e=>e))).setCell _ (.inl hgv)
end Go.Proofs.Tryz
