import Derived.Test.YtbhajhlhgbnhbaaGreatDoorFz7
import Derived.Lib.Join
import Derived.Shelf.Unicode.DecodeSlow
set_option linter.all false
namespace Go.Proofs.Tryz
set_option maxHeartbeats 16000000
open Go.RowKit
set_option maxRecDepth 10000
def JoinsStr:Prop:=∀ (bk c:Nat) (xs:List ByteArray) (sep:ByteArray) (w:World),(∀ (j:Nat) x,xs[j]? = some x→w.cell? ⟨bk,j,none⟩=some (.string x))→bk < w.heap.size→xs.length≤100000000→xs.length≤c→(Lib.join (xs.map (·.data.toList)) sep.data.toList).length≤1000000000→
 Calls Tryz.prog 256 #[.slice (some ⟨bk,0,none⟩) xs.length c,.string sep] w fun e w'=>e = .returned (.string ⟨(Lib.join (xs.map (·.data.toList)) sep.data.toList).toArray⟩)∧Below w.heap.size w w'
theorem join_bare (xs:List Bys):Lib.join xs []=xs.flatten:=by
 cases xs with
 | nil=>rfl
 | cons x r =>
  rw [Lib.join_cons,Lib.joinTail,List.flatten_cons]
  congr 1
  induction r with
  | nil=>rfl
  | cons y r ih=>simp
def stV (c:Bys):Value:=.iface 100 (.string ⟨c.toArray⟩)
theorem must_str (t:ByteArray) (w:World):Calls Tryz.prog 170 #[.iface 100 (.string t)] w fun e w'=>e = .returned (.string t)∧w'=w:=by
 have m3:=hitVString
 go_enter Tryz.func170,Tryz.ntmps170
 go_wp2
 go_ret
 exact ⟨rfl,rfl⟩
theorem join_ok (hJ:JoinsStr) {w:World}{p:Option Addr}{c:Nat}{cl:List Bys} (hr:w.ownsRow 0 32 1 (.slice p cl.length c) cl.length (cl.map stV)) (hn:cl.length≤100000000) (hf:cl.flatten.length≤1000000000) :
  Calls Tryz.prog 209 #[.slice p cl.length c,.string ⟨#[]⟩] w fun e w'=>e = .returned (.string ⟨cl.flatten.toArray⟩)∧Below w.heap.size w w':=by
 obtain ⟨i0,hi0,hz0,hz1,hz2⟩:=info_parts (show (Tryz.prog.info? 9).map (fun i=>(i.zero,i.size,i.bytes))=some (some (.string ⟨#[]⟩),1,16) by kernel_rfl)
 have HCE:Aside (∀ i ch,cl[i]? = some ch→∃ a,p=some ⟨a,0,none⟩∧a < w.heap.size∧w.cell? ⟨a,i,none⟩=some (.iface 100 (.string ⟨ch.toArray⟩))):=fun i ch hch=>by
  have hlt:=(List.getElem?_eq_some_iff.1 hch).1
  rcases hr.2 with ⟨e,h0⟩ | ⟨a,c',cur,e,_⟩
  ·omega
  ·cases e
   refine ⟨a,rfl,(hr.lt a rfl).2,?_⟩
   rw [hr.cellAt i (by omega),List.getElem?_map,hch]
   rfl
 have HJO:Aside (∀ w1 bk,(∀ (j:Nat) x,(cl.map fun t=>(⟨t.toArray⟩:ByteArray))[j]? = some x→w1.cell? ⟨bk,j,none⟩=some (.string x))→bk < w1.heap.size→Calls Tryz.prog 256 #[.slice (some ⟨bk,0,none⟩) cl.length cl.length,.string ⟨#[]⟩] w1 fun e w'=>e = .returned (.string ⟨cl.flatten.toArray⟩)∧Below w1.heap.size w1 w'):=fun w1 bk h1 h2=>by
  have e1:((cl.map fun t=>(⟨t.toArray⟩:ByteArray)).map (·.data.toList))=cl:=by
   rw [List.map_map]
   exact List.map_id' cl
  have h:=hJ bk cl.length (cl.map fun t=>(⟨t.toArray⟩:ByteArray)) ⟨#[]⟩ w1 h1 h2 (by rw [List.length_map];exact hn) (by rw [List.length_map];exact Nat.le_refl _) (by rw [e1];show (Lib.join cl []).length≤_;rw [join_bare];exact hf)
  rw [e1,List.length_map] at h
  have e2:Lib.join cl (⟨#[]⟩:ByteArray).data.toList=cl.flatten:=join_bare cl
  rw [e2] at h
  exact h
 obtain ⟨n,hN⟩:∃ n,n=cl.length:=⟨_,rfl⟩
 have HN:Hid (n=cl.length):=hN
 have hn':n≤100000000:=by omega
 rw [← hN] at HJO ⊢
 clear hr hN hf
 go_enter Tryz.func209,Tryz.ntmps209
 go_wp2_with (refine wpList_make_full _ (by rfl) _ _ 27 (by rfl) w.heap.size 9 i0 (.string ⟨#[]⟩) 1 Tryz.underlying27 hi0 hz0 hz1 .i64 .i64 n n n (by rfl) (by rfl) rfl rfl (by rw [hz2];omega) (by unfold maxLen;omega) (Nat.le_refl _) ?_;intro w1 ow1 gr1)
 have kw1:Below w.heap.size w w1:=(Below.refl _ _).grown gr1 (Nat.le_refl _) (fun q hq=>by cases hq)
 have hl1:((madeCells (Value.cells (.string ⟨#[]⟩)) (n * 1)).toList).length=n:=by have:=ow1.1;simpa using this
 go_loopg [13] n (fun k v wr=>∃ (i:Nat) (xs:List Value),i+k=n∧v = .int .i64 i∧Aside (xs.length=n∧(∀ j,j < i→xs[j]? = (cl.map fun t=>Value.string ⟨t.toArray⟩)[j]?)∧wr.ownsRow w.heap.size 9 1 (.slice (some ⟨w.heap.size,0,none⟩) n n) n xs∧Below w.heap.size w wr))
 case atStart=>exact ⟨0,_,by omega,rfl,hl1,fun j hj=>by omega,ow1,kw1⟩
 case round =>
  obtain ⟨i,xs,hi,rfl,HR⟩:=hrel
  match gk,hi with
  | 0,hi =>
   have hz:¬ (i:Int) < (n:Int):=by omega
   have hJ1:Aside (Calls Tryz.prog 256 #[.slice (some ⟨w.heap.size,0,none⟩) n n,.string ⟨#[]⟩] wr fun e w'=>e = .returned (.string ⟨cl.flatten.toArray⟩)∧Below wr.heap.size wr w'):=by
    obtain ⟨h1,h2,h3,h4⟩:=HR.out
    refine HJO.out wr w.heap.size (fun j x hx=>?_) (h3.lt w.heap.size rfl).2
    have hj:j < n:=by have:=(List.getElem?_eq_some_iff.1 hx).1;rw [List.length_map] at this;have:=HN.out;omega
    rw [h3.cellAt j (by omega),h2 j (by omega),List.getElem?_map]
    rw [List.getElem?_map] at hx
    obtain ⟨t,ht,rfl⟩:=Option.map_eq_some_iff.1 hx
    rw [ht]
    rfl
   go_wp2_with (go_at_call 256;refine Calls.mono hJ1.out ?_;rintro e w2 ⟨rfl,k2⟩)
   go_ret
   obtain ⟨h1,h2,h3,h4⟩:=HR.out
   exact ⟨rfl,h4.trans (k2.mono h4.size)⟩
  | k+1,hi =>
   have hz:(i:Int) < (n:Int):=by omega
   obtain ⟨h1,h2,h3,h4⟩:=HR.out
   obtain ⟨ch,hch⟩:∃ ch,cl[i]? = some ch:=⟨_,List.getElem?_eq_getElem (by have:=HN.out;omega)⟩
   obtain ⟨a,rfl,hla,x0⟩:=HCE.out i ch hch
   have f0:=(h4.cell (p:=⟨a,i,none⟩) hla).trans x0
   have hgl:=(h3.lt w.heap.size rfl).2
   obtain ⟨y,hy⟩:∃ y,xs[i]? = some y:=⟨_,List.getElem?_eq_getElem (by omega)⟩
   have c0:wr.cell? ⟨w.heap.size,i,none⟩=some y:=(h3.cellAt i (by omega)).trans hy
   have c1:wr.frozen? ⟨w.heap.size,i,none⟩=false:=by
    rcases h3.2 with ⟨e,_⟩ | ⟨g',cap',cur,e,_,hb,_⟩
    ·cases e
    ·cases e;exact cells_free hb
   have HX:Hid (cl[i]? = some ch):=hch
   have hal2:a < wr.heap.size:=by have:=h4.size;omega
   clear h1 h2 h3 hch x0 hy
   go_wp2_with (go_at_call 170;refine (must_str _ _).mono ?_;rintro e w2 ⟨rfl,hw2⟩;subst hw2)
   go_roundg k
   case measure=>omega
   case rel =>
    obtain ⟨h1,h2,h3,h4⟩:=HR.out
    refine ⟨i+1,xs.set i (.string ⟨ch.toArray⟩),by omega,by simp,by simpa using h1,fun j hj=>?_,(h3.stored i (.string ⟨ch.toArray⟩)).1,h4.setCell (p:=⟨w.heap.size,i,none⟩) (Nat.le_refl _) _⟩
    by_cases hji:j=i
    ·subst hji
     rw [List.getElem?_set_self (by omega),List.getElem?_map,HX.out]
     rfl
    ·rw [List.getElem?_set_ne (by omega)]
     exact h2 j (by omega)
end Go.Proofs.Tryz
namespace Go.Proofs.Tryz
set_option maxHeartbeats 16000000
open Go.RowKit Go.Shelf
set_option maxRecDepth 100000
attribute [local go_sem] Oper.semAt_some
def DecodesAt (w:World):Prop:=∀ s:ByteArray,Calls Tryz.prog 307 #[.string s] w fun e w'=>e = .returned (.tuple #[.int .i32 (Lib.decodeGo s).1,.int .i64 (Lib.decodeGo s).2])∧Below w.heap.size w w'
theorem ba_of {b:ByteArray}{l:Bys} (h:b.data.toList=l):b=⟨l.toArray⟩:=by
 obtain ⟨⟨x⟩⟩:=b
 simp only at h
 rw [h]
theorem decode_first {c:Bys}{r:List Bys} (hc:Chunk c):Lib.decodeGo ⟨(c :: r).flatten.toArray⟩=(runeOf c,c.length):=by
 have hl:Lies ⟨(c :: r).flatten.toArray⟩ 0 c:=⟨r.flatten,by simp⟩
 have hp:0 < c.length:=by obtain ⟨b,tl,rfl,_⟩:=hc;simp
 unfold Lib.decodeGo
 rw [if_neg,chunk_decode hc hl]
 simp only [ByteArray.size,List.size_toArray,List.flatten_cons,List.length_append]
 omega
theorem splitSeq_ok (s:ByteArray) (w:World):Calls Tryz.prog 255 #[.string s,.string ⟨#[]⟩] w fun e w'=>e = .returned (.func (.func 306) #[] #[.pointer (some ⟨w.heap.size+1,0,none⟩),.pointer (some ⟨w.heap.size,0,none⟩),.pointer (some ⟨w.heap.size+2,0,none⟩)])∧w'=((w.alloc (.cells #[.string s] 9)).alloc (.cells #[.string ⟨#[]⟩] 9)).alloc (.cells #[.int .i64 0] 3):=by
 go_enter Tryz.func255,Tryz.ntmps255
 go_wp2
 go_ret
 exact ⟨rfl,rfl⟩
theorem pieces_in (n l sb eb zb:Nat) (J:List Bys→World→Prop) (J1:Bys→List Bys→World→Prop)
  (hbox:∀ rest W,J rest W→Box W sb (.string ⟨rest.flatten.toArray⟩) 9∧Box W eb (.string ⟨#[]⟩) 9)
  (hch:∀ c rest W,J (c :: rest) W→Chunk c∧(c :: rest).flatten.length≤1000000000∧DecodesAt W)
  (hJb:∀ rest W W',J rest W→Below W.heap.size W W'→J rest W')
  (h2:∀ c rest W,J (c :: rest) W→YieldAt Fence.wide (n - 1) Tryz.prog l #[.string ⟨c.toArray⟩] W fun e W'=>e = .returned (.bool true)∧J1 c rest W')
  (hbox1:∀ c rest W,J1 c rest W→Box W sb (.string ⟨(c :: rest).flatten.toArray⟩) 9)
  (h3:∀ c rest W,J1 c rest W→J rest (W.setCell ⟨sb,0,none⟩ (.string ⟨rest.flatten.toArray⟩)))
  (cl:List Bys) (W:World) (h0:J cl W) :
  CallsIn Fence.wide n Tryz.prog 306 #[.func (.yield l) #[] #[],.pointer (some ⟨eb,0,none⟩),.pointer (some ⟨sb,0,none⟩),.pointer (some ⟨zb,0,none⟩)] W fun e W'=>(∃ v,e = .returned v)∧J [] W':=by
 have c1:=(hbox _ _ h0).2.cell
 refine callsIn_of_wp Tryz.func306 rfl trivial ?_ rfl
 simp only [Tryz.ntmps306,List.size_toArray,List.length_cons,List.length_nil,Nat.reduceAdd,Nat.reduceSub,Array.replicate_succ,Array.replicate_zero,List.push_toArray,List.append_toArray,List.nil_append,List.cons_append]
 gi_wp2
 gi_loopg [6] cl.length (fun k v wr=>∃ rest,rest.length=k∧J rest wr)
 case atStart=>exact ⟨cl,rfl,h0⟩
 case round =>
  obtain ⟨rest,hk,hJ⟩:=hrel
  have f0:=(hbox _ _ hJ).1.cell
  cases rest with
  | nil =>
   have e0:(⟨([]:List Bys).flatten.toArray⟩:ByteArray)=⟨#[]⟩:=rfl
   rw [e0] at f0
   gi_wp2
   exact bodyPost_ret (v:=.tuple #[]) (by simp [results,Tryz.results306,go_sem]) rfl ⟨⟨_,rfl⟩,hJ⟩
  | cons c rest =>
   obtain ⟨hc,hlen,hdec⟩:=hch _ _ _ hJ
   have hd:=decode_first (r:=rest) hc
   have hD:=hdec ⟨(c :: rest).flatten.toArray⟩
   rw [hd] at hD
   obtain ⟨S,hS⟩:∃ S:ByteArray,S=⟨(c :: rest).flatten.toArray⟩:=⟨_,rfl⟩
   have hp:0 < c.length:=by obtain ⟨b,tl,rfl,_⟩:=hc;simp
   have hsz:S.size=c.length+rest.flatten.length:=by rw [hS];simp [ByteArray.size]
   have x1:S.extract 0 c.length=⟨c.toArray⟩:=by
    have:=ext_lies (s:=S) (a:=0) (l:=c) ⟨rest.flatten,by rw [hS];simp⟩
    rw [Nat.zero_add] at this
    exact ba_of this
   have x2:S.extract c.length S.size=⟨rest.flatten.toArray⟩:=by
    rw [hsz]
    exact ba_of (ext_lies (s:=S) (a:=c.length) (l:=rest.flatten) ⟨[],by rw [hS];simp⟩)
   rw [← hS] at f0 hD
   have HS:Hid (S=⟨(c :: rest).flatten.toArray⟩):=hS
   obtain ⟨m,hm⟩:∃ m,m=c.length:=⟨_,rfl⟩
   obtain ⟨C,hCe⟩:∃ C:ByteArray,C=⟨c.toArray⟩:=⟨_,rfl⟩
   obtain ⟨R,hRe⟩:∃ R:ByteArray,R=⟨rest.flatten.toArray⟩:=⟨_,rfl⟩
   rw [← hm] at x1 x2 hD hp
   rw [← hCe] at x1
   rw [← hRe] at x2
   have hms:m≤S.size:=by omega
   have z0:(0:Int) < (S.size:Int):=by omega
   have z1:(0:Int)≤(m:Int):=by omega
   have z2:(m:Int)≤(S.size:Int):=by omega
   have HC:Hid (C=⟨c.toArray⟩):=hCe
   have HRe:Hid (R=⟨rest.flatten.toArray⟩):=hRe
   clear hS hsz hm hCe hRe hd
   gi_wp2
   refine ⟨trivial,fun h=>(by cases h),(callsIn_wide.2 hD).mono ?_⟩
   rintro e W1 ⟨rfl,k1⟩
   have hJ1:=hJb _ _ _ hJ k1
   have f1:=(hbox _ _ hJ1).1.cell
   rw [← HS.out] at f1
   have hy:=h2 _ _ _ hJ1
   rw [← HC.out] at hy
   obtain ⟨fn,tmps,assign,body,hy,hR⟩:=hy
   gi_wp2
   refine ⟨fun h=>(by cases h),hR.mono ?_⟩
   rintro e W2 ⟨rfl,hJ2⟩
   have b2:=hbox1 _ _ _ hJ2
   rw [← HS.out] at b2
   have g0:=b2.cell
   have g1:=b2.free
   have g2:=b2.lt
   gi_wp2
   gi_roundg rest.length
   case measure=>simp at hk;omega
   case rel =>
    refine ⟨rest,rfl,?_⟩
    have:=h3 _ _ _ hJ2
    rw [← HRe.out] at this
    exact this
end Go.Proofs.Tryz
namespace Go.Proofs.Tryz
set_option maxHeartbeats 16000000
open Go.RowKit Go.Shelf
set_option maxRecDepth 100000
attribute [local go_sem] Oper.semAt_some
theorem range_held3 {n:Nat}{P:Program}{g:Operand}{ps:Array Tmp}{assign body:Code}{Q:Exit→Act→World→Prop}{a:Act}{w:World}{gf:Nat}{x y z:Value} (h1:1≤n) (hg:a.eval g = .func (.func gf) #[] #[x,y,z]) (eg:∀ args w,(callFunc gf args).run P w = .ok (.enter gf args) w)
  (h:∀ fn,CallsIn Fence.wide (n - 1) P gf #[.func (.yield (w.heap.size+1)) #[] #[],x,y,z] ((w.alloc (.deferred (some []))).alloc (.loop { state:=.ready,pending:=none,fn,tmps:=a.tmps,params:=ps,assign,body,defers:=w.heap.size }))
   (rangePost Fence.wide n P (w.heap.size+1) Q { a with defers:=[{ target:=.collected w.heap.size,args:=#[] }] ++ a.defers })) :
  (Code.rangeFunc g ps assign body).wpIn Fence.wide n P Q a w:=by
 refine wpIn_rangeFunc ?_
 intro fn _
 refine ⟨w.heap.size+1,[{ target:=.collected w.heap.size,args:=#[] }],_,{ target:=.fn (.func gf) #[x,y,z],args:=#[.func (.yield (w.heap.size+1)) #[] #[]] },(w.alloc (.deferred (some []))).alloc (.loop { state:=.ready,pending:=none,fn,tmps:=a.tmps,params:=ps,assign,body,defers:=w.heap.size }),gf,
  #[.func (.yield (w.heap.size+1)) #[] #[],x,y,z],(w.alloc (.deferred (some []))).alloc (.loop { state:=.ready,pending:=none,fn,tmps:=a.tmps,params:=ps,assign,body,defers:=w.heap.size }),run_enterLoop_outer _ _ _ _ _,?_,?_,?_,fun _=>h1,h fn⟩
 ·simp only [resolve,hg]
  simp [go_sem]
 ·intro f' hf';trivial
 ·simp [invoke,go_sem,eg]
structure SJ (w:World) (rc:Loop) (pre:List Bys) (S:ByteArray) (W:World):Prop where
 below:Below w.heap.size w W
 p:∃ v,Box W w.heap.size v 86∧W.ownsRow (w.heap.size+6) 32 1 v pre.length (pre.map stV)
 s:Box W (w.heap.size+1) (.string S) 9
 e:Box W (w.heap.size+2) (.string ⟨#[]⟩) 9
 d:W.heap[w.heap.size+4]? = some (.deferred (some []))
 l:W.heap[w.heap.size+5]? = some (.loop rc)
theorem SJ.on {w:World}{rc:Loop}{pre:List Bys}{S:ByteArray}{W W':World} (h:SJ w rc pre S W) (k:Below W.heap.size W W'):SJ w rc pre S W':=by
 obtain ⟨v,b,o⟩:=h.p
 exact ⟨h.below.trans (k.mono h.below.size),⟨v,b.same (k.block _ b.lt),owns_same o (fun q hq=>k.block q (o.lt q hq).2)⟩,h.s.same (k.block _ h.s.lt),h.e.same (k.block _ h.e.lt),(k.block _ (lt_of_block h.d)).trans h.d,(k.block _ (lt_of_block h.l)).trans h.l⟩
theorem SJ.set {w:World}{rc:Loop}{pre:List Bys}{S R:ByteArray}{W:World} (h:SJ w rc pre S W):SJ w rc pre R (W.setCell ⟨w.heap.size+1,0,none⟩ (.string R)):=by
 have hk:∀ k,k≠w.heap.size+1→(W.setCell ⟨w.heap.size+1,0,none⟩ (.string R)).heap[k]? = W.heap[k]?:=fun k hk=>Below.heap_setCell _ _ _ _ (by simpa using hk)
 obtain ⟨v,b,o⟩:=h.p
 exact ⟨h.below.setCell (p:=⟨w.heap.size+1,0,none⟩) (by simp) _,⟨v,b.same (hk _ (by omega)),owns_same o (fun q hq=>hk q (by have:=(o.lt q hq).1;omega))⟩,h.s.set _,h.e.same (hk _ (by omega)),(hk _ (by omega)).trans h.d,(hk _ (by omega)).trans h.l⟩
theorem SJ.next {w W Wb w2:World}{rc rc':Loop}{pre:List Bys}{c:Bys}{S:ByteArray}{v v':Value}{o:Obj} (h:SJ w rc pre S W) (bv:Box W w.heap.size v 86) (ow:W.ownsRow (w.heap.size+6) 32 1 v pre.length (pre.map stV))
  (hother:∀ k,k≠w.heap.size+5→Wb.heap[k]? = W.heap[k]?) (hWs:Wb.heap.size=W.heap.size) (hlb:Wb.heap[w.heap.size+5]? = some (.loop rc')) (hos:Wb.os=W.os) (htp:Wb.tape=W.tape) (hot:Wb.output=W.output)
  (ow2:w2.ownsRow (w.heap.size+6) 32 1 v' (pre.length+1) (pre.map stV ++ [stV c])) (hgr:(Wb.alloc o).grownBy w2 v.ownBlock) :
  (w2.setCell ⟨w.heap.size,0,none⟩ v').heap[w.heap.size+5]? = some (.loop rc')∧SJ w rc (pre ++ [c]) S ((w2.setCell ⟨w.heap.size,0,none⟩ v').putObj (w.heap.size+5) (.loop rc)):=by
 have hll:=lt_of_block h.l
 have hbb:Below w.heap.size w Wb:=⟨hos.trans h.below.os,htp.trans h.below.tape,hot.trans h.below.output,by rw [hWs];exact h.below.size,fun k hk=>(hother k (by omega)).trans (h.below.block k hk)⟩
 have hb2:Below w.heap.size w w2:=(hbb.alloc hbb.size o).grown hgr (by have:=hbb.size;simp;omega) (fun q hq=>by have:=(ow.lt q hq).1;omega)
 have hsz:Wb.heap.size+1≤w2.heap.size:=by have:=hgr.size;simpa using this
 have hnew:∀ k,some k=v.ownBlock→w.heap.size+6≤k:=fun k hk=>(ow.lt k hk.symm).1
 have hk2:∀ k,k < w.heap.size+6→w2.heap[k]? = Wb.heap[k]?:=fun k hk=>(hgr.block k (by simp;omega) (fun e=>by have:=hnew k e;omega)).trans ((below_alloc Wb o).block k (by omega))
 have hs2:∀ k,k≠w.heap.size→(w2.setCell ⟨w.heap.size,0,none⟩ v').heap[k]? = w2.heap[k]?:=fun k hk=>Below.heap_setCell _ _ _ _ (by simpa using hk)
 have hl3:(w2.setCell ⟨w.heap.size,0,none⟩ v').heap[w.heap.size+5]? = some (.loop rc'):=(hs2 _ (by omega)).trans ((hk2 _ (by omega)).trans hlb)
 have hall:∀ k,k < w.heap.size+5→k≠w.heap.size→((w2.setCell ⟨w.heap.size,0,none⟩ v').putObj (w.heap.size+5) (.loop rc)).heap[k]? = W.heap[k]?:=fun k h1 h2=>(World.putObj_heap_other (by omega)).trans ((hs2 k h2).trans ((hk2 k (by omega)).trans (hother k (by omega))))
 have bv2:Box w2 w.heap.size v 86:=bv.same ((hk2 _ (by omega)).trans (hother _ (by omega)))
 refine ⟨hl3,?_,⟨v',?_,?_⟩,h.s.same (hall _ (by omega) (by omega)),h.e.same (hall _ (by omega) (by omega)),(hall _ (by omega) (by omega)).trans h.d,?_⟩
 ·exact (hb2.setCell (p:=⟨w.heap.size,0,none⟩) (Nat.le_refl _) _).trans ⟨rfl,rfl,rfl,by simp [World.putObj],fun k hk=>World.putObj_heap_other (by omega)⟩
 ·exact (bv2.set v').same (World.putObj_heap_other (by omega))
 ·rw [List.length_append,List.map_append]
  exact owns_same ow2 (fun q hq=>(World.putObj_heap_other (by have:=(ow2.lt q hq).1;omega)).trans (hs2 q (by have:=(ow2.lt q hq).1;omega)))
 ·exact World.putObj_heap_same (by simp;omega)
theorem split_iter {w:World}{s:ByteArray}{cl:List Bys} (rc:Loop) (hs:s=⟨cl.flatten.toArray⟩) (hc:∀ c∈cl,Chunk c) (hn:s.size≤100000000) (hD:∀ W,Below w.heap.size w W→DecodesAt W)
  (hround:∀ (c:Bys) (pre rest:List Bys) (W:World),pre ++ c :: rest=cl→SJ w rc pre ⟨(c :: rest).flatten.toArray⟩ W→YieldAt Fence.wide (3 - 1) Tryz.prog (w.heap.size+5) #[.string ⟨c.toArray⟩] W fun e W'=>e = .returned (.bool true)∧SJ w rc (pre ++ [c]) ⟨(c :: rest).flatten.toArray⟩ W') :
  CallsIn Fence.wide 3 Tryz.prog 306 #[.func (.yield (w.heap.size+5)) #[] #[],.pointer (some ⟨w.heap.size+2,0,none⟩),.pointer (some ⟨w.heap.size+1,0,none⟩),.pointer (some ⟨w.heap.size+3,0,none⟩)] ((((((w.alloc (.cells #[.slice none 0 0] 86)).alloc (.cells #[.string s] 9)).alloc (.cells #[.string ⟨#[]⟩] 9)).alloc (.cells #[.int .i64 0] 3)).alloc (.deferred (some []))).alloc (.loop rc)) fun e W'=>(∃ v,e = .returned v)∧SJ w rc cl ⟨#[]⟩ W':=by
 have hfl:cl.flatten.length=s.size:=by rw [hs];simp [ByteArray.size]
 refine (pieces_in 3 (w.heap.size+5) (w.heap.size+1) (w.heap.size+2) (w.heap.size+3) (fun rest W=>∃ pre,pre ++ rest=cl∧SJ w rc pre ⟨rest.flatten.toArray⟩ W) (fun c rest W=>∃ pre,pre ++ c :: rest=cl∧SJ w rc (pre ++ [c]) ⟨(c :: rest).flatten.toArray⟩ W) ?_ ?_ ?_ ?_ ?_ ?_ cl _ ?_).mono ?_
 ·rintro rest W ⟨pre,_,hj⟩
  exact ⟨hj.s,hj.e⟩
 ·rintro c rest W ⟨pre,hpp,hj⟩
  refine ⟨hc c (by rw [← hpp];simp),?_,hD W hj.below⟩
  have:cl.flatten.length=pre.flatten.length+(c :: rest).flatten.length:=by rw [← hpp,List.flatten_append,List.length_append]
  omega
 ·rintro rest W W' ⟨pre,hpp,hj⟩ k
  exact ⟨pre,hpp,hj.on k⟩
 ·rintro c rest W ⟨pre,hpp,hj⟩
  obtain ⟨fn,tmps,assign,body,hy,hR⟩:=hround c pre rest W hpp hj
  exact ⟨fn,tmps,assign,body,hy,hR.mono (fun e W' h=>⟨h.1,pre,hpp,h.2⟩)⟩
 ·rintro c rest W ⟨pre,hpp,hj⟩
  exact hj.s
 ·rintro c rest W ⟨pre,hpp,hj⟩
  exact ⟨pre ++ [c],by rw [← hpp];simp,hj.set⟩
 ·have e0:∀ (X:World) (o:Obj) (k:Nat),k < X.heap.size→(X.alloc o).heap[k]? = X.heap[k]?:=fun X o k hk=>(below_alloc X o).block k hk
  have b1:=below_alloc w (.cells #[.slice none 0 0] 86)
  refine ⟨[],rfl,?_,⟨.slice none 0 0,?_,World.ownsRow_nil _ _ _ _⟩,?_,?_,?_,?_⟩
  ·exact ((((b1.alloc (by simp) _).alloc (by simp <;> omega) _).alloc (by simp <;> omega) _).alloc (by simp <;> omega) _).alloc (by simp <;> omega) _
  ·show _=some _
   rw [e0 _ _ _ (by simp <;> omega),e0 _ _ _ (by simp <;> omega),e0 _ _ _ (by simp <;> omega),e0 _ _ _ (by simp <;> omega),e0 _ _ _ (by simp)]
   exact heap_new w _
  ·show _=some _
   rw [← hs,e0 _ _ _ (by simp <;> omega),e0 _ _ _ (by simp <;> omega),e0 _ _ _ (by simp <;> omega),e0 _ _ _ (by simp)]
   have:=heap_new (w.alloc (.cells #[.slice none 0 0] 86)) (.cells #[.string s] 9)
   simpa using this
  ·show _=some _
   rw [e0 _ _ _ (by simp <;> omega),e0 _ _ _ (by simp <;> omega),e0 _ _ _ (by simp)]
   have:=heap_new ((w.alloc (.cells #[.slice none 0 0] 86)).alloc (.cells #[.string s] 9)) (.cells #[.string ⟨#[]⟩] 9)
   simpa using this
  ·rw [e0 _ _ _ (by simp)]
   have:=heap_new ((((w.alloc (.cells #[.slice none 0 0] 86)).alloc (.cells #[.string s] 9)).alloc (.cells #[.string ⟨#[]⟩] 9)).alloc (.cells #[.int .i64 0] 3)) (.deferred (some []))
   simpa using this
  ·have:=heap_new (((((w.alloc (.cells #[.slice none 0 0] 86)).alloc (.cells #[.string s] 9)).alloc (.cells #[.string ⟨#[]⟩] 9)).alloc (.cells #[.int .i64 0] 3)).alloc (.deferred (some []))) (.loop rc)
   simpa using this
 ·rintro e W' ⟨h1,pre,hpp,hj⟩
  rw [List.append_nil] at hpp
  subst hpp
  exact ⟨h1,hj⟩
theorem split_none (w:World):Calls Tryz.prog 208 #[.string ⟨#[]⟩,.string ⟨#[]⟩] w fun e w'=>e = .returned (.slice none 0 0)∧Below w.heap.size w w':=by
 go_enter Tryz.func208,Tryz.ntmps208
 go_wp2_with fail
 go_ret
 exact ⟨rfl,below_alloc w _⟩
theorem split_some {w:World}{s:ByteArray}{cl:List Bys} (hs:s=⟨cl.flatten.toArray⟩) (hc:∀ c∈cl,Chunk c) (hn:s.size≤100000000) (h0:cl≠[]) (hD:∀ W,Below w.heap.size w W→DecodesAt W) :
  Calls Tryz.prog 208 #[.string s,.string ⟨#[]⟩] w fun e w'=>Below w.heap.size w w'∧∃ v,e = .returned v∧w'.ownsRow w.heap.size 32 1 v cl.length (cl.map stV):=by
 obtain ⟨i0,hi0,hz0,hz1,hz2⟩:=info_parts (show (Tryz.prog.info? 32).map (fun i=>(i.zero,i.size,i.bytes))=some (some .nilIface,1,16) by kernel_rfl)
 have hfl:cl.flatten.length=s.size:=by rw [hs];simp [ByteArray.size]
 have hcl:=chunks_le cl hc
 have hne:(s.toList == [])=false:=by
  have h1:0 < cl.length:=List.length_pos_iff.2 h0
  have h2:s.toList=cl.flatten:=by rw [Lib.toList_data,hs]
  rw [h2,beq_eq_false_iff_ne]
  intro e
  rw [e,List.length_nil] at hcl
  omega
 have IT:Aside (∀ (rc:Loop),_):=fun rc=>split_iter rc hs hc hn hD
 have hcn:cl.length≤100000000:=by omega
 clear hs hfl
 refine (callsIn_wide (n:=4)).1 ?_
 refine callsIn_of_wp_marks Tryz.func208 rfl trivial ?_ rfl
 simp only [Tryz.ntmps208,List.size_toArray,List.length_cons,List.length_nil,Nat.reduceAdd,Nat.reduceSub,Array.replicate_succ,Array.replicate_zero,List.push_toArray,List.append_toArray,List.nil_append,List.cons_append]
 gi_wp2
 refine ⟨trivial,(callsIn_wide.2 (splitSeq_ok s _)).mono ?_⟩
 rintro e w1 ⟨rfl,hw1⟩
 gi_wp2
 refine range_held3 (by omega) rfl (enters_of Tryz.func306 (by kernel_rfl) rfl) ?_
 intro fn
 subst hw1
 have hsz:((((w.alloc (.cells #[.slice none 0 0] 86)).alloc (.cells #[.string s] 9)).alloc (.cells #[.string ⟨#[]⟩] 9)).alloc (.cells #[.int .i64 0] 3)).heap.size=w.heap.size+4:=by simp
 rw [hsz]
 refine (IT.out _ ?_).mono ?_
 ·intro c pre rest W hpp hj
  obtain ⟨v,bv,ow⟩:=hj.p
  obtain ⟨va,vl,vc,rfl⟩:=owns_shape1 ow
  obtain ⟨Wb,hbr,hother,hWs,hlb,hos,htp,hot⟩:=begun_at hj.l rfl
  have b1:Box Wb w.heap.size (.slice va vl vc) 86:=bv.same (hother _ (by omega))
  have ow1:Wb.ownsRow (w.heap.size+6) 32 1 (.slice va vl vc) pre.length (pre.map stV):=owns_same ow (fun q hq=>hother q (by have:=(ow.lt q hq).1;omega))
  have hpl:pre.length+1≤cl.length:=by rw [← hpp];simp
  have hll:=lt_of_block hlb
  have c0:=b1.cell
  have c1:=b1.free
  have c2:=b1.lt
  have HWS:Hid (Wb.heap.size=W.heap.size):=hWs
  have hlw:w.heap.size+5 < W.heap.size:=lt_of_block hj.l
  clear hpp hWs
  have HBR:Aside ((Instr.beginRound (w.heap.size+5)).run Tryz.prog W = .ok () Wb):=hbr
  clear hbr
  refine ⟨fn,_,_,_,run_yield hj.l rfl,roundIn_of_wpIn trivial ?_⟩
  gi_wp2
  refine ⟨Wb,HBR.out,?_⟩
  gi_wp2_with (gi_at_builtin;refine wpListIn_append_lies _ rfl _ _ 86 rfl (w.heap.size+6) 32 i0 _ 1 16 Tryz.underlying86 hi0 hz0 hz1 hz2 rfl (by omega) _ pre.length (pre.map stV) rfl (ow1.alloc _) ⟨Wb.heap.size,0,none⟩ 1 1 [.iface 100 (.string ⟨c.toArray⟩)] rfl rfl (World.news_of_block (cs:=#[.iface 100 (.string ⟨c.toArray⟩)]) (t:=32) (fr:=(0,0)) (heap_new Wb _)) (by simp [Value.oneCell']) (by omega) (by unfold maxLen;omega) (by omega) (by simp;omega) (Wb.heap.size+1) (by simp) ?_;intro g2 cap2 w2 ow2 hgr hat hlt2;have b2:=b1.same ((hgr.block _ (by simp;omega) (fun e=>by have:=(ow1.lt _ e.symm).1;omega)).trans ((below_alloc Wb _).block _ c2));have d0:=b2.cell;have d1:=b2.free;have d2:=b2.lt)
  obtain ⟨hl3,hJ2⟩:=hj.next (c:=c) bv ow hother HWS.out hlb hos htp hot ow2 hgr
  exact ⟨_,_,run_endRound none hl3,rfl,hJ2⟩
 ·rintro e W2 ⟨⟨v,rfl⟩,hJ⟩
  obtain ⟨v2,bv,ov⟩:=hJ.p
  obtain ⟨va,vl,vc,rfl⟩:=owns_shape1 ov
  have p0:∀ o,(W2.putObj (w.heap.size+5) o).cell? ⟨w.heap.size,0,none⟩=some (.slice va vl vc):=fun o=>Box.cell (bv.same (World.putObj_heap_other (by omega)))
  have p1:∀ o,(W2.putObj (w.heap.size+5) o).heap[w.heap.size+4]? = some (.deferred (some [])):=fun o=>(World.putObj_heap_other (by omega)).trans hJ.d
  refine ⟨none,_,run_endLoop hJ.l (by simp),?_⟩
  gi_wp2
  refine ⟨by simp,.inl ⟨_,_,rfl,run_takeDeferred (p1 _),?_⟩⟩
  refine ⟨_,results_tmp rfl _ _ _,hJ.below.trans ⟨rfl,rfl,rfl,by simp [World.putObj],fun k hk=>(World.putObj_heap_other (by omega)).trans (World.putObj_heap_other (by omega))⟩,.slice va vl vc,rfl,own_base (owns_same ov (fun q hq=>?_)) (by omega)⟩
  have:=(ov.lt q hq).1
  exact (World.putObj_heap_other (by omega)).trans (World.putObj_heap_other (by omega))
theorem split_ok {w:World}{s:ByteArray}{cl:List Bys} (hs:s=⟨cl.flatten.toArray⟩) (hc:∀ c∈cl,Chunk c) (hn:s.size≤100000000) (hD:∀ W,Below w.heap.size w W→DecodesAt W) :
  Calls Tryz.prog 208 #[.string s,.string ⟨#[]⟩] w fun e w'=>Below w.heap.size w w'∧∃ v,e = .returned v∧w'.ownsRow w.heap.size 32 1 v cl.length (cl.map stV):=by
 by_cases h0:cl=[]
 ·subst h0
  subst hs
  exact (split_none w).mono fun e w' ⟨h1,h2⟩=>⟨h2,_,h1,World.ownsRow_nil _ _ _ _⟩
 ·exact split_some hs hc hn h0 hD
end Go.Proofs.Tryz
namespace Go.Proofs.Tryz
set_option maxHeartbeats 16000000
open Go.RowKit
set_option maxRecDepth 10000
theorem Fr.belowW {w Y:World}{B W:Nat} (hlt:W < B) (hle:B≤w.heap.size) (h:Fr (fun k=>k=W∨B≤k) w Y):Below W w Y :=
 ⟨h.os,h.tape,h.output,h.size,fun k hk=>h.block k (by omega) (by rintro (e | e) <;> omega)⟩
theorem tail_obj (hA:AppendsIntK) {w Y:World}{B W g cap a ca nx:Nat}{out out1:Bys}{lo:List Fm}{f:Fm}{ov:Value}{kx:ByteArray}{T:TypeId}{u:Value}{t:Bys} (hlt:W < B) (hle0:B≤w.heap.size) (hle:B≤Y.heap.size) (u1:Y.heap[W]? = some (.cells #[ov,.slice (some ⟨g,0,none⟩) (lo.length+1) cap] 53 (0,0))) (u3:Y.ownsRow B 104 4 (.slice (some ⟨g,0,none⟩) (lo.length+1) cap) (lo ++ [f.up]).length ((lo ++ [f.up]).flatMap Fm.cells)) (u4:∀ x∈lo ++ [f.up],FOk Y W x) (hx:f.ms[nx]? = some (kx,(T,u),t)) (hnx:f.next=nx) (hob:f.obj=true) (hrow:f.row = .slice (some ⟨a,0,none⟩) f.ms.length ca) (h1:out1=out ++ (if f.next=0 then [] else [44])) (ho:out1.length≤8000000001) (hlo:lo.length≤1000000000) (hT:f.rest.length≤1000000000) (hfr:Fr (fun k=>k=W∨B≤k) w Y) (ht:Lib.TabBelow Tryz.prog W w "internal/strconv.uint64pow10" .u64 Lib.pow10Tab) :
  (∀ w1,Lib.OthersKept 5 none Y w1→w1.heap[W]? = some (.cells #[ov,.slice (some ⟨g,0,none⟩) (lo.length+1) cap] 53 (0,0))∧w1.cell? ⟨g,lo.length * 4+2,none⟩=some (.slice (some ⟨a,0,none⟩) f.ms.length ca)∧w1.cell? ⟨a,nx * 2,none⟩=some (.string kx)∧w1.cell? ⟨a,nx * 2+1,none⟩=some (.iface T u))∧
  (∀ w1 v',Below B Y w1→Lib.OthersKept 5 none Y w1→w1.ownsRow B 5 1 v' (out1.length+(quoteL kx.data.toList).length) (Lib.byteCells out1 ++ Lib.byteCells (quoteL kx.data.toList))→∀ w2 g2 cap2,((w1.setCell ⟨W,0,none⟩ v').alloc (.cells #[.int .u8 58] 5)).grownBy w2 v'.ownBlock→w2.ownsRow B 5 1 (.slice (some ⟨g2,0,none⟩) (out1.length+(quoteL kx.data.toList).length+1) cap2) (out1.length+(quoteL kx.data.toList).length+1) (Lib.byteCells out1 ++ Lib.byteCells (quoteL kx.data.toList) ++ [.int .u8 58])→
   (w2.heap[W]? = some (.cells #[v',.slice (some ⟨g,0,none⟩) (lo.length+1) cap] 53 (0,0))∧w2.cell? ⟨g,lo.length * 4+2,none⟩=some (.slice (some ⟨a,0,none⟩) f.ms.length ca)∧w2.cell? ⟨a,nx * 2+1,none⟩=some (.iface T u))∧Calls Tryz.prog 13 #[.pointer (some ⟨W,0,none⟩),.iface T u] (w2.setCell ⟨W,0,none⟩ (.slice (some ⟨g2,0,none⟩) (out1.length+(quoteL kx.data.toList).length+1) cap2)) fun e w'=>e = .returned (.tuple #[])∧StepW B W out (lo ++ [f]) w w')∧
  (quoteL kx.data.toList).length≤1000000000∧kx.size≤1000000000:=by
 have hYW:=hfr.belowW hlt hle0
 obtain ⟨g',cap',e',hgB,hcap,hcm,hcell,hfz,hgl⟩:=topF u3
 cases e'
 have e2:=hcell 2 _ rfl
 have hfo:=u4 f.up (by simp)
 have hfo':=hfo.1
 rw [if_pos (by simpa [Fm.up] using hob)] at hfo'
 have hfo1:Y.ownsRow 0 107 2 f.row f.ms.length (f.ms.flatMap elC):=hfo'.1
 have hfo2:∀ x∈f.ms,Vl Y (· < W) x.2.1 x.2.2:=hfo'.2
 have e2':Y.cell? ⟨g,lo.length * 4+2,none⟩=some (.slice (some ⟨a,0,none⟩) f.ms.length ca):=by
  have:=e2
  simp only [Fm.up,hob,if_true] at this
  rw [this,hrow]
 have htx:f.texts[f.next]? = some (memT (kx.data.toList,t)):=by unfold Fm.texts;rw [hob,hnx];simp [hx,elP,elKey]
 have haW:a < W:=hfo.2.1 a (by show f.row.ownBlock=_;rw [hrow];rfl)
 rw [hrow] at hfo1
 obtain ⟨_,hM,_,_,_⟩:=owns_mem hfo1
 obtain ⟨hk0,hk1⟩:=hM.at hx
 simp only [iv] at hk0 hk1
 have hvl:=hfo2 _ (List.mem_of_getElem? hx)
 obtain ⟨cm,fzm,hcm2⟩:∃ c fz,Y.heap[a]? = some (.cells c 107 fz):=own_kind hfo1 a rfl
 obtain ⟨cg,fzg,hcg⟩:∃ c fz,Y.heap[g]? = some (.cells c 104 fz):=own_kind u3 g rfl
 have hlens:(quoteL kx.data.toList).length≤1000000000:=by
  have h1:=hT
  rw [rest_step htx] at h1
  simp only [memT,List.length_append,List.length_cons] at h1
  omega
 have hks:kx.size≤1000000000:=by
  have h1:=hlens
  simp only [quoteL,List.length_append,List.length_cons] at h1
  have h2:=escs_ge kx.data.toList
  have h3:kx.data.toList.length=kx.size:=size_list kx
  omega
 have hXk:∀ w1,Lib.OthersKept 5 none Y w1→w1.heap[W]? = some (.cells #[ov,.slice (some ⟨g,0,none⟩) (lo.length+1) cap] 53 (0,0))∧w1.cell? ⟨g,lo.length * 4+2,none⟩=some (.slice (some ⟨a,0,none⟩) f.ms.length ca)∧w1.cell? ⟨a,nx * 2,none⟩=some (.string kx)∧w1.cell? ⟨a,nx * 2+1,none⟩=some (.iface T u):=fun w1 hok=>by
  have kW:=hok W _ u1 (by simp) (fun _ _ e=>by cases e)
  have ka:=hok a _ hcm2 (by simp) (fun _ _ e=>by cases e)
  have kg:=hok g _ hcg (by simp) (fun _ _ e=>by cases e)
  refine ⟨kW,?_,?_,?_⟩
  ·exact (World.cell?_of_block (w:=Y) (kg.trans hcg.symm)).trans e2'
  ·exact (World.cell?_of_block (w:=Y) (ka.trans hcm2.symm)).trans hk0
  ·exact (World.cell?_of_block (w:=Y) (ka.trans hcm2.symm)).trans hk1
 refine ⟨hXk,fun w1 v' k1 hok1 hown1 w2 g2 cap2 hgr hown2=>?_,hlens,hks⟩
 obtain ⟨x1,x2,x3,x4⟩:=hXk w1 hok1
 obtain ⟨hws1,hf1⟩:=WS.wrote (out:=out1) (more:=quoteL kx.data.toList) (fs:=lo ++ [f.up]) hlt hle u1 u3 u4 k1 hok1 hown1
 obtain ⟨_,hle1,⟨ov1,pv1,b1,o1,p1⟩,ok1⟩:=hws1
 have hsz1:=k1.size
 have b1':=two_set0 (u:=v') x1
 rw [b1] at b1'
 cases b1'
 have k2:Below B (w1.setCell ⟨W,0,none⟩ v') w2:=((Below.refl B _).alloc (by simp;omega) _).grown hgr (by simp;omega) (fun q hq=>(o1.lt q hq).1)
 have hok2:Lib.OthersKept 5 none (w1.setCell ⟨W,0,none⟩ v') w2:=((Lib.OthersKept.refl _ _ _).alloc _).grown hgr (own_kind (o1.alloc _))
 obtain ⟨hws2,hf2⟩:=WS.wrote (out:=out1 ++ quoteL kx.data.toList) (more:=[58]) (fs:=lo ++ [f.up]) hlt hle1 b1 p1 ok1 k2 hok2 (by rw [List.length_append,byteCells_append];simpa [Lib.byteCells] using hown2)
 have hk2:∀ b,b < W→(w2.setCell ⟨W,0,none⟩ (.slice (some ⟨g2,0,none⟩) (out1.length+(quoteL kx.data.toList).length+1) cap2)).heap[b]? = Y.heap[b]?:=fun b hbl=>by
  rw [Below.heap_setCell _ _ _ _ (by simp;omega),k2.block b (by omega),Below.heap_setCell _ _ _ _ (by simp;omega),k1.block b (by omega)]
 obtain ⟨cg1,fz1,hg1⟩:∃ c fz,(w1.setCell ⟨W,0,none⟩ v').heap[g]? = some (.cells c 104 fz):=own_kind p1 g rfl
 refine ⟨⟨(k2.block W hlt).trans b1,?_,?_⟩,?_⟩
 ·have kg:=hok2 g _ hg1 (by simp) (fun _ _ e=>by cases e)
  exact (World.cell?_of_block (w:=w1.setCell ⟨W,0,none⟩ v') (kg.trans hg1.symm)).trans ((World.cell?_of_block (w:=w1) (Below.heap_setCell _ _ _ _ (by simp;omega))).trans x2)
 ·exact (World.cell?_of_block (w:=w1) ((k2.block a (by omega)).trans (Below.heap_setCell _ _ _ _ (by simp;omega)))).trans x4
 ·have hw3:Below W w (w2.setCell ⟨W,0,none⟩ (.slice (some ⟨g2,0,none⟩) (out1.length+(quoteL kx.data.toList).length+1) cap2)):=⟨(k2.os.trans k1.os).trans hYW.os,(k2.tape.trans k1.tape).trans hYW.tape,(k2.output.trans k1.output).trans hYW.output,by have:=k2.size;have:=hYW.size;simp at *;omega,fun k hk=>(hk2 k hk).trans (hYW.block k hk)⟩
  refine (wbegin_any hA (v:=(T,u)) (c:=t) (out:=(out1 ++ quoteL kx.data.toList) ++ [58]) (fs:=lo ++ [f.up]) (hvl.mono (fun q hq=>⟨hq,hk2 q hq⟩)) hws2 (by simp;omega) (by simp;omega) (fun w' h'=>ht w' (Below.trans hw3 (h'.mono (Nat.le_of_lt hlt))))).mono ?_
  rintro e w' ⟨rfl,⟨⟨out',new,r1,r2,r3⟩,r4⟩⟩
  refine ⟨rfl,⟨⟨out',_,r1,?_,?_⟩,((hfr.trans hf1 (fun _ _ e=>e)).trans hf2 (fun _ _ e=>e)).trans r4 (fun _ _ e=>e)⟩⟩
  ·rw [r2,restAll_app,restAll_app,rest_step htx,h1]
   simp [memT]
  ·rw [h1] at r3
   simp only [List.length_append] at r3
   omega
theorem step_objN (hA:AppendsIntK) {w:World}{B W:Nat}{out:Bys}{lo:List Fm}{f:Fm} (h:WS w B W out (lo ++ [f])) (hn:f.next < f.texts.length) (hn0:0 < f.next) (hob:f.obj=true) (ho:out.length≤8000000000) (hlo:lo.length≤1000000000) (hcnt:f.texts.length≤9223372036854775807) (hT:f.rest.length≤1000000000) (ht:Lib.TabBelow Tryz.prog W w "internal/strconv.uint64pow10" .u64 Lib.pow10Tab) :
  Calls Tryz.prog 14 #[.pointer (some ⟨W,0,none⟩)] w fun e w'=>e = .returned (.tuple #[])∧StepW B W out (lo ++ [f]) w w':=by
 obtain ⟨i0,hi0,hz0,hz1,hz2⟩:=info_parts (show (Tryz.prog.info? 5).map (fun i=>(i.zero,i.size,i.bytes))=some (some (.int .u8 0),1,1) by kernel_rfl)
 obtain ⟨hlt,hle,⟨ov,pv,hb,hown,hpv⟩,hfs⟩:=h
 obtain ⟨oa,ol,oc,rfl⟩:=owns_shape hown
 obtain ⟨c0,c1,c2,c3,c4⟩:=two_c0 hb
 obtain ⟨g,cap,rfl,hgB,hcap,hcm,hcell,hfz,hgl⟩:=topF hpv
 have e0:=hcell 0 _ rfl
 have e1:=hcell 1 _ rfl
 have e2:=hcell 2 _ rfl
 have e3:=hcell 3 _ rfl
 simp only [hob,if_true,Nat.add_zero] at e0 e1 e2
 have hl:=texts_len_obj hob
 have hfo:=hfs f (by simp)
 have hfo':=hfo.1
 rw [if_pos (by simp [hob])] at hfo'
 obtain ⟨⟨kx,⟨T,u⟩,t⟩,hx⟩:∃ x,f.ms[f.next]? = some x:=⟨_,List.getElem?_eq_getElem (by omega)⟩
 obtain ⟨a,ca,hrow⟩:∃ a ca,f.row = .slice (some ⟨a,0,none⟩) f.ms.length ca:=by
  rcases hfo'.1.2 with ⟨_,h0⟩ | ⟨a,ca,cur,e,_⟩
  ·omega
  ·exact ⟨a,ca,e⟩
 rw [hrow] at e2
 have haW:a < W:=hfo.2.1 a (by rw [hrow];rfl)
 have hrow':=hfo'.1
 rw [hrow] at hrow'
 obtain ⟨_,hM,_,_,_⟩:=owns_mem hrow'
 obtain ⟨hk0,hk1⟩:=hM.at hx
 simp only [iv] at hk0 hk1
 have hup:=fun m=>WS.up (w:=w.drewN m) (out:=out) (f:=f) hlt hle hb hown hpv (fun x hx=>(hfs x hx).keep (fun _ _=>rfl)) hn
 have nag:¬ a=g:=by omega
 have nga:¬ g=a:=by omega
 have ngW:¬ g=W:=by omega
 have nWg:¬ W=g:=by omega
 have naW:¬ a=W:=by omega
 have nWa:¬ W=a:=by omega
 obtain ⟨nx,hnx⟩:∃ nx,f.next=nx:=⟨_,rfl⟩
 have hgo:some g≠(Value.slice oa ol oc).ownBlock:=fun e=>by
  obtain ⟨x1,y1,z1⟩:=own_kind hown g e.symm
  obtain ⟨x2,y2,z2⟩:=own_kind hpv g rfl
  rw [z1] at z2
  simp at z2
 have hnb:∀ k,k < B→some k≠(Value.slice oa ol oc).ownBlock:=fun k hk e=>by have:=(hown.lt k e.symm).1;omega
 have hoX:∀ m,((w.drewN m).setCell ⟨g,lo.length * 4+3,none⟩ (.int .i64 ((nx:Int)+1))).ownsRow B 5 1 (.slice oa ol oc) out.length (Lib.byteCells out):=fun m=>by
  have:=(hup m).2.1
  rw [hnx] at this
  exact this
 have hX0:∀ m k,k≠g→((w.drewN m).setCell ⟨g,lo.length * 4+3,none⟩ (.int .i64 ((nx:Int)+1))).heap[k]? = w.heap[k]?:=fun m k hne=>Below.heap_setCell _ _ _ _ (by simpa using hne)
 have hgX:∀ m i v,i≠3→w.cell? ⟨g,lo.length * 4+i,none⟩=some v→((w.drewN m).setCell ⟨g,lo.length * 4+3,none⟩ (.int .i64 ((nx:Int)+1))).cell? ⟨g,lo.length * 4+i,none⟩=some v:=fun m i v hi hc=>by
  exact (World.cell?_setCell_other _ _ _ _ (by simp <;> omega)).trans hc
 have hlen1:(out ++ [44]).length=out.length+1:=by simp
 have hpost:∀ m w1 g1 cap1,(((w.drewN m).setCell ⟨g,lo.length * 4+3,none⟩ (.int .i64 ((nx:Int)+1))).alloc (.cells #[.int .u8 44] 5)).grownBy w1 (Value.slice oa ol oc).ownBlock→w1.ownsRow B 5 1 (.slice (some ⟨g1,0,none⟩) (out.length+1) cap1) (out.length+1) (Lib.byteCells out ++ [.int .u8 44])→
   (w1.heap[W]? = some (.cells #[.slice oa ol oc,.slice (some ⟨g,0,none⟩) (lo.length+1) cap] 53 (0,0))∧w1.cell? ⟨g,lo.length * 4,none⟩=some (.int .u8 125)∧w1.cell? ⟨g,lo.length * 4+2,none⟩=some (.slice (some ⟨a,0,none⟩) f.ms.length ca)∧w1.cell? ⟨a,nx * 2,none⟩=some (.string kx)∧w1.cell? ⟨a,nx * 2+1,none⟩=some (.iface T u)):=fun m w1 g1 cap1 hgr hown1=>by
  have hs:∀ k,k < w.heap.size→some k≠(Value.slice oa ol oc).ownBlock→w1.heap[k]? = ((w.drewN m).setCell ⟨g,lo.length * 4+3,none⟩ (.int .i64 ((nx:Int)+1))).heap[k]?:=fun k hk hd=>(hgr.block k (by simp;omega) hd).trans ((below_alloc _ _).block k (by simpa using hk))
  refine ⟨(hs W (by omega) (hnb W hlt)).trans ((hX0 m W (by omega)).trans hb),?_,?_,?_,?_⟩
  ·exact (World.cell?_of_block (hs g hgl hgo)).trans (hgX m 0 _ (by omega) e0)
  ·exact (World.cell?_of_block (hs g hgl hgo)).trans (hgX m 2 _ (by omega) e2)
  ·rw [hnx] at hk0
   exact (World.cell?_of_block ((hs a (by omega) (hnb a (by omega))).trans (hX0 m a (by omega)))).trans hk0
  ·rw [hnx] at hk1
   exact (World.cell?_of_block ((hs a (by omega) (hnb a (by omega))).trans (hX0 m a (by omega)))).trans hk1
 have htail:∀ m w1 g1 cap1,(((w.drewN m).setCell ⟨g,lo.length * 4+3,none⟩ (.int .i64 ((nx:Int)+1))).alloc (.cells #[.int .u8 44] 5)).grownBy w1 (Value.slice oa ol oc).ownBlock→w1.ownsRow B 5 1 (.slice (some ⟨g1,0,none⟩) (out.length+1) cap1) (out.length+1) (Lib.byteCells out ++ [.int .u8 44])→
   ((w1.setCell ⟨W,0,none⟩ (.slice (some ⟨g1,0,none⟩) (out.length+1) cap1)).ownsRow B 5 1 (.slice (some ⟨g1,0,none⟩) (out.length+1) cap1) (out ++ [44]).length (Lib.byteCells (out ++ [44]))∧B≤w1.heap.size)∧_:=fun m w1 g1 cap1 hgr hown1=>by
  obtain ⟨u1,u2,u3,u4⟩:=hup m
  rw [hnx] at u1 u2 u3 u4
  have hfr:Fr (fun k=>k=W∨B≤k) w ((w.drewN m).setCell ⟨g,lo.length * 4+3,none⟩ (.int .i64 ((nx:Int)+1))):=((Fr.refl _ w).drewN m).setCell _ (.inl (.inr hgB))
  have k1:Below B ((w.drewN m).setCell ⟨g,lo.length * 4+3,none⟩ (.int .i64 ((nx:Int)+1))) w1:=((Below.refl B _).alloc (by simp;omega) _).grown hgr (by simp;omega) (fun q hq=>(u2.lt q hq).1)
  have hok1:Lib.OthersKept 5 none ((w.drewN m).setCell ⟨g,lo.length * 4+3,none⟩ (.int .i64 ((nx:Int)+1))) w1:=((Lib.OthersKept.refl _ _ _).alloc _).grown hgr (own_kind (u2.alloc _))
  obtain ⟨hws,hf2⟩:=WS.wrote (out:=out) (more:=[44]) (fs:=lo ++ [f.up]) hlt (by simpa using hle) u1 u3 u4 k1 hok1 (by simpa [Lib.byteCells] using hown1)
  obtain ⟨_,hle1,⟨ov1,pv1,b1,o1,p1⟩,ok1⟩:=hws
  have b1':=two_set0 (u:=.slice (some ⟨g1,0,none⟩) (out.length+1) cap1) ((hpost m w1 g1 cap1 hgr hown1).1)
  rw [b1] at b1'
  cases b1'
  exact ⟨⟨o1,by simpa using hle1⟩,tail_obj hA (out:=out) (out1:=out ++ [44]) hlt hle hle1 b1 p1 ok1 (by rw [← hnx];exact hx) hnx hob hrow (by rw [if_neg (by omega)]) (by simp;omega) hlo hT (hfr.trans hf2 (fun _ _ e=>e)) ht⟩
 obtain ⟨L,hL⟩:∃ L,f.ms.length=L:=⟨_,rfl⟩
 rw [hL] at e2 hl
 have z0:¬ (nx:Int)=(L:Int):=by omega
 have z1:(nx:Int) < (L:Int):=by omega
 have z2:L≤9223372036854775807:=by omega
 have z3:(0:Int) < (nx:Int):=by omega
 have z4:(0:Int)≤(nx:Int):=by omega
 rw [hnx] at e3 hk0 hk1
 obtain ⟨o1,ho1⟩:∃ o1,out ++ [44]=o1:=⟨_,rfl⟩
 have hl1:o1.length=out.length+1:=by rw [← ho1,hlen1]
 simp only [hL] at hpost
 simp only [hL,ho1] at htail
 have HL1:Hid (o1.length=out.length+1):=hl1
 clear hl1 ho1
 have HPOST:Aside _:=hpost
 have HTAIL:Aside _:=htail
 have HOX:Aside _:=hoX
 clear hpost htail hoX hX0 hgX hgo hnb hup hcell hfs hfo hfo' hpv hl hn hrow' hx hrow hcnt hL ht hown hn0 hnx hM hT hlen1
 go_enter Tryz.func14,Tryz.ntmps14
 go_wp2_with fail
 go_quiet (fail)
 go_wp2_with fail
 go_quiet (fail)
 go_wp2_with (refine wpList_append_lies _ (by rfl) _ _ _ (by rfl) B 5 i0 _ 1 1 Tryz.underlying50 hi0 hz0 hz1 hz2 rfl (by omega) (.slice oa ol oc) out.length (Lib.byteCells out) (by rfl) ((HOX.out _).alloc _) ⟨w.heap.size,0,none⟩ 1 1 [.int .u8 44] (by rfl) (by rfl) (World.news_of_block (cs:=#[.int .u8 44]) (t:=5) (fr:=(0,0)) (heap_news _ _ (by simp))) (by simp [Value.oneCell']) (by omega) (by unfold maxLen;omega) (by omega) (by simp;omega) (w.heap.size+1) (by simp) ?_;intro g1 cap1 w1 hown1 hgrow1 hat1 hlt1;obtain ⟨hb1,f0,f1,f2,f3⟩:=HPOST.out _ _ _ _ hgrow1 hown1;obtain ⟨d0,d1,d2,d3,d4⟩:=two_c0 hb1;have HT2:Aside _:=HTAIL.out _ _ _ _ hgrow1 hown1)
 have hBw:=HT2.out.1.2
 go_region_with ((go_at_call 33;refine (appendString_any (B:=B) (out:=o1) kx (by have:=HT2.out.2.2.2.2;omega) ?_ ?_ (by have:=HL1.out;omega)).mono ?_;(first | exact HT2.out.1.1 | exact (World.ownsRow.drew HT2.out.1.1));(first | (simp;omega) | omega);rintro e w2 ⟨v',rfl,hown2,k2,hok2⟩;obtain ⟨a',l',c',rfl⟩:=owns_shape hown2;obtain ⟨hb2,q0,q1,q2⟩:=HT2.out.2.1 w2 hok2;obtain ⟨r0,r1,r2,r3,r4⟩:=two_c0 hb2))
 all_goals
  go_wp2_with (refine wpList_append_lies _ (by rfl) _ _ _ (by rfl) B 5 i0 _ 1 1 Tryz.underlying50 hi0 hz0 hz1 hz2 rfl (by omega) (.slice a' l' c') (o1.length+(quoteL kx.data.toList).length) (Lib.byteCells o1 ++ Lib.byteCells (quoteL kx.data.toList)) (by rfl) ((owns_off hown2 hlt).alloc _) ⟨w2.heap.size,0,none⟩ 1 1 [.int .u8 58] (by rfl) (by rfl) (World.news_of_block (cs:=#[.int .u8 58]) (t:=5) (fr:=(0,0)) (heap_news _ _ (by simp))) (by simp [Value.oneCell']) (by omega) (by have:=HT2.out.2.2.2.1;have:=HL1.out;unfold maxLen;omega) (by have:=HT2.out.2.2.2.1;have:=HL1.out;omega) (by have:=k2.size;simp at this ⊢;omega) (w2.heap.size+1) (by simp) ?_;intro g2 cap2 w3 hown3 hgrow3 hat3 hlt3;obtain ⟨⟨y1,y2,y3⟩,hcb⟩:=HT2.out.2.2.1 w2 _ ((belowD _ _ 1).trans k2) hok2 hown2 w3 g2 cap2 hgrow3 hown3;have HCB:Aside _:=hcb;clear hcb;obtain ⟨p0,p1,p2,p3,p4⟩:=two_c0 y1)
  refine Calls.mono HCB.out ?_
  rintro e w4 ⟨rfl,hsw⟩
  go_wp2_with fail
  go_end0
  exact ⟨rfl,hsw⟩
theorem row_cnt {w:World}{N e s n:Nat}{v:Value}{xs:List Value} (h:w.ownsRow N e s v n xs):n≤9223372036854775807:=by
 rcases h.2 with ⟨_,h0⟩ | ⟨g,cap,cur,_,_,_,hn,hm,_,_⟩
 ·omega
 ·have:cap≤9223372036854775807:=by simpa [maxLen] using hm
  omega
theorem FOk.cnt {w:World}{W:Nat}{f:Fm} (h:FOk w W f):f.texts.length≤9223372036854775807:=by
 have h1:=h.1
 by_cases ho:f.obj=true
 ·rw [if_pos ho] at h1
  rw [texts_len_obj ho]
  exact row_cnt h1.1
 ·rw [if_neg ho] at h1
  rw [texts_len_arr (by simpa using ho)]
  exact row_cnt h1.1
theorem rest_pos (f:Fm):1≤f.rest.length:=by unfold Fm.rest;rw [List.length_append,List.length_singleton];omega
theorem restAll_len (fs:List Fm):fs.length≤(restAll fs).length:=by
 induction fs with
 | nil=>simp [restAll]
 | cons f fs ih =>
  have:=rest_pos f
  simp only [restAll,List.reverse_cons,List.flatMap_append,List.length_append,List.length_cons,List.flatMap_cons,List.flatMap_nil,List.append_nil] at ih ⊢
  omega
theorem step_ok (hA:AppendsIntK) {w:World}{B W:Nat}{out:Bys}{fs:List Fm} (h:WS w B W out fs) (hne:fs≠[]) (ho:out.length≤8000000000) (hr:(restAll fs).length≤1000000000) (ht:Lib.TabBelow Tryz.prog W w "internal/strconv.uint64pow10" .u64 Lib.pow10Tab) :
  Calls Tryz.prog 14 #[.pointer (some ⟨W,0,none⟩)] w fun e w'=>e = .returned (.tuple #[])∧StepW B W out fs w w':=by
 obtain ⟨lo,f,rfl⟩:∃ lo f,fs=lo ++ [f]:=⟨fs.dropLast,fs.getLast hne,(List.dropLast_concat_getLast hne).symm⟩
 have hok:=h.ok f (by simp)
 have hcnt:=hok.cnt
 have hnx:=hok.2.2
 rw [restAll_app,List.length_append] at hr
 have hlo:=restAll_len lo
 by_cases hend:f.next=f.texts.length
 ·cases hob:f.obj with
  | false=>exact step_end_arr h hend hob (by omega) (by omega) hcnt
  | true=>exact step_end_obj h hend hob (by omega) (by omega) hcnt
 ·by_cases h0:f.next=0
  ·cases hob:f.obj with
   | false=>exact step_arr0 hA h (by omega) h0 hob (by omega) (by omega) hcnt ht
   | true=>exact step_obj0 hA h (by omega) h0 hob (by omega) (by omega) hcnt (by omega) ht
  ·cases hob:f.obj with
   | false=>exact step_arrN hA h (by omega) (by omega) hob (by omega) (by omega) hcnt ht
   | true=>exact step_objN hA h (by omega) (by omega) hob (by omega) (by omega) hcnt (by omega) ht
def WrI (B W:Nat) (c:Bys) (w:World) (out:Bys) (fs:List Fm):Prop:=WS w B W out fs∧out ++ restAll fs=c
theorem WrI.len {B W:Nat}{c:Bys}{w:World}{out:Bys}{fs:List Fm} (h:WrI B W c w out fs):out.length+(restAll fs).length=c.length:=by
 rw [← h.2,List.length_append]
theorem Canonical_any (hA:AppendsIntK) {w:World}{v:IV}{c:Bys} (hv:Vl w (· < w.heap.size) v c) (hc:c.length≤1000000000) (hne:c≠[]) (ht:Lib.TabBelow Tryz.prog w.heap.size w "internal/strconv.uint64pow10" .u64 Lib.pow10Tab) :
  Calls Tryz.prog 8 #[iv v] w fun e w'=>e = .returned (.string ⟨c.toArray⟩)∧Below w.heap.size w w':=by
 have hbA:Below w.heap.size w (w.alloc (.cells #[.slice none 0 0,.slice none 0 0] 53)):=below_alloc w _
 have hW0:WS (w.alloc (.cells #[.slice none 0 0,.slice none 0 0] 53)) (w.heap.size+1) w.heap.size [] []:=⟨by omega,by simp,⟨_,_,heap_new w _,World.ownsRow_nil _ _ _ _,World.ownsRow_nil _ _ _ _⟩,by simp⟩
 have hbe:=wbegin_any hA (v:=v) (c:=c) (hv.mono (fun q hq=>⟨hq,hbA.block q hq⟩)) hW0 (by simp) (by simp) (fun w' h'=>ht w' (hbA.trans (h'.mono (by omega))))
 obtain ⟨T,u⟩:=v
 have hst:∀ w1,Fr (fun k=>k=w.heap.size∨w.heap.size+1≤k) (w.alloc (.cells #[.slice none 0 0,.slice none 0 0] 53)) w1→Below w.heap.size w w1:=fun w1 hf=>hbA.trans ⟨hf.os,hf.tape,hf.output,hf.size,fun k hk=>hf.block k (by simp;omega) (by rintro (e | e) <;> omega)⟩
 have hstep:∀ w1 out fs,WrI (w.heap.size+1) w.heap.size c w1 out fs→fs≠[]→Below w.heap.size w w1→Calls Tryz.prog 14 #[.pointer (some ⟨w.heap.size,0,none⟩)] w1 fun e w'=>e = .returned (.tuple #[])∧(∃ out' fs',WrI (w.heap.size+1) w.heap.size c w' out' fs'∧out.length < out'.length)∧Fr (fun k=>k=w.heap.size∨w.heap.size+1≤k) w1 w':=fun w1 out fs hI hne hb=>by
  have hl:=hI.len
  refine (step_ok hA hI.1 hne (by omega) (by omega) (fun w' h'=>ht w' (hb.trans h'))).mono ?_
  rintro e w' ⟨rfl,⟨out',fs',h1,h2,h3⟩,h4⟩
  exact ⟨rfl,⟨out',fs',⟨h1,h2.trans hI.2⟩,h3⟩,h4⟩
 have HST:Aside _:=hst
 have HSTEP:Aside _:=hstep
 have HBE:Aside _:=hbe
 clear hst hstep hbe hv ht hW0 hbA
 go_enter Tryz.func8,Tryz.ntmps8
 go_wp2_with fail
 refine Calls.mono HBE.out ?_
 rintro e w1 ⟨rfl,⟨⟨out1,new1,hws1,hr1,_⟩,fr1⟩⟩
 have hI1:WrI (w.heap.size+1) w.heap.size c w1 out1 new1:=⟨by simpa using hws1,by simpa [restAll] using hr1⟩
 have HI1:Aside _:=hI1
 have FR1:Aside _:=fr1
 clear hI1 fr1 hws1 hr1
 go_wp2_with fail
 go_loopg [9] c.length (fun k v9 wr=>∃ (out:Bys) (fs:List Fm),c.length≤out.length+k∧Aside (WrI (w.heap.size+1) w.heap.size c wr out fs)∧Aside (Fr (fun k=>k=w.heap.size∨w.heap.size+1≤k) (w.alloc (.cells #[.slice none 0 0,.slice none 0 0] 53)) wr))
 case atStart=>exact ⟨out1,new1,by omega,HI1,FR1⟩
 case round =>
  obtain ⟨out,fs,hk,HI,HF⟩:=hrel
  obtain ⟨ov,pv,hb,hown,hpv⟩:=HI.out.1.has
  obtain ⟨c0,c1,c2,c3,c4⟩:=two_c0 hb
  have hlen:=HI.out.len
  obtain ⟨ra,rc,rfl⟩:∃ ra rc,pv = .slice ra fs.length rc:=by
   rcases hpv.2 with ⟨e,h0⟩ | ⟨g',c',cur,e,_⟩
   ·exact ⟨none,0,by rw [e,h0]⟩
   ·exact ⟨_,_,e⟩
  obtain ⟨oa,ol,oc,rfl⟩:=owns_shape hown
  by_cases hfs:fs=[]
  ·subst hfs
   have hoc:out=c:=by have:=HI.out.2;simpa [restAll] using this
   subst hoc
   obtain ⟨g,cp,hge,hcb⟩:=owns_bytes hown hne
   cases hge
   have hcv:=run_convert_bytes_back (P:=Tryz.prog) wr 50 9 5 ⟨g,0,none⟩ oc out Tryz.underlying50 Tryz.underlying5 Tryz.underlying9 hcb
   simp only [List.length_nil] at c1
   clear hcb hown hpv hb
   go_wp2_with fail
   go_ret
   exact ⟨rfl,HST.out _ HF.out⟩
  ·obtain ⟨n,hn⟩:∃ n,fs.length=n:=⟨_,rfl⟩
   have hn0:(0:Int) < (n:Int):=by have:=List.length_pos_iff.2 hfs;omega
   rw [hn] at c1
   have HS:Aside _:=HSTEP.out wr out fs HI.out hfs (HST.out _ HF.out)
   clear hown hpv hb hn
   go_wp2_with fail
   refine Calls.mono HS.out ?_
   rintro e w2 ⟨rfl,⟨out',fs',hI',hlt'⟩,hf'⟩
   have hl':=hI'.len
   have HI':Aside _:=hI'
   have HF':Aside _:=hf'
   clear hI' hf'
   go_wp2_with fail
   go_roundg (c.length - out'.length)
   case measure=>omega
   case rel=>exact ⟨out',fs',by omega,HI',HF.out.trans HF'.out (fun _ _ e=>e)⟩
set_option maxRecDepth 100000
theorem Fr.belowN {D:Nat→Prop}{n:Nat}{a w w':World} (h:Fr D w w') (hD:∀ k,D k→n≤k) (hb:Below n a w) (hn:n≤w.heap.size):Below n a w' :=
 hb.trans ⟨h.os,h.tape,h.output,h.size,fun k hk=>h.block k (by omega) (fun e=>by have:=hD k e;omega)⟩
theorem four_facts {w:World}{b:Nat}{x y z v:Value}{t:TypeId} (h:w.heap[b]? = some (.cells #[x,y,z,v] t (0,0))):(w.cell? ⟨b,0,none⟩=some x∧w.cell? ⟨b,1,none⟩=some y∧w.cell? ⟨b,2,none⟩=some z∧w.cell? ⟨b,3,none⟩=some v)∧(w.frozen? ⟨b,0,none⟩=false∧w.frozen? ⟨b,1,none⟩=false∧w.frozen? ⟨b,2,none⟩=false∧w.frozen? ⟨b,3,none⟩=false)∧b < w.heap.size:=by
 refine ⟨⟨?_,?_,?_,?_⟩,⟨?_,?_,?_,?_⟩,lt_of_block h⟩ <;> simp [World.cell?,World.frozen?,h]
def resV (st:Int) (o:Value) (e:ByteArray):Value:=.agg #[.int .u8 st,o,.string e,.int .i64 0]
structure Asks (w:World):Prop where
 cmp:ComparesStr
 rune:AppendsRune
 int:ParsesInt
 app:AppendsIntK
 parse:∀ w',Below w.heap.size w w'→ParsesAt w'
 signs:SignsIn w
 tab:Lib.TabBelow Tryz.prog w.heap.size w "internal/strconv.uint64pow10" .u64 Lib.pow10Tab
theorem Asks.below {w w':World} (h:Asks w) (k:Below w.heap.size w w'):Asks w' :=
 ⟨h.cmp,h.rune,h.int,h.app,fun w2 k2=>h.parse w2 (k.trans (k2.mono k.size)),h.signs.below k,tab_up h.tab k k.size⟩
theorem read_some {w:World} (h:Asks w) {s:ByteArray}{c:Bys}{p:Nat} (hm:s.size≤10000000) (hr:readL s=(some c,p)) :
  Calls Tryz.prog 7 #[.string s] w fun e w'=>(∃ T u,e = .returned (.tuple #[.iface T u,.int .i64 0,.bool true])∧Vl w' (· < w'.heap.size) (T,u) c)∧Below w.heap.size w w':=by
 refine (read_any h.cmp h.rune h.parse hm).mono ?_
 rintro e w' ⟨hp,k⟩
 rw [hr] at hp
 obtain ⟨⟨T,u⟩,he,hv⟩:=hp
 exact ⟨⟨T,u,he,hv.mono (fun g hg=>⟨hg.2,rfl⟩)⟩,k⟩
theorem read_none {w:World} (h:Asks w) {s:ByteArray}{p:Nat} (hm:s.size≤10000000) (hr:readL s=(none,p)) :
  Calls Tryz.prog 7 #[.string s] w fun e w'=>e = .returned (.tuple #[.nilIface,.int .i64 p,.bool false])∧Below w.heap.size w w':=by
 refine (read_any h.cmp h.rune h.parse hm).mono ?_
 rintro e w' ⟨hp,k⟩
 rw [hr] at hp
 exact ⟨hp,k⟩
theorem canon_at {w:World} (h:Asks w) {x:IV}{c:Bys} (hv:Vl w (· < w.heap.size) x c) (hc:c.length≤1000000000) (hne:c≠[]):CanonAt w x ⟨c.toArray⟩:=fun w' k =>
 Canonical_any h.app (hv.mono (fun q hq=>⟨Nat.lt_of_lt_of_le hq k.size,k.block q hq⟩)) hc hne (h.below k).tab
set_option maxRecDepth 10000
theorem Canon_some {w:World} (h:Asks w) {s:ByteArray}{c:Bys}{p:Nat} (hm:s.size≤10000000) (hr:readL s=(some c,p)) :
  Calls Tryz.prog 5 #[.string s] w fun e w'=>e = .returned (.tuple #[.string ⟨c.toArray⟩,.int .i64 0,.int .i64 0])∧Below w.heap.size w w':=by
 have hcn:=read_in hr
 have hne:c≠[]:=by
  obtain ⟨b,r,e,_⟩:=hcn.1.first
  rw [e];simp
 have hcl:c.length≤1000000000:=by have:=hcn.2;omega
 obtain ⟨out,hout⟩:∃ out:ByteArray,(⟨c.toArray⟩:ByteArray)=out:=⟨_,rfl⟩
 have hrd:=read_some h hm hr
 have hca:∀ w1 T u,Below w.heap.size w w1→Vl w1 (· < w1.heap.size) (T,u) c→Calls Tryz.prog 8 #[.iface T u] w1 fun e w'=>e = .returned (.string out)∧Below w1.heap.size w1 w':=fun w1 T u k hv=>by
  have hq:=Canonical_any (v:=(T,u)) h.app hv hcl hne (h.below k).tab
  rw [hout] at hq
  exact hq
 rw [hout]
 have HRD:Aside _:=hrd
 have HCA:Aside _:=hca
 clear hrd hca h hcn hne hcl hout hr hm
 go_enter Tryz.func5,Tryz.ntmps5
 go_wp2_with (first
  | (go_at_call 7;refine Calls.mono HRD.out ?_;rintro e w1 ⟨⟨T,u,rfl,hv⟩,k1⟩;have HV:Aside _:=hv;clear hv)
  | (go_at_call 8;refine (HCA.out w1 T u k1 HV.out).mono ?_;rintro e w2 ⟨rfl,k2⟩))
 exact bodyPost_ret (v:=.tuple #[.string out,.int .i64 0,.int .i64 0]) (by simp [results,Tryz.results5,go_sem]) rfl ⟨rfl,k1.trans (k2.mono k1.size)⟩
theorem Canon_none {w:World} (h:Asks w) {s:ByteArray}{p:Nat} (hm:s.size≤10000000) (hr:readL s=(none,p)) :
  Calls Tryz.prog 5 #[.string s] w fun e w'=>e = .returned (.tuple #[.string ⟨#[]⟩,.int .i64 1,.int .i64 p])∧Below w.heap.size w w':=by
 have hrd:=read_none h hm hr
 have HRD:Aside _:=hrd
 clear hrd h hr hm
 go_enter Tryz.func5,Tryz.ntmps5
 go_wp2_with (go_at_call 7;refine Calls.mono HRD.out ?_;rintro e w1 ⟨rfl,k1⟩)
 exact bodyPost_ret (v:=.tuple #[.string ⟨#[]⟩,.int .i64 1,.int .i64 p]) (by simp [results,Tryz.results5,go_sem]) rfl ⟨rfl,k1⟩
end Go.Proofs.Tryz
