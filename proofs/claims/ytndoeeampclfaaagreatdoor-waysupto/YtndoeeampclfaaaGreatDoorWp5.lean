import Derived.Test.YtndoeeampclfaaaGreatDoorWp1
import Derived.Shelf.SlSortCmp.Whole1
set_option linter.all false
namespace Go.Proofs.Tryz
set_option maxHeartbeats 16000000
open Go.RowKit
set_option maxRecDepth 100000
def trueE (_:Unit):Value:=.iface 96 (.bool true)
theorem unit_arr {n:Nat}{d:Array Unit} (h:d.size=n):d=Array.replicate n ():=by
 apply Array.ext
 ·simp [h]
 ·intro i _ _
  rfl
theorem grow_below (w:World) (m:Nat) (os:Array Obj):Below w.heap.size w (Go.Sort.grow (Go.Sort.ahead w m) os):=by
 refine ⟨rfl,rfl,rfl,?_,?_⟩
 ·rw [Go.Sort.size_grow]
  exact Nat.le_add_right _ _
 ·intro k hk
  show (w.heap ++ os)[k]? = w.heap[k]?
  rw [Array.getElem?_append_left hk]
theorem swo_zero:Go.Sort.SWO (ltOf fun _ _:Unit=>(0:Int)):=⟨fun _=>rfl,fun _ _ _ h _=>by simp [ltOf] at h,fun _ _ _ _ _=>rfl⟩
theorem trues_cmp (blk n:Nat) (w:World):CmpLays1 Tryz.prog 223 #[] trueE (fun _ _=>0) blk 0 n w:=by
 intro m os dk _ x y
 refine (Compare_true _).mono ?_
 rintro e w' ⟨rfl,q,rfl⟩
 exact ⟨rfl,q,#[],by rw [Go.Sort.grow_empty]⟩
theorem sw_below {w w':World}{blk n:Nat}{d:Array Unit} (hH:Go.Sort.Holds trueE w blk 0 (Array.replicate n ())) (hd:d.size=n) (h:SW trueE w blk 0 d w'):Below w.heap.size w w':=by
 obtain ⟨m,os,rfl⟩:=h
 have e:sortWorld trueE w blk 0 m d os=Go.Sort.grow (Go.Sort.ahead w m) os:=by
  unfold sortWorld
  rw [Go.Sort.putRow_self]
  rw [unit_arr hd]
  exact hH
 rw [e]
 exact grow_below w m os
theorem sorts_true {ρ:Go.Shelf.Ren} (L:SlLaysF.n14 Tryz.prog ρ) (h14:ρ.f 14=291) (h15:ρ.f 15=292):SortsTrue:=by
 intro blk n cap w hn hc hblk
 have hH:Go.Sort.Holds trueE w blk 0 (Array.replicate n ()):=by
  intro j hj
  rw [Nat.zero_add]
  exact hc j (by simpa using hj)
 have hsz:(Array.replicate n ()).size=n:=by simp
 have hlim:Lib.bitLen n < 4611686018427387904:=Nat.lt_of_le_of_lt (Lib.bitLen_le n 62 (by omega) (by omega)) (by omega)
 have eg:∀ args w,(callFunc 223 args).run Tryz.prog w = .ok (.enter 223 args) w:=enters_of Tryz.func223 (by kernel_rfl) rfl
 have hp:=Any.pdqsortCmpFunc_all (P:=Tryz.prog) (ρ:=ρ) L trueE (fun _ _=>0) 223 #[] swo_zero blk 0 cap (Array.replicate n ()) w eg (by rw [hsz];exact trues_cmp blk n w) ⟨fun _=>rfl,hH,hblk⟩ (n+1) 0 n (Lib.bitLen n) (Array.replicate n ()) w (by omega) rfl (SW.start hH) (Nat.zero_le _) (by omega) (by omega) hlim (Or.inl rfl)
 have hq:=(Go.Sort.pdq_sorts (ltOf fun _ _:Unit=>(0:Int)) swo_zero (Array.replicate n ()) 0 n (Lib.bitLen n) true true (Nat.zero_le _) (by omega) (Or.inl rfl)).1.1
 have hl:=Any.bits_Len (SlLaysF0.n15.bits (P:=Tryz.prog) (ρ:=ρ) { L with }) (n:Int) w (by omega) (by omega)
 rw [show ρ.viaSlsf.f 125=ρ.f 15 from rfl,h15,Int.toNat_natCast] at hl
 rw [h14,hsz] at hp
 have HP:Aside (Calls Tryz.prog 291 #[.slice (some ⟨blk,0,none⟩) n cap,.int .i64 0,.int .i64 n,.int .i64 (Lib.bitLen n:Nat),.func (.func 223) #[] #[]] w fun e w'=>e = .returned (.tuple #[])∧Below w.heap.size w w'):=by
  refine Calls.mono hp ?_
  rintro e w' ⟨rfl,hsw⟩
  exact ⟨rfl,sw_below hH (hq.trans hsz) hsw⟩
 have HL:Aside (Calls Tryz.prog 292 #[.int .u64 (n:Int)] w fun e w'=>e = .returned (.int .i64 (Lib.bitLen n:Nat))∧w'=w):=hl
 have wr:IntKind.u64.wrap (n:Int)=n:=by simp [IntKind.wrap,IntKind.bits,IntKind.signed];omega
 clear hp hl hq hH hc hlim eg
 go_enter Tryz.func260,Tryz.ntmps260
 go_wp2_with (first
  | (go_at_call 292;refine Calls.mono HL.out ?_;rintro e w' ⟨rfl,rfl⟩)
  | (go_at_call 291;refine Calls.mono HP.out ?_;rintro e w' ⟨rfl,k1⟩))
 go_end0
 exact ⟨rfl,k1⟩
end Go.Proofs.Tryz
namespace Go.Proofs.Tryz
set_option maxHeartbeats 16000000
open Go.RowKit
set_option maxRecDepth 10000
def tTail (pos:Int):Tr:=.bin (.bin (.collect (.bool true)) ⟨#[43]⟩ .ident) ⟨#[124]⟩ (.bin (.call0 ⟨#[115,111,114,116]⟩ pos) ⟨#[124]⟩ (.index .ident (.num 0)))
theorem plainly_ge:Plainly ⟨#[62,61]⟩:=by refine ⟨?_,?_,?_,?_,?_,?_,?_⟩ <;> simp [go_sem]
theorem notNamed_sort:NotNamed ⟨#[115,111,114,116]⟩:=by refine ⟨?_,?_,?_,?_,?_⟩ <;> simp [go_sem]
theorem notGiven_sort:NotGiven ⟨#[115,111,114,116]⟩:=by refine ⟨?_,?_,?_⟩ <;> simp [go_sem]
theorem notNamed_length:NotNamed ⟨#[108,101,110,103,116,104]⟩:=by refine ⟨?_,?_,?_,?_,?_⟩ <;> simp [go_sem]
theorem notGiven_length:NotGiven ⟨#[108,101,110,103,116,104]⟩:=by refine ⟨?_,?_,?_⟩ <;> simp [go_sem]
theorem notNamed_not:NotNamed ⟨#[110,111,116]⟩:=by refine ⟨?_,?_,?_,?_,?_⟩ <;> simp [go_sem]
theorem notGiven_not:NotGiven ⟨#[110,111,116]⟩:=by refine ⟨?_,?_,?_⟩ <;> simp [go_sem]
theorem noPath_trues (n:Nat):NoPath (TruesP n):=fun _ _ h=>h.1
theorem Ev.to {p C:Nat→Prop}{w:World}{kn:Option Addr}{d:Int}{t:Tr}{s:Sp}{P Q:SP} (h:Ev p C w kn d t s [P]) (hPQ:∀ G w s,HoldsP P G w s→HoldsP Q G w s):Ev p C w kn d t s [Q]:=⟨h.1,fun v hr=>by
 obtain ⟨hC,hO⟩:=h.2 v hr
 refine ⟨hC,fun w1 hs hl=>(hO w1 hs hl).mono ?_⟩
 rintro e w' ⟨k,K,cap,he,F,D,hS,hF,hD⟩
 refine ⟨k,K,cap,he,F,D,?_,hF,hD⟩
 obtain ⟨K',cap',e1,h1,h2,h3,h4⟩:=hS
 refine ⟨K',cap',e1,h1,h2,h3,fun w2 a b=>(h4 w2 a b).mono ?_⟩
 rintro e w3 ⟨g1,s,G,F',D',g2,g3,g4⟩
 exact ⟨g1,s,G,F',D',g2,hPQ _ _ _ g3,g4⟩⟩
theorem ev_tail (hS:ComparesStr) (hT:SortsTrue) {p C:Nat→Prop}{w:World}{kn:Option Addr}{d pos:Int}{x:IV}{m n:Nat} (hC:∀ k,C k→k < w.heap.size) (hp:∀ k,p k→C k) (hF:∀ C' w',(∀ k,C k→C' k)→SameOn C w w'→w.heap.size≤w'.heap.size→FindIs C' w' 2 ⟨#[115,111,114,116]⟩ 0 n kn none) (hx:HoldsP (ArrOf (List.replicate m (BoolP true))) C w (x,none)) (hm0:0 < m) (hm:m≤1000):Ev p C w kn d (tTail pos) (x,none) [BoolP true]:=by
 refine ev_pipe (Lo:=[(TruesP (1+m),[BoolP true])]) hp ?_ ?_
 ·refine ev_oper (Lo:=[(TruesP 1,TruesP (1+m))]) (Q:=TruesP m) plainly_plus hp ?_ (ev_ident hC (trues_of hx hm0) (fun _ h=>h)) ?_
  ·exact (ev_collect hp (ev_bool hC hp) (by simp)).to (fun G w s h=>trues_of (n:=1) h (by omega))
  ·intro y hy
   rw [List.mem_singleton] at hy
   subst hy
   exact oper_plus (by omega) (by omega) (by omega) hm0
 ·intro y hy w' t G hs hl hP
  rw [List.mem_singleton] at hy
  subst hy
  have hP':=hP.plain (noPath_trues _)
  have ht2:t.2=none:=hP.here.1
  obtain ⟨t1,t2⟩:=t
  simp only at ht2
  subst ht2
  have hGl:=hP.1
  have hC':∀ k,(C k∨G k)→k < w'.heap.size:=by grind
  have hp':∀ k,p k→C k∨G k:=fun k hk=>.inl (hp k hk)
  refine ev_pipe (Lo:=[(TruesP (1+m),[BoolP true])]) hp' ?_ ?_
  ·exact ev_alone hC' hp' (hF _ _ (fun _ h=>.inl h) hs hl) notNamed_sort notGiven_sort (alone_sort hT (hP'.more (fun _ h=>.inr h) hC') (by omega) (by omega))
  ·intro y hy w2 t G2 hs2 hl2 hP2
   rw [List.mem_singleton] at hy
   subst hy
   have ht2:t.2=none:=hP2.here.1
   obtain ⟨t1,t2⟩:=t
   simp only at ht2
   subst ht2
   have hGl2:=hP2.1
   have hC2:∀ k,((C k∨G k)∨G2 k)→k < w2.heap.size:=by
    rintro k (h | h)
    ·exact Nat.lt_of_lt_of_le (hC' k h) hl2
    ·exact hGl2 k h
   have hp2:∀ k,p k→(C k∨G k)∨G2 k:=fun k hk=>.inl (hp' k hk)
   exact ev_index hp2 (ev_ident hC2 hP2 (fun _ h=>.inr h)) (ev_num hC2 hp2) (idx_trues hS (by omega) (by omega))
theorem ev_W6 {p C V:Nat→Prop}{w:World}{kn:Option Addr}{d:Int}{x:IV}{L:List Node} (h:About p C V w kn x L):Ev p C w kn d tW6 (x,none) (L.map fun _=>BoolP true):=by
 have e0:∀ (f g:Node→SP),(L.map (fun n:Node=>(f n,[g n]))).map (·.1)=L.map f:=fun f g=>by rw [List.map_map];rfl
 have e1:∀ (f g:Node→SP),(L.map (fun n:Node=>(f n,[g n]))).flatMap (·.2)=L.map g:=fun f g=>by
  clear h e0
  induction L with
  | nil=>rfl
  | cons n L ih=>simp only [List.map_cons,List.flatMap_cons,ih];rfl
 have hn:∀ C' w' ,(∀ k,C k→C' k)→SameOn C w w'→∀ name na,noneOf sOthers name=true→(sMap.toList == name.toList)=false→FindIs C' w' 2 name na 8 kn none:=fun C' w' hCC hs name na a b=>find_none (fun k hk=>hCC k (h.hp k hk)) (h.giv.move (hs.mono h.hp)) a b
 rw [← e1 (fun _=>BoolP true) (fun _=>BoolP true)]
 refine ev_pipe h.hp ?_ ?_
 ·rw [e0]
  have e2:(L.map (fun n:Node=>(Just (numS n.2.length,(none:Option Addr)),BoolP true))).map (·.2)=L.map fun _=>BoolP true:=by rw [List.map_map];rfl
  have e3:(L.map (fun n:Node=>(Just (numS n.2.length,(none:Option Addr)),BoolP true))).map (·.1)=L.map fun n=>Just (numS n.2.length,none):=by rw [List.map_map];rfl
  rw [← e2]
  refine ev_oper plainly_ge h.hp ?_ (ev_num h.hC h.hp) ?_
  ·rw [e3,← e1 (fun n=>PathA n.2.reverse) (fun n=>Just (numS n.2.length,none))]
   refine ev_pipe h.hp ?_ ?_
   ·rw [e0]
    exact ev_path h.hC h.hp (h.none (by kernel_rfl) (by kernel_rfl)) h.inp h.hVC
   ·intro y hy w' t G hs hl hP
    obtain ⟨n,_,rfl⟩:=List.mem_map.1 hy
    have hCl:=h.hC
    have hGl:=hP.1
    have hC':∀ k,(C k∨G k)→k < w'.heap.size:=by grind
    obtain ⟨ht2,v,e5,ow⟩:=hP.here
    obtain ⟨t1,t2⟩:=t
    simp only at ht2 e5
    subst ht2
    subst e5
    obtain ⟨pp,mm,c,rfl⟩:=owns_shape1 ow
    have hl5:=owns_len ow
    rw [List.length_reverse] at hl5
    subst hl5
    exact ev_alone hC' (fun k hk=>.inl (h.hp k hk)) (hn _ _ (fun _ h=>.inl h) hs _ _ (by kernel_rfl) (by kernel_rfl)) notNamed_length notGiven_length alone_length
  ·intro y hy
   obtain ⟨n,_,rfl⟩:=List.mem_map.1 hy
   exact oper_ge
 ·intro y hy w' t G hs hl hP
  obtain ⟨n,_,rfl⟩:=List.mem_map.1 hy
  have ht:t=(boolV true,none):=hP.here
  subst ht
  have hCl:=h.hC
  have hGl:=hP.1
  have hC':∀ k,(C k∨G k)→k < w'.heap.size:=by grind
  have hp':∀ k,p k→C k∨G k:=fun k hk=>.inl (h.hp k hk)
  refine ev_pipe (Lo:=[(BoolP false,[BoolP true])]) hp' ?_ ?_
  ·exact ev_alone hC' hp' (hn _ _ (fun _ h=>.inl h) hs _ _ (by kernel_rfl) (by kernel_rfl)) notNamed_not notGiven_not (alone_not true)
  ·intro y hy w2 t G2 hs2 hl2 hP2
   rw [List.mem_singleton] at hy
   subst hy
   have ht:t=(boolV false,none):=hP2.here
   subst ht
   have hGl2:=hP2.1
   have hC2:∀ k,((C k∨G k)∨G2 k)→k < w2.heap.size:=by
    rintro k (h | h)
    ·exact Nat.lt_of_lt_of_le (hC' k h) hl2
    ·exact hGl2 k h
   exact ev_alone hC2 (fun k hk=>.inl (hp' k hk)) (hn _ _ (fun _ h=>.inl (.inl h)) (hs.trans (hs2.mono (fun _ h=>.inl h))) _ _ (by kernel_rfl) (by kernel_rfl)) notNamed_not notGiven_not (alone_not false)
end Go.Proofs.Tryz
namespace Go.Proofs.Tryz
set_option maxHeartbeats 16000000
open Go.RowKit
set_option maxRecDepth 10000
def Sev:SP:=ArrOf [Just (numS 7,none)]
theorem noPath_sev:NoPath Sev:=noPath_arr _
theorem sev_same {w:World}{G G':Nat→Prop}{t s:Sp} (hP:HoldsP Sev G w t) (hQ:HoldsP Sev G' w s):∃ d n,Eqv w d n t.1 s.1∧n≤1000000:=by
 have hpl:∀ P∈[Just (numS 7,(none:Option Addr))],Plainish P:=fun P hP=>by
  rw [List.mem_singleton] at hP
  subst hP
  exact (noPath_just _).plainish
 obtain ⟨v,xs,rfl,o1,l1,_,h1⟩:=HoldsP.arr (Ps:=[Just (numS 7,none)]) hP hpl
 obtain ⟨v',ys,rfl,o2,l2,_,h2⟩:=HoldsP.arr (Ps:=[Just (numS 7,none)]) hQ hpl
 have one:∀ (zs:List IV),zs.length=1→(∃ x,zs[0]? = some x∧x=numS 7)→zs=[numS 7]:=fun zs hl ⟨x,hx,e⟩=>by
  match zs,hl,hx with
  | [z],_,hx =>
   simp only [List.getElem?_cons_zero,Option.some.injEq] at hx
   rw [hx,e]
 have ex:xs=[numS 7]:=one xs (by simpa using l1) (by
  obtain ⟨x,hx,hh⟩:=h1 0 _ rfl
  have:(x,(none:Option Addr))=(numS 7,none):=hh.here
  cases this
  exact ⟨_,hx,rfl⟩)
 have ey:ys=[numS 7]:=one ys (by simpa using l2) (by
  obtain ⟨x,hx,hh⟩:=h2 0 _ rfl
  have:(x,(none:Option Addr))=(numS 7,none):=hh.here
  cases this
  exact ⟨_,hx,rfl⟩)
 subst ex
 subst ey
 refine ⟨1,2,.inr (.inl ⟨v,v',[(numS 7,numS 7,1)],rfl,rfl,o1,o2,fun t ht=>?_,by simp⟩),by omega⟩
 rw [List.mem_singleton] at ht
 subst ht
 exact ⟨Nat.le_refl _,rfl,.inr (.inr (.inl ⟨7,by omega,by omega,rfl⟩))⟩
structure AboutV (p C V:Nat→Prop) (w:World) (kn:Option Addr) (x:IV) (L:List Node) (nv:Nat):Prop where
 ab:About p C V w kn x L
 hv:C nv
 kv:KnB w nv 0 sV 0 (iv x) (.pointer none) .nilIface (.pointer none) (.pointer kn)
theorem AboutV.move {p C C' V:Nat→Prop}{w w':World}{kn:Option Addr}{x:IV}{L:List Node}{nv:Nat} (h:AboutV p C V w kn x L nv) (hs:SameOn C w w') (hl:w.heap.size≤w'.heap.size) (hCC:∀ k,C k→C' k) (hC':∀ k,C' k→k < w'.heap.size):AboutV p C' V w' kn x L nv :=
 ⟨h.ab.move hs hl hCC hC',hCC _ h.hv,h.kv.same (hs _ h.hv)⟩
theorem AboutV.none {p C V:Nat→Prop}{w:World}{kn:Option Addr}{x:IV}{L:List Node}{nv:Nat} (h:AboutV p C V w kn x L nv) {name:ByteArray}{na:Int} (h1:noneOf sOthers name=true) (h2:(sMap.toList == name.toList)=false):FindIs C w 2 name na 9 (some ⟨nv,0,none⟩) none:=(h.ab.none h1 h2).past h.hv h.kv
theorem replicate_of (L:List Node) (P:SP):(L.map fun _=>P)=List.replicate L.length P:=by
 induction L with
 | nil=>rfl
 | cons n L ih=>rw [List.map_cons,ih];rfl
theorem ev_each_path {p C V:Nat→Prop}{w:World}{kn:Option Addr}{d:Int}{x y:IV}{L:List Node}{nv:Nat}{tf:Tr}{Q:SP}{pos:Int} (h:AboutV p C V w kn x L nv) (hd0:0 < d) (hd1:d≤1000) (hy:HoldsP (ArrOf (L.map fun n=>PathA n.2.reverse)) C w (y,none))
  (hf:∀ n∈L,∀ w' t C',HoldsP (PathA n.2.reverse) C' w' (t,none)→AboutV p C' V w' kn x L nv→Ev p C' w' (some ⟨nv,0,none⟩) (d - 1) tf (t,none) [Q]) :
  Ev p C w (some ⟨nv,0,none⟩) d (.call1 sMap tf pos) (y,none) [ArrOf (L.map fun _=>Q)]:=by
 obtain ⟨mb,hm,hF⟩:=find_map h.ab.hp h.ab.giv
 have e1:(L.map (fun n:Node=>(PathA n.2.reverse,Q))).map (·.1)=L.map fun n=>PathA n.2.reverse:=by rw [List.map_map];rfl
 have e2:(L.map (fun n:Node=>(PathA n.2.reverse,Q))).map (·.2)=L.map fun _=>Q:=by rw [List.map_map];rfl
 rw [← e2]
 refine ev_map (n:=9) h.ab.hC h.ab.hp (hF.past h.hv h.kv) hm hd0 hd1 (by rw [e1];exact hy) (fun z hz=>?_) (by rw [List.length_map];have:=h.ab.inp.len;omega) (fun z hz w' t G hs hl hP C' hCC hC'=>?_)
 ·obtain ⟨n,_,rfl⟩:=List.mem_map.1 hz
  exact noPath_pathA _
 ·obtain ⟨n,hn,rfl⟩:=List.mem_map.1 hz
  have ht2:t.2=none:=hP.here.1
  obtain ⟨t1,t2⟩:=t
  simp only at ht2
  subst ht2
  exact hf n hn w' t1 C' (hP.more (fun k hk=>hCC k (.inr hk)) hC') (h.move hs hl (fun k hk=>hCC k (.inl hk)) hC')
theorem ev_named_path {p C V:Nat→Prop}{w:World}{kn:Option Addr}{d:Int}{x t:IV}{L:List Node}{nv:Nat}{ss:List IV}{t2:Tr}{pos:Int}{Qs:List SP} (h:AboutV p C V w kn x L nv) (hP:HoldsP (PathA ss) C w (t,none))
  (hf:∀ w' C' np,AboutV p C' V w' kn x L nv→C' np→KnB w' np 0 sP 0 (iv t) (.pointer none) .nilIface (.pointer none) (.pointer (some ⟨nv,0,none⟩))→HoldsP (PathA ss) C' w' (t,none)→Ev p C' w' (some ⟨np,0,none⟩) d t2 (x,none) Qs) :
  Ev p C w (some ⟨nv,0,none⟩) d (.bind .ident sP (.bin (.var sV pos) ⟨#[124]⟩ t2)) (t,none) Qs:=by
 have key:Ev p C w (some ⟨nv,0,none⟩) d (.bind .ident sP (.bin (.var sV pos) ⟨#[124]⟩ t2)) (t,none) ([(Just (t,(none:Option Addr)),Qs)].flatMap (·.2)):=by
  refine ev_bind h.ab.hp (ev_ident h.ab.hC (just_holds _ _) (fun _ h=>h.elim)) ?_
  intro y hy w' t' G np hs hl hJ hk
  rw [List.mem_singleton] at hy
  subst hy
  have ht':t'=(t,none):=hJ.here
  subst ht'
  have hCl:=h.ab.hC
  have hGl:=hJ.1
  have hnl:=hk.lt
  have hC':∀ k,(C k∨G k∨k=np)→k < w'.heap.size:=by grind
  have h':=h.move hs hl (C':=fun k=>C k∨G k∨k=np) (fun _ h=>.inl h) hC'
  have key2:Ev p (fun k=>C k∨G k∨k=np) w' (some ⟨np,0,none⟩) d (.bin (.var sV pos) ⟨#[124]⟩ t2) (t,none) ([(Just (x,(none:Option Addr)),Qs)].flatMap (·.2)):=by
   refine ev_pipe h'.ab.hp (ev_var h'.ab.hC h'.ab.hp (FindIs.next (FindIs.here h'.hv h'.kv) (.inr (.inr rfl)) hk (by kernel_rfl)) h'.hv h'.kv (just_holds _ _) (fun _ h=>h.elim)) ?_
   intro y hy w2 t'' G2 hs2 hl2 hJ2
   rw [List.mem_singleton] at hy
   subst hy
   have ht'':t''=(x,none):=hJ2.here
   subst ht''
   have hGl2:=hJ2.1
   have hC2:∀ k,((C k∨G k∨k=np)∨G2 k)→k < w2.heap.size:=by
    rintro k (h | h)
    ·exact Nat.lt_of_lt_of_le (hC' k h) hl2
    ·exact hGl2 k h
   have hsC:SameOn C w w2:=hs.trans (hs2.mono (fun _ h=>.inl h))
   exact hf w2 _ np (h'.move hs2 hl2 (fun _ h=>.inl h) hC2) (.inl (.inr (.inr rfl))) (hk.same (hs2 np (.inr (.inr rfl)))) ((hP.move hsC (Nat.le_trans hl hl2)).more (fun _ h=>.inl (.inl h)) hC2)
  simpa using key2
 simpa using key
theorem ev_p {p C V:Nat→Prop}{w:World}{kn:Option Addr}{d:Int}{x t u:IV}{L:List Node}{nv np:Nat}{ss:List IV}{pos:Int} (h:AboutV p C V w kn x L nv) (hnp:C np) (hk:KnB w np 0 sP 0 (iv t) (.pointer none) .nilIface (.pointer none) (.pointer (some ⟨nv,0,none⟩))) (hP:HoldsP (PathA ss) C w (t,none)):Ev p C w (some ⟨np,0,none⟩) d (.var sP pos) (u,none) [PathA ss] :=
 ev_var h.ab.hC h.ab.hp (FindIs.here hnp hk) hnp hk hP (fun _ h=>h)
theorem ev_W2 (hS:ComparesStr) (hT:SortsTrue) {p C V:Nat→Prop}{w:World}{kn:Option Addr}{d:Int}{x:IV}{L:List Node} (h:About p C V w kn x L) (hd0:0 < d) (hd1:d≤1000):Ev p C w kn d tW2 (x,none) [BoolP true]:=by
 have hlen:=h.inp.len
 have hpos:=h.inp.pos
 refine ev_bind (Lo:=[(Just (x,none),[BoolP true])]) h.hp (ev_ident h.hC (just_holds _ _) (fun _ h=>h.elim)) ?_
 intro y hy w1 t G nv hs hl hJ hk
 rw [List.mem_singleton] at hy
 subst hy
 have ht:t=(x,none):=hJ.here
 subst ht
 have hCl:=h.hC
 have hGl:=hJ.1
 have hnl:=hk.lt
 have hC1:∀ k,(C k∨G k∨k=nv)→k < w1.heap.size:=by grind
 have h1:AboutV p (fun k=>C k∨G k∨k=nv) V w1 kn x L nv:=⟨h.move hs hl (fun _ h=>.inl h) hC1,.inr (.inr rfl),hk⟩
 clear hGl hnl
 generalize (fun k=>C k∨G k∨k=nv)=C1 at h1 hC1
 refine ev_pipe (Lo:=[(ArrOf (L.map fun n=>PathA n.2.reverse),[BoolP true])]) h1.ab.hp (ev_collect h1.ab.hp (ev_path h1.ab.hC h1.ab.hp (h1.none (by kernel_rfl) (by kernel_rfl)) h1.ab.inp h1.ab.hVC) (by rw [List.length_map];omega)) ?_
 intro y hy w2 t G2 hs2 hl2 hP2
 rw [List.mem_singleton] at hy
 subst hy
 have ht2:t.2=none:=hP2.here.1
 obtain ⟨t1,t2⟩:=t
 simp only at ht2
 subst ht2
 have hGl2:=hP2.1
 have hC1c:=h1.ab.hC
 have hC2:∀ k,(C1 k∨G2 k)→k < w2.heap.size:=by grind
 have h2:=h1.move hs2 hl2 (C':=fun k=>C1 k∨G2 k) (fun _ h=>.inl h) hC2
 refine ev_pipe (Lo:=[(ArrOf (L.map fun _=>Sev),[BoolP true])]) h2.ab.hp (ev_each_path h2 hd0 hd1 (hP2.more (fun _ h=>.inr h) hC2) ?_) ?_
 ·intro n hn w3 t3 C3 hP3 h3
  refine ev_named_path h3 hP3 (fun w4 C4 np h4 hnp hkp hP4=>?_)
  refine ev_pipe (Lo:=[(SetR n.2.reverse Sev,[Sev])]) h4.ab.hp ?_ ?_
  ·exact ev_setpath (Lo:=[(PathA n.2.reverse,SetR n.2.reverse Sev)]) h4.ab.hp ((h4.none (by kernel_rfl) (by kernel_rfl)).past hnp hkp) (ev_p h4 hnp hkp hP4) (ev_collect h4.ab.hp (ev_num h4.ab.hC h4.ab.hp) (by simp)) (fun y hy=>by
    rw [List.mem_singleton] at hy
    subst hy
    exact set_node hS noPath_sev.plainish h4.ab.inp h4.ab.hVC hn)
  ·intro y hy w5 t5 G5 hs5 hl5 hP5
   rw [List.mem_singleton] at hy
   subst hy
   have ht5:t5.2=none:=hP5.here.1
   obtain ⟨y5,q5⟩:=t5
   simp only at ht5
   subst ht5
   have hGl5:=hP5.1
   have hCl4:=h4.ab.hC
   have hC5:∀ k,(C4 k∨G5 k)→k < w5.heap.size:=by grind
   have h5:=h4.move hs5 hl5 (C':=fun k=>C4 k∨G5 k) (fun _ h=>.inl h) hC5
   have hkp5:=hkp.same (hs5 np hnp)
   exact ev_getpath (Lo:=[(PathA n.2.reverse,Sev)]) h5.ab.hp ((h5.none (by kernel_rfl) (by kernel_rfl)).past (.inl hnp) hkp5) (ev_p h5 (.inl hnp) hkp5 ((hP4.move hs5 hl5).more (fun _ h=>.inl h) hC5)) (fun y hy=>by
    rw [List.mem_singleton] at hy
    subst hy
    exact along_set hS (by rw [List.length_reverse];exact (h.inp.node n hn).1) (hP5.more (fun _ h=>.inr h) hC5))
 ·intro y hy w3 t3 G3 hs3 hl3 hP3
  rw [List.mem_singleton] at hy
  subst hy
  have ht3:t3.2=none:=hP3.here.1
  obtain ⟨y3,q3⟩:=t3
  simp only at ht3
  subst ht3
  have hGl3:=hP3.1
  have hC3:∀ k,((C1 k∨G2 k)∨G3 k)→k < w3.heap.size:=by
   rintro k (h | h)
   ·exact Nat.lt_of_lt_of_le (hC2 k h) hl3
   ·exact hGl3 k h
  have h3:=h2.move hs3 hl3 (C':=fun k=>(C1 k∨G2 k)∨G3 k) (fun _ h=>.inl h) hC3
  obtain ⟨mb,hm,hF⟩:=find_map h3.ab.hp h3.ab.giv
  have e1:(L.map (fun _:Node=>(Sev,BoolP true))).map (·.1)=L.map fun _=>Sev:=by rw [List.map_map];rfl
  have e2:(L.map (fun _:Node=>(Sev,BoolP true))).map (·.2)=List.replicate L.length (BoolP true):=by rw [List.map_map];exact replicate_of L _
  refine ev_pipe (Lo:=[(ArrOf (List.replicate L.length (BoolP true)),[BoolP true])]) h3.ab.hp ?_ ?_
  ·show Ev p _ w3 _ d _ (y3,none) [ArrOf (List.replicate L.length (BoolP true))]
   rw [← e2]
   refine ev_map (n:=9) h3.ab.hC h3.ab.hp (hF.past h3.hv h3.kv) hm hd0 hd1 (by rw [e1];exact hP3.more (fun _ h=>.inr h) hC3) (fun z hz=>?_) (by rw [List.length_map];omega) (fun z hz w' t G hs hl hP C' hCC hC'=>?_)
   ·obtain ⟨n,_,rfl⟩:=List.mem_map.1 hz
    exact noPath_sev
   ·obtain ⟨n,hn,rfl⟩:=List.mem_map.1 hz
    have ht2:t.2=none:=hP.here.1
    obtain ⟨t1,t2⟩:=t
    simp only at ht2
    subst ht2
    have hp':∀ k,p k→C' k:=fun k hk=>hCC k (.inl (h3.ab.hp k hk))
    exact ev_oper (Lo:=[(Sev,BoolP true)]) (Q:=Sev) plainly_eq hp' (ev_ident hC' hP (fun k hk=>hCC k (.inr hk))) (ev_collect hp' (ev_num hC' hp') (by simp)) (fun y hy=>by
     rw [List.mem_singleton] at hy
     subst hy
     exact oper_same hS (fun w' t s G G' hs hl hP hQ=>sev_same hP hQ))
  ·intro y hy w4 t4 G4 hs4 hl4 hP4
   rw [List.mem_singleton] at hy
   subst hy
   have ht4:t4.2=none:=hP4.here.1
   obtain ⟨y4,q4⟩:=t4
   simp only at ht4
   subst ht4
   have hGl4:=hP4.1
   have hC4:∀ k,(((C1 k∨G2 k)∨G3 k)∨G4 k)→k < w4.heap.size:=by
    rintro k (h | h)
    ·exact Nat.lt_of_lt_of_le (hC3 k h) hl4
    ·exact hGl4 k h
   have h4:=h3.move hs4 hl4 (C':=fun k=>((C1 k∨G2 k)∨G3 k)∨G4 k) (fun _ h=>.inl h) hC4
   exact ev_tail (n:=9) hS hT h4.ab.hC h4.ab.hp (fun C' w' hCC hs' hl'=>(h4.none (by kernel_rfl) (by kernel_rfl)).move hs' hCC) (hP4.more (fun _ h=>.inr h) hC4) (by omega) (by omega)
theorem ev_W3 (hS:ComparesStr) (hT:SortsTrue) {p C V:Nat→Prop}{w:World}{kn:Option Addr}{d:Int}{x:IV}{L:List Node} (h:About p C V w kn x L) (hd0:0 < d) (hd1:d≤1000):Ev p C w kn d tW3 (x,none) [BoolP true]:=by
  have hlen:=h.inp.len
  have hpos:=h.inp.pos
  refine ev_bind (Lo:=[(Just (x,none),[BoolP true])]) h.hp (ev_ident h.hC (just_holds _ _) (fun _ h=>h.elim)) ?_
  intro y hy w1 t G nv hs hl hJ hk
  rw [List.mem_singleton] at hy
  subst hy
  have ht:t=(x,none):=hJ.here
  subst ht
  have hCl:=h.hC
  have hGl:=hJ.1
  have hnl:=hk.lt
  have hC1:∀ k,(C k∨G k∨k=nv)→k < w1.heap.size:=by grind
  have h1:AboutV p (fun k=>C k∨G k∨k=nv) V w1 kn x L nv:=⟨h.move hs hl (fun _ h=>.inl h) hC1,.inr (.inr rfl),hk⟩
  clear hGl hnl
  generalize (fun k=>C k∨G k∨k=nv)=C1 at h1 hC1
  refine ev_pipe (Lo:=[(ArrOf (L.map fun n=>PathA n.2.reverse),[BoolP true])]) h1.ab.hp (ev_collect h1.ab.hp (ev_path h1.ab.hC h1.ab.hp (h1.none (by kernel_rfl) (by kernel_rfl)) h1.ab.inp h1.ab.hVC) (by rw [List.length_map];omega)) ?_
  intro y hy w2 t G2 hs2 hl2 hP2
  rw [List.mem_singleton] at hy
  subst hy
  have ht2:t.2=none:=hP2.here.1
  obtain ⟨t1,t2⟩:=t
  simp only at ht2
  subst ht2
  have hGl2:=hP2.1
  have hC1c:=h1.ab.hC
  have hC2:∀ k,(C1 k∨G2 k)→k < w2.heap.size:=by grind
  have h2:=h1.move hs2 hl2 (C':=fun k=>C1 k∨G2 k) (fun _ h=>.inl h) hC2
  refine ev_pipe (Lo:=[(ArrOf (L.map fun _=>BoolP true),[BoolP true])]) h2.ab.hp (ev_each_path h2 hd0 hd1 (hP2.more (fun _ h=>.inr h) hC2) ?_) ?_
  · intro n hn w3 t3 C3 hP3 h3
    refine ev_named_path h3 hP3 (fun w4 C4 np h4 hnp hkp hP4=>?_)
    have hfn:∀ {name:ByteArray}{na:Int},noneOf sOthers name=true→(sMap.toList == name.toList)=false→FindIs C4 w4 2 name na 10 (some ⟨np,0,none⟩) none:=fun a b=>(h4.none a b).past hnp hkp
    refine ev_oper (Lo:=[(EqvP x,BoolP true)]) (Q:=Just (x,none)) plainly_eq h4.ab.hp ?_ ?_ ?_
    · exact ev_setpath (Lo:=[(PathA n.2.reverse,EqvP x)]) h4.ab.hp (hfn (by kernel_rfl) (by kernel_rfl)) (ev_p h4 hnp hkp hP4) (ev_getpath (Lo:=[(PathA n.2.reverse,Just (n.1,none))]) h4.ab.hp (hfn (by kernel_rfl) (by kernel_rfl)) (ev_p h4 hnp hkp hP4) (fun y hy=>by
          rw [List.mem_singleton] at hy
          subst hy
          exact along_node hS h4.ab.inp h4.ab.hVC hn)) (fun y hy=>by
        rw [List.mem_singleton] at hy
        subst hy
        exact set_same hS h4.ab.inp h4.ab.hVC hn)
    · exact ev_var h4.ab.hC h4.ab.hp (FindIs.next (FindIs.here h4.hv h4.kv) hnp hkp (by kernel_rfl)) h4.hv h4.kv (just_holds _ _) (fun _ h=>h.elim)
    · intro y hy
      rw [List.mem_singleton] at hy
      subst hy
      refine oper_same hS (fun w' t s G G' hs hl hP hQ=>?_)
      have hs':s=(x,none):=hQ.here
      subst hs'
      obtain ⟨_,d,m,g1,g2⟩:=hP.here
      exact ⟨d,m,g1,by omega⟩
  · intro y hy w4 t4 G4 hs4 hl4 hP4
    rw [List.mem_singleton] at hy
    subst hy
    have ht4:t4.2=none:=hP4.here.1
    obtain ⟨y4,q4⟩:=t4
    simp only at ht4
    subst ht4
    have hGl4:=hP4.1
    have hC4:∀ k,((C1 k∨G2 k)∨G4 k)→k < w4.heap.size:=by
      rintro k (h | h)
      · exact Nat.lt_of_lt_of_le (hC2 k h) hl4
      · exact hGl4 k h
    have h4:=h2.move hs4 hl4 (C':=fun k=>(C1 k∨G2 k)∨G4 k) (fun _ h=>.inl h) hC4
    have hP4':HoldsP (ArrOf (List.replicate L.length (BoolP true))) G4 w4 (y4,none):=replicate_of L (BoolP true) ▸ hP4
    exact ev_tail (n:=9) hS hT h4.ab.hC h4.ab.hp (fun C' w' hCC hs' hl'=>(h4.none (by kernel_rfl) (by kernel_rfl)).move hs' hCC) (hP4'.more (fun _ h=>.inr h) hC4) (by omega) (by omega)
end Go.Proofs.Tryz
