import Derived.Test.YtbhajhlhgbnhbaaGreatDoorFz6
import Derived.Test.YtbhajhlhgbnhbaaGreatDoorOp1
import Derived.Lib.OthersKept
import Derived.WalkSmall
set_option linter.all false
namespace Go.Proofs.Tryz
set_option maxHeartbeats 16000000
open Go.RowKit
set_option maxRecDepth 10000
theorem own_base {w:World}{N M e s n:Nat}{v:Value}{xs:List Value} (h:w.ownsRow N e s v n xs) (hm:M≤N):w.ownsRow M e s v n xs:=by
 obtain ⟨hl,h | ⟨g',c',cur,rfl,a,b,c⟩⟩:=h
 ·exact ⟨hl,.inl h⟩
 ·exact ⟨hl,.inr ⟨g',c',cur,rfl,Nat.le_trans hm a,b,c⟩⟩
def rnV (c:Bys):Value:=.iface 98 (.int .i64 (runeOf c))
theorem explode_ok {w:World}{s:ByteArray}{cl:List Bys} (hs:s.data.toList=cl.flatten) (hc:∀ c∈cl,Chunk c) (hn:s.size≤100000000) :
  Calls Tryz.prog 219 #[.string s] w fun e w'=>Below w.heap.size w w'∧∃ v,e = .returned v∧w'.ownsRow w.heap.size 32 1 v cl.length (cl.map rnV):=by
 obtain ⟨i0,hi0,hz0,hz1,hz2⟩:=info_parts (show (Tryz.prog.info? 32).map (fun i=>(i.zero,i.size,i.bytes))=some (some .nilIface,1,16) by kernel_rfl)
 have HS:Hid (s.data.toList=cl.flatten):=hs
 have HC:Aside (∀ c∈cl,Chunk c):=hc
 have hcl:cl.length≤s.size:=by
  have:=chunks_le cl hc
  rw [← hs] at this
  exact this
 clear hs hc
 go_enter Tryz.func219,Tryz.ntmps219
 go_wp2_with fail
 go_loopg [3] cl.length (fun k v wr=>∃ (pre post:List Bys),post.length=k∧Aside (pre ++ post=cl∧wr.ownsRow (w.heap.size+1) 32 1 v pre.length (pre.map rnV)∧wr.heap[w.heap.size]? = some (.stringIter s pre.flatten.length)∧Below w.heap.size w wr))
 case atStart=>exact ⟨[],cl,rfl,rfl,World.ownsRow_nil _ _ _ _,heap_new w _,below_alloc w _⟩
 case round =>
  obtain ⟨pre,post,hk,HR⟩:=hrel
  obtain ⟨hpp,ow,hit,hb⟩:=HR.out
  cases post with
  | nil =>
   have hz:¬ pre.flatten.length < s.size:=by
    rw [List.append_nil] at hpp
    have:s.size=s.data.toList.length:=rfl
    rw [this,HS.out,hpp]
    omega
   have hnx:=fun ty=>Lib.run_next_end_at (P:=Tryz.prog) wr w.heap.size s _ ty hit hz
   go_wp2_with fail
   go_ret
   rw [List.append_nil] at hpp
   subst hpp
   exact ⟨hb,u3,rfl,own_base ow (by omega)⟩
  | cons c post =>
   have hch:Chunk c:=HC.out c (by rw [← hpp];simp)
   have hli:Lies s pre.flatten.length c:=⟨post.flatten,by rw [HS.out,← hpp];simp⟩
   have hde:=chunk_decode hch hli
   have hrv:=chunk_valid hch
   have hlt:pre.flatten.length < s.size:=by
    have h1:=hli.le (by obtain ⟨b,tl,rfl,_⟩:=hch;simp)
    have h2:1≤c.length:=by obtain ⟨b,tl,rfl,_⟩:=hch;simp
    omega
   have hnx:=fun ty=>Lib.run_next_any_at (P:=Tryz.prog) wr w.heap.size s _ ty hit hlt
   rw [hde] at hnx
   simp only at hnx
   have hpl:pre.length+1≤cl.length:=by rw [← hpp];simp
   obtain ⟨W1,hW1⟩:∃ W1,W1=wr.iterAt w.heap.size s (pre.flatten.length+c.length):=⟨_,rfl⟩
   rw [← hW1] at hnx
   have it1:W1.heap[w.heap.size]? = some (.stringIter s (pre.flatten.length+c.length)):=hW1 ▸ Lib.iterAt_heap wr _ s _ _ hit
   have ow1:W1.ownsRow (w.heap.size+1) 32 1 u3 pre.length (pre.map rnV):=hW1 ▸ ownsRow_iterAt ow (by omega) s _
   have hb1:Below w.heap.size w W1:=hW1 ▸ Lib.below_iterAt hb (Nat.le_refl _) s _
   have hws:w.heap.size+1≤W1.heap.size:=by have:=(Array.getElem?_eq_some_iff.1 it1).1;omega
   have HIT:Aside (W1.heap[w.heap.size]? = some (.stringIter s (pre.flatten.length+c.length))):=it1
   have HX:Hid (pre ++ c :: post=cl):=hpp
   obtain ⟨n,hnr⟩:∃ n:Int,n=(runeOf c:Int):=⟨_,rfl⟩
   have HN:Hid (n=(runeOf c:Int)):=hnr
   have n0:0≤n:=by omega
   have n1:n≤1114111:=by omega
   rw [← hnr] at hnx
   clear it1 hW1 hit ow hb hde hli hch hrv hlt hpp hnr
   go_wp2_with (refine wpList_append_lies _ (by rfl) _ _ _ (by rfl) (w.heap.size+1) 32 i0 _ 1 16 Tryz.underlying86 hi0 hz0 hz1 hz2 rfl (by omega) u3 pre.length (pre.map rnV) (by rfl) (ow1.alloc _) ⟨W1.heap.size,0,none⟩ 1 1 [.iface 98 (.int .i64 n)] (by rfl) (by rfl) (World.news_of_block (cs:=#[.iface 98 (.int .i64 n)]) (t:=32) (fr:=(0,0)) (heap_alloc_new W1 _)) (by simp [Value.oneCell']) (by omega) (by unfold maxLen;omega) (by omega) (by simp;omega) (W1.heap.size+1) (by simp) ?_;intro g cap w6 ow6 hgrow hat hlt6)
   go_roundg post.length
   case measure=>simp at hk;omega
   case rel =>
    refine ⟨pre ++ [c],post,rfl,by rw [← HX.out];simp,?_,?_,?_⟩
    ·rw [List.map_append,List.length_append,List.length_singleton]
     simp only [List.map_cons,List.map_nil,rnV]
     rw [← HN.out]
     exact ow6
    ·have e:(pre ++ [c]).flatten.length=pre.flatten.length+c.length:=by simp
     rw [e,← HIT.out]
     refine (hgrow.block _ (by simp;omega) ?_).trans ((below_alloc W1 _).block _ (by omega))
     intro e
     have:=(ow1.lt _ e.symm).1
     omega
    ·exact (hb1.alloc hb1.size _).grown hgrow (by have:=hb1.size;simp;omega) (fun q hq=>by have:=(ow1.lt q hq).1;omega)
theorem validRune_ok (n:Int) (h0:0≤n) (h:n < 55296∨(57344≤n∧n≤1114111)) (w:World):Calls Tryz.prog 262 #[.int .i32 n] w fun e w'=>e = .returned (.bool true)∧w'=w:=by
 rcases h with h | ⟨h1,h2⟩
 ·go_enter Tryz.func262,Tryz.ntmps262
  go_wp2
  go_ret
  exact ⟨rfl,rfl⟩
 ·have h3:¬ n < 55296:=by omega
  have h4:(57343:Int) < n:=by omega
  go_enter Tryz.func262,Tryz.ntmps262
  go_wp2
  go_ret
  exact ⟨rfl,rfl⟩
theorem implode_none (p:Option Addr) (c:Nat) (w:World):Calls Tryz.prog 220 #[.slice p 0 c] w fun e w'=>e = .returned (.string ⟨#[]⟩)∧w'=w:=by
 have hcv:∀ w,Sem.run Tryz.prog (Go.convert 50 100 (.slice none 0 0)) w = .ok (.string ⟨#[]⟩) w:=fun w=>by kernel_rfl
 go_enter Tryz.func220,Tryz.ntmps220
 go_wp2_with fail
 refine wp_loop_rounds 1 ?_
 rw [rounds_succ]
 go_wp2_with fail
 go_ret
 exact ⟨rfl,rfl⟩
theorem implode_row (hA:AppendsRune) {w:World}{a c:Nat}{cl:List Bys} (hr:w.ownsRow 0 32 1 (.slice (some ⟨a,0,none⟩) cl.length c) cl.length (cl.map rnV)) (hc:∀ c∈cl,Chunk c) (hn:cl.length≤100000000) (h0:cl≠[]) :
  Calls Tryz.prog 220 #[.slice (some ⟨a,0,none⟩) cl.length c] w fun e w'=>e = .returned (.string ⟨cl.flatten.toArray⟩)∧Below w.heap.size w w':=by
 have HROW:Aside (w.ownsRow 0 32 1 (.slice (some ⟨a,0,none⟩) cl.length c) cl.length (cl.map rnV)):=hr
 have HC:Aside (∀ c∈cl,Chunk c):=hc
 have hal:=(hr.lt a rfl).2
 have len4:∀ l:List Bys,(∀ c∈l,Chunk c)→l.flatten.length≤4 * l.length:=fun l=>by
  induction l with
  | nil=>intro _;simp
  | cons x l ih =>
   intro h
   have h1:=ih (fun c hc=>h c (by simp [hc]))
   have h2:x.length≤4:=by rw [← chunk_encode (h x (by simp))];exact rune_four _
   simp only [List.flatten_cons,List.length_append,List.length_cons]
   omega
 obtain ⟨N,hN⟩:∃ N,N=cl.length:=⟨_,rfl⟩
 have HN:Hid (N=cl.length):=hN
 have hn':N≤100000000:=by omega
 rw [← hN]
 clear hr hc hN
 go_enter Tryz.func220,Tryz.ntmps220
 go_wp2_with fail
 go_loopg [3,9] N (fun k v3 v9 wr=>∃ (i:Nat),i+k=N∧v9 = .int .i64 i∧wr.ownsRow w.heap.size 5 1 v3 (cl.take i).flatten.length (Lib.byteCells (cl.take i).flatten)∧Below w.heap.size w wr)
 case atStart=>exact ⟨0,by omega,rfl,by simpa [Lib.byteCells] using World.ownsRow_nil w w.heap.size 5 1,Below.refl _ _⟩
 case round =>
  obtain ⟨i,hik,rfl,ow,hb⟩:=hrel
  match gk,hik with
  | 0,hik =>
   have hz:¬ (i:Int) < (N:Int):=by omega
   have htk:(cl.take i).flatten=cl.flatten:=by rw [List.take_of_length_le (by have:=HN.out;omega)]
   rw [htk] at ow
   have hfl:0 < cl.flatten.length:=by
    have:=chunks_le cl HC.out
    have h1:0 < cl.length:=List.length_pos_iff.2 h0
    omega
   have hne:cl.flatten≠[]:=by intro e;rw [e] at hfl;simp at hfl
   obtain ⟨FL,hFL⟩:∃ FL,cl.flatten=FL:=⟨_,rfl⟩
   rw [hFL] at ow hne
   have HFL:Hid (cl.flatten=FL):=hFL
   clear htk hfl
   obtain ⟨g,cap,rfl,hcb⟩:=owns_bytes ow hne
   have hcv:=run_convert_bytes_back (P:=Tryz.prog) wr 50 100 5 ⟨g,0,none⟩ cap FL Tryz.underlying50 Tryz.underlying5 Tryz.underlying100 hcb
   clear ow hFL
   go_wp2_with fail
   go_ret
   rw [HFL.out]
   exact ⟨rfl,hb⟩
  | k+1,hik =>
   have hz:(i:Int) < (N:Int):=by omega
   obtain ⟨ch,hch⟩:∃ ch,cl[i]? = some ch:=⟨_,List.getElem?_eq_getElem (by have:=HN.out;omega)⟩
   have hck:Chunk ch:=HC.out ch (List.mem_of_getElem? hch)
   have hrv:=chunk_valid hck
   have c0:wr.cell? ⟨a,i,none⟩=some (.iface 98 (.int .i64 (runeOf ch))):=by
    refine (hb.cell (p:=⟨a,i,none⟩) hal).trans ?_
    rw [HROW.out.cellAt i (by have:=HN.out;omega),List.getElem?_map,hch]
    rfl
   obtain ⟨n,hnr⟩:∃ n:Int,n=(runeOf ch:Int):=⟨_,rfl⟩
   have HNR:Hid (n=(runeOf ch:Int)):=hnr
   rw [← hnr] at c0
   have n0:0≤n:=by omega
   have n1:n < 55296∨(57344≤n∧n≤1114111):=by omega
   have n2:¬ n < 0:=by omega
   have n3:¬ 1114111 < n:=by omega
   have n4:n≤1114111:=by omega
   have hlen:(cl.take i).flatten.length+4≤140737488355328:=by
    have h1:=len4 (cl.take i) (fun c hc=>HC.out c (List.mem_of_mem_take hc))
    have h2:(cl.take i).length≤i:=by rw [List.length_take];omega
    omega
   have HCH:Hid (cl[i]? = some ch):=hch
   have HCK:Aside (Chunk ch):=hck
   have hwl:=hb.size
   have hal2:a < wr.heap.size:=by omega
   obtain ⟨ra,rl,rc,rfl⟩:=owns_shape ow
   have HV:=fun w=>validRune_ok n n0 n1 w
   clear hch hck hrv hnr n1
   go_wp2_with (first
    | (go_at_call 114;refine (must_num _ _).mono ?_;rintro e w1 ⟨rfl,hw1⟩;subst hw1)
    | (go_at_call 262;refine (HV _).mono ?_;rintro e w1 ⟨rfl,hw1⟩;subst hw1)
    | (go_at_call 135;refine (hA w.heap.size _ n _ _ _ (by omega) (by omega) (by exact ow) (by omega) hlen).mono ?_;rintro e w2 ⟨v2,rfl,ow2,hb2⟩))
   go_roundg k
   case measure=>omega
   case rel =>
    refine ⟨i+1,by omega,by go_num,?_,hb.trans hb2⟩
    have e1:(cl.take (i+1)).flatten=(cl.take i).flatten ++ ch:=by
     rw [List.take_add_one,HCH.out]
     simp
    have e2:Lib.encodeRune n=ch:=by rw [HNR.out];exact chunk_encode HCK.out
    rw [e1,List.length_append,← e2,← Lib.runeCells_length,show Lib.byteCells ((cl.take i).flatten ++ Lib.encodeRune n)=Lib.byteCells (cl.take i).flatten ++ Lib.runeCells n by rw [← Lib.byteCells_encodeRune];simp [Lib.byteCells]]
    exact ow2
theorem implode_ok (hA:AppendsRune) {w:World}{r:Value}{cl:List Bys} (hr:w.ownsRow 0 32 1 r cl.length (cl.map rnV)) (hc:∀ c∈cl,Chunk c) (hn:cl.length≤100000000) :
  Calls Tryz.prog 220 #[r] w fun e w'=>e = .returned (.string ⟨cl.flatten.toArray⟩)∧Below w.heap.size w w':=by
 by_cases h0:cl=[]
 ·subst h0
  obtain ⟨p,l,c,rfl⟩:=owns_shape hr
  have e:l=0:=by
   rcases hr.2 with ⟨e,_⟩ | ⟨_,_,_,e,_⟩ <;> cases e <;> rfl
  subst e
  exact (implode_none p c w).mono fun e w' ⟨h1,h2⟩=>⟨h1,h2 ▸ Below.refl _ _⟩
 ·rcases hr.2 with ⟨_,e⟩ | ⟨a,c,_,rfl,_⟩
  ·exact absurd (List.eq_nil_of_length_eq_zero e) h0
  ·exact implode_row hA hr hc hn h0
theorem escs_ge (l:Bys):l.length≤(l.flatMap escB).length:=by
 induction l with
 | nil=>simp
 | cons c l ih =>
  have:=esc_len c
  rw [List.flatMap_cons,List.length_append,List.length_cons]
  omega
theorem step_obj0 (hA:AppendsIntK) {w:World}{B W:Nat}{out:Bys}{lo:List Fm}{f:Fm} (h:WS w B W out (lo ++ [f])) (hn:f.next < f.texts.length) (hn0:f.next=0) (hob:f.obj=true) (ho:out.length≤8000000000) (hlo:lo.length≤1000000000) (hcnt:f.texts.length≤9223372036854775807) (hT:f.rest.length≤1000000000) (ht:Lib.TabBelow Tryz.prog W w "internal/strconv.uint64pow10" .u64 Lib.pow10Tab) :
  Calls Tryz.prog 14 #[.pointer (some ⟨W,0,none⟩)] w fun e w'=>e = .returned (.tuple #[])∧StepW B W out (lo ++ [f]) w w':=by
 obtain ⟨i0,hi0,hz0,hz1,hz2⟩:=info_parts (show (Tryz.prog.info? 5).map (fun i=>(i.zero,i.size,i.bytes))=some (some (.int .u8 0),1,1) by kernel_rfl)
 obtain ⟨hlt,hle,⟨ov,pv,hb,hown,hpv⟩,hfs⟩:=h
 obtain ⟨oa,ol,oc,rfl⟩:=owns_shape hown
 obtain ⟨c0,c1,c2,c3,c4⟩:=two_c0 hb
 obtain ⟨g,cap,rfl,hgB,hcap,hcm,hcell,hfz,hgl⟩:=topF hpv
 have e0:=hcell 0 _ rfl
 have e1:=hcell 1 _ rfl
 have e2:=hcell 2 _ rfl
 have e3:=hcell 3 _ rfl
 simp only [hob,if_true,Nat.add_zero] at e0 e1 e2
 have hl:=texts_len_obj hob
 have hfo:=hfs f (by simp)
 have hfo':=hfo.1
 rw [if_pos (by simp [hob])] at hfo'
 obtain ⟨⟨kx,⟨T,u⟩,t⟩,hx⟩:∃ x,f.ms[f.next]? = some x:=⟨_,List.getElem?_eq_getElem (by omega)⟩
 have htx:f.texts[f.next]? = some (memT (kx.data.toList,t)):=by unfold Fm.texts;rw [hob];simp [hx,elP,elKey]
 obtain ⟨a,ca,hrow⟩:∃ a ca,f.row = .slice (some ⟨a,0,none⟩) f.ms.length ca:=by
  rcases hfo'.1.2 with ⟨_,h0⟩ | ⟨a,ca,cur,e,_⟩
  ·omega
  ·exact ⟨a,ca,e⟩
 have hrow':=hfo'.1
 rw [hrow] at hrow' e2
 obtain ⟨_,hM,_,_,_⟩:=owns_mem hrow'
 obtain ⟨hk0,hk1⟩:=hM.at hx
 simp only [iv] at hk0 hk1
 have haW:a < W:=hfo.2.1 a (by rw [hrow];rfl)
 have hvl:=hfo'.2 _ (List.mem_of_getElem? hx)
 have hup:=fun m=>WS.up (w:=w.drewN m) (out:=out) (f:=f) hlt hle hb hown hpv (fun x hx=>(hfs x hx).keep (fun _ _=>rfl)) hn
 obtain ⟨L,hL⟩:∃ L,f.ms.length=L:=⟨_,rfl⟩
 rw [hL] at e2 hl
 have nag:¬ a=g:=by omega
 have nga:¬ g=a:=by omega
 have ngW:¬ g=W:=by omega
 have nWg:¬ W=g:=by omega
 have naW:¬ a=W:=by omega
 have nWa:¬ W=a:=by omega
 have z0:¬ (0:Int)=(L:Int):=by omega
 have z1:(0:Int) < (L:Int):=by omega
 have z2:L≤9223372036854775807:=by omega
 rw [hn0] at e3 hk0 hk1
 have hks:kx.size≤1000000000:=by
  have h1:=hT
  rw [rest_step htx] at h1
  simp only [memT,quoteL,List.length_append,List.length_cons] at h1
  have h2:=escs_ge kx.data.toList
  have h3:kx.data.toList.length=kx.size:=size_list kx
  omega
 obtain ⟨cg,fzg,hcg⟩:∃ c fz,w.heap[g]? = some (.cells c 104 fz):=own_kind hpv g rfl
 obtain ⟨cm,fzm,hcm2⟩:∃ c fz,w.heap[a]? = some (.cells c 107 fz):=own_kind hrow' a rfl
 have hXg:∀ m,((w.drewN m).setCell ⟨g,lo.length * 4+3,none⟩ (.int .i64 1)).cell? ⟨g,lo.length * 4+2,none⟩=some (.slice (some ⟨a,0,none⟩) L ca):=fun m=>(World.cell?_setCell_other _ _ _ _ (by simp)).trans e2
 have hXk:∀ m w1,Lib.OthersKept 5 none ((w.drewN m).setCell ⟨g,lo.length * 4+3,none⟩ (.int .i64 1)) w1→w1.heap[W]? = some (.cells #[.slice oa ol oc,.slice (some ⟨g,0,none⟩) (lo.length+1) cap] 53 (0,0))∧w1.cell? ⟨g,lo.length * 4+2,none⟩=some (.slice (some ⟨a,0,none⟩) L ca)∧w1.cell? ⟨a,0 * 2,none⟩=some (.string kx)∧w1.cell? ⟨a,0 * 2+1,none⟩=some (.iface T u):=fun m w1 hok=>by
  have hW:((w.drewN m).setCell ⟨g,lo.length * 4+3,none⟩ (.int .i64 1)).heap[W]? = w.heap[W]?:=Below.heap_setCell _ _ _ _ (by simpa using nWg)
  have ha:((w.drewN m).setCell ⟨g,lo.length * 4+3,none⟩ (.int .i64 1)).heap[a]? = w.heap[a]?:=Below.heap_setCell _ _ _ _ (by simpa using nag)
  obtain ⟨c',hg'⟩:∃ c',((w.drewN m).setCell ⟨g,lo.length * 4+3,none⟩ (.int .i64 1)).heap[g]? = some (.cells c' 104 (0,0)):=by
   have:=(hup m).2.2.1
   rw [hn0,List.length_append,List.length_singleton] at this
   rcases this.2 with ⟨e,_⟩ | ⟨_,_,cur,e,_,hb',_⟩
   ·cases e
   ·cases e;exact ⟨cur,hb'⟩
  have kW:=hok W _ (hW.trans hb) (by simp) (fun _ _ e=>by cases e)
  have ka:=hok a _ (ha.trans hcm2) (by simp) (fun _ _ e=>by cases e)
  have kg:=hok g _ hg' (by simp) (fun _ _ e=>by cases e)
  refine ⟨kW,?_,?_,?_⟩
  ·exact (World.cell?_of_block (w:=(w.drewN m).setCell ⟨g,lo.length * 4+3,none⟩ (.int .i64 1)) (kg.trans hg'.symm)).trans (hXg m)
  ·exact (World.cell?_of_block (w:=w) (ka.trans hcm2.symm)).trans hk0
  ·exact (World.cell?_of_block (w:=w) (ka.trans hcm2.symm)).trans hk1
 have hfin:∀ m w1 v',Below B ((w.drewN m).setCell ⟨g,lo.length * 4+3,none⟩ (.int .i64 1)) w1→Lib.OthersKept 5 none ((w.drewN m).setCell ⟨g,lo.length * 4+3,none⟩ (.int .i64 1)) w1→w1.ownsRow B 5 1 v' (out.length+(quoteL kx.data.toList).length) (Lib.byteCells out ++ Lib.byteCells (quoteL kx.data.toList))→∀ w2 g2 cap2,((w1.setCell ⟨W,0,none⟩ v').alloc (.cells #[.int .u8 58] 5)).grownBy w2 v'.ownBlock→w2.ownsRow B 5 1 (.slice (some ⟨g2,0,none⟩) (out.length+(quoteL kx.data.toList).length+1) cap2) (out.length+(quoteL kx.data.toList).length+1) (Lib.byteCells out ++ Lib.byteCells (quoteL kx.data.toList) ++ [.int .u8 58])→
   (w2.heap[W]? = some (.cells #[v',.slice (some ⟨g,0,none⟩) (lo.length+1) cap] 53 (0,0))∧w2.cell? ⟨g,lo.length * 4+2,none⟩=some (.slice (some ⟨a,0,none⟩) L ca)∧w2.cell? ⟨a,0 * 2+1,none⟩=some (.iface T u))∧Calls Tryz.prog 13 #[.pointer (some ⟨W,0,none⟩),.iface T u] (w2.setCell ⟨W,0,none⟩ (.slice (some ⟨g2,0,none⟩) (out.length+(quoteL kx.data.toList).length+1) cap2)) fun e w'=>e = .returned (.tuple #[])∧StepW B W out (lo ++ [f]) w w':=fun m w1 v' k1 hok1 hown1 w2 g2 cap2 hgr hown2=>by
  obtain ⟨u1,u2,u3,u4⟩:=hup m
  rw [hn0] at u1 u2 u3 u4
  obtain ⟨x1,x2,x3,x4⟩:=hXk m w1 hok1
  obtain ⟨hws1,hf1⟩:=WS.wrote (out:=out) (more:=quoteL kx.data.toList) (fs:=lo ++ [f.up]) hlt (by simpa using hle) u1 u3 u4 k1 hok1 hown1
  obtain ⟨_,hle1,⟨ov1,pv1,b1,o1,p1⟩,ok1⟩:=hws1
  have hsz1:=k1.size
  simp at hsz1
  have b1':=two_set0 (u:=v') x1
  rw [b1] at b1'
  cases b1'
  have k2:Below B (w1.setCell ⟨W,0,none⟩ v') w2:=((Below.refl B _).alloc (by simp;omega) _).grown hgr (by simp;omega) (fun q hq=>(o1.lt q hq).1)
  have hok2:Lib.OthersKept 5 none (w1.setCell ⟨W,0,none⟩ v') w2:=((Lib.OthersKept.refl _ _ _).alloc _).grown hgr (own_kind (o1.alloc _))
  obtain ⟨hws2,hf2⟩:=WS.wrote (out:=out ++ quoteL kx.data.toList) (more:=[58]) (fs:=lo ++ [f.up]) hlt hle1 b1 p1 ok1 k2 hok2 (by rw [List.length_append,byteCells_append];simpa [Lib.byteCells] using hown2)
  have hfr:Fr (fun k=>k=W∨B≤k) w ((w.drewN m).setCell ⟨g,lo.length * 4+3,none⟩ (.int .i64 1)):=((Fr.refl _ w).drewN m).setCell _ (.inl (.inr hgB))
  have hk2:∀ b,b < W→(w2.setCell ⟨W,0,none⟩ (.slice (some ⟨g2,0,none⟩) (out.length+(quoteL kx.data.toList).length+1) cap2)).heap[b]? = w.heap[b]?:=fun b hbl=>by
   rw [Below.heap_setCell _ _ _ _ (by simp;omega),k2.block b (by omega),Below.heap_setCell _ _ _ _ (by simp;omega),k1.block b (by omega)]
   exact Below.heap_setCell _ _ _ _ (by simp;omega)
  have hg1:∃ c,(w1.setCell ⟨W,0,none⟩ v').heap[g]? = some (.cells c 104 (0,0)):=by
   have p1':=p1
   rw [List.length_append,List.length_singleton] at p1'
   rcases p1'.2 with ⟨e,_⟩ | ⟨_,_,cur,e,_,hb',_⟩
   ·cases e
   ·cases e;exact ⟨cur,hb'⟩
  obtain ⟨cg1,hg1⟩:=hg1
  refine ⟨⟨(k2.block W hlt).trans b1,?_,?_⟩,?_⟩
  ·have kg:=hok2 g _ hg1 (by simp) (fun _ _ e=>by cases e)
   exact (World.cell?_of_block (w:=w1.setCell ⟨W,0,none⟩ v') (kg.trans hg1.symm)).trans ((World.cell?_of_block (w:=w1) (Below.heap_setCell _ _ _ _ (by simpa using ngW))).trans x2)
  ·exact (World.cell?_of_block (w:=w1) ((k2.block a (by omega)).trans (Below.heap_setCell _ _ _ _ (by simpa using naW)))).trans x4
  ·have hw3:Below W w (w2.setCell ⟨W,0,none⟩ (.slice (some ⟨g2,0,none⟩) (out.length+(quoteL kx.data.toList).length+1) cap2)):=⟨k2.os.trans k1.os,k2.tape.trans k1.tape,k2.output.trans k1.output,by have:=k2.size;simp at this ⊢;omega,fun k hk=>hk2 k hk⟩
   have hql:(quoteL kx.data.toList).length≤1000000000:=by
    have h1:=hT
    rw [rest_step htx] at h1
    simp only [memT,List.length_append,List.length_cons] at h1
    omega
   refine (wbegin_any hA (v:=(T,u)) (c:=t) (out:=(out ++ quoteL kx.data.toList) ++ [58]) (fs:=lo ++ [f.up]) (hvl.mono (fun q hq=>⟨hq,hk2 q hq⟩)) hws2 (by simp;omega) (by simp;omega) (fun w' h'=>ht w' (Below.trans hw3 (h'.mono (Nat.le_of_lt hlt))))).mono ?_
   rintro e w' ⟨rfl,⟨⟨out',new,h1,h2,h3⟩,h4⟩⟩
   refine ⟨rfl,⟨⟨out',_,h1,?_,?_⟩,((hfr.trans hf1 (fun _ _ e=>e)).trans hf2 (fun _ _ e=>e)).trans h4 (fun _ _ e=>e)⟩⟩
   ·rw [h2,restAll_app,restAll_app,rest_step htx]
    simp [hn0,memT]
   ·simp only [List.length_append] at h3
    omega
 have HFIN:Aside _:=hfin
 have HXK:Aside _:=hXk
 have HUP:Aside _:=hup
 have hoX:∀ m,((w.drewN m).setCell ⟨g,lo.length * 4+3,none⟩ (.int .i64 1)).ownsRow B 5 1 (.slice oa ol oc) out.length (Lib.byteCells out):=fun m=>by have:=(hup m).2.1;rw [hn0] at this;exact this
 have HOX:Aside _:=hoX
 have HKS:Aside _:=hks
 have hql:(quoteL kx.data.toList).length≤1000000000:=by
  have h1:=hT
  rw [rest_step htx] at h1
  simp only [memT,List.length_append,List.length_cons] at h1
  omega
 have HQL:Aside _:=hql
 clear hql
 clear hfin hXk hXg hcg hcm2 hoX hks hT hup hcell hfs hfo hfo' hpv hl hn hrow' hvl htx hx hrow hcnt hL ht hn0 hM
 go_enter Tryz.func14,Tryz.ntmps14
 go_wp2_with fail
 go_quiet (fail)
 go_wp2_with fail
 go_quiet (fail)
 go_wp2_with fail
 go_region_with ((go_at_call 33;refine (appendString_any (B:=B) (out:=out) kx (by have:=HKS.out;omega) ?_ ?_ (by omega)).mono ?_;(first | exact HOX.out _ | exact (World.ownsRow.drew (HOX.out _)));(first | (simp;omega) | omega);rintro e w1 ⟨v',rfl,hown1,k1,hok1⟩;obtain ⟨a',l',c',rfl⟩:=owns_shape hown1;obtain ⟨hb1,f0,f1,f2⟩:=HXK.out _ w1 hok1;obtain ⟨d0,d1,d2,d3,d4⟩:=two_c0 hb1))
 all_goals
  go_wp2_with (refine wpList_append_lies _ (by rfl) _ _ _ (by rfl) B 5 i0 _ 1 1 Tryz.underlying50 hi0 hz0 hz1 hz2 rfl (by omega) (.slice a' l' c') (out.length+(quoteL kx.data.toList).length) (Lib.byteCells out ++ Lib.byteCells (quoteL kx.data.toList)) (by rfl) ((owns_off hown1 hlt).alloc _) ⟨w1.heap.size,0,none⟩ 1 1 [.int .u8 58] (by rfl) (by rfl) (World.news_of_block (cs:=#[.int .u8 58]) (t:=5) (fr:=(0,0)) (heap_news _ _ (by simp))) (by simp [Value.oneCell']) (by omega) (by have:=HQL.out;unfold maxLen;omega) (by have:=HQL.out;omega) (by have:=k1.size;simp at this ⊢;omega) (w1.heap.size+1) (by simp) ?_;intro g2 cap2 w2 hown2 hgrow2 hat2 hlt2;obtain ⟨⟨y1,y2,y3⟩,hcb⟩:=HFIN.out _ w1 _ ((belowD _ _ 1).trans k1) hok1 hown1 w2 g2 cap2 hgrow2 hown2;have HCB:Aside _:=hcb;clear hcb;obtain ⟨q0,q1,q2,q3,q4⟩:=two_c0 y1)
  refine Calls.mono HCB.out ?_
  rintro e w3 ⟨rfl,hsw⟩
  go_wp2_with fail
  go_end0
  exact ⟨rfl,hsw⟩
end Go.Proofs.Tryz
