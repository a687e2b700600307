import Derived.Test.YtbhajhlhgbnhbaaGreatDoorFl3
import Derived.Test.YtbhajhlhgbnhbaaGreatDoorOb4
set_option linter.all false
namespace Go.Proofs.Tryz
set_option maxHeartbeats 16000000
open Go.RowKit
set_option maxRecDepth 10000
def lens (ts:List Bys):Nat:=(ts.map (fun t=>t.length+1)).sum
def memLens (ms:List (Bys×Bys)):Nat:=(ms.map (fun m=>(memT m).length+1)).sum
theorem lens_app (a b:List Bys):lens (a ++ b)=lens a+lens b:=by simp [lens]
theorem memLens_app (a b:List (Bys×Bys)):memLens (a ++ b)=memLens a+memLens b:=by simp [memLens]
theorem join_len:∀ (t:Bys) (r:List Bys),(joinT (t :: r)).length+1=lens (t :: r)
 | t,[]=>by simp [joinT,lens]
 | t,u :: r=>by
  have ih:=join_len u r
  simp [joinT,lens] at ih ⊢
  omega
theorem arr_len (ts:List Bys):(arrT ts).length≤lens ts+2∧(ts≠[]→(arrT ts).length≤lens ts+1):=by
 cases ts with
 | nil=>simp [arrT,joinT,lens]
 | cons t r =>
  have:=join_len t r
  simp [arrT]
  omega
theorem memLens_map (ms:List (Bys×Bys)):lens (ms.map memT)=memLens ms:=by simp [lens,memLens,Function.comp_def]
theorem obj_len (ms:List (Bys×Bys)):(objT ms).length≤memLens ms+2∧(ms≠[]→(objT ms).length≤memLens ms+1):=by
 cases ms with
 | nil=>simp [objT,joinT,memLens]
 | cons m r =>
  have:=join_len (memT m) (r.map memT)
  have h2:=memLens_map (m :: r)
  rw [List.map_cons] at h2
  simp only [objT,List.map_cons,List.length_cons,List.length_append,List.length_nil]
  omega
theorem insB_lens (x:Bys×Bys):∀ l:List (Bys×Bys),memLens (insB (·.1) x l)=memLens (x :: l)
 | []=>rfl
 | y :: l=>by
  rw [insB]
  split
  ·have:=insB_lens x l
   simp [memLens] at this ⊢
   omega
  ·rfl
theorem sortB_lens:∀ l:List (Bys×Bys),memLens (sortB (·.1) l)=memLens l
 | []=>rfl
 | x :: l=>by
  have:=sortB_lens l
  rw [sortB,insB_lens]
  simp [memLens] at this ⊢
  omega
theorem ddp_lens:∀ l:List (Bys×Bys),memLens (ddp (·.1) l)≤memLens l
 | []=>Nat.le_refl _
 | [_]=>Nat.le_refl _
 | x :: y :: l=>by
  have:=ddp_lens (y :: l)
  rw [ddp]
  split
  ·simp [memLens] at this ⊢
   omega
  ·simp [memLens] at this ⊢
   omega
theorem ddp_sub:∀ (l:List (Bys×Bys)) (z:Bys×Bys),z∈ddp (·.1) l→z∈l
 | [],_,h=>h
 | [_],_,h=>h
 | x :: y :: l,z,h=>by
  rw [ddp] at h
  split at h
  ·exact List.mem_cons_of_mem _ (ddp_sub (y :: l) z h)
  ·rcases List.mem_cons.1 h with rfl | h
   ·simp
   ·exact List.mem_cons_of_mem _ (ddp_sub (y :: l) z h)
theorem ddp_rise:∀ (l:List (Bys×Bys)),Srt (·.1) l→Rise (ddp (·.1) l)
 | [],_=>List.Pairwise.nil
 | [x],_=>by simp [ddp,Rise]
 | x :: y :: l,h=>by
  have h1:=List.pairwise_cons.1 h
  rw [ddp]
  split
  ·exact ddp_rise (y :: l) h1.2
  ·rename_i hne
   refine List.pairwise_cons.2 ⟨fun z hz=>?_,ddp_rise (y :: l) h1.2⟩
   have hxy:klt x.1 y.1:=(kle_cases (h1.1 y (by simp))).resolve_right (fun e=>hne e.symm)
   rcases List.mem_cons.1 (ddp_sub _ _ hz) with rfl | hz
   ·exact hxy
   ·exact klt_kle_trans hxy ((List.pairwise_cons.1 h1.2).1 z hz)
structure HCn (d:Nat) (l:HL):Prop where
 its:∀ t∈l.its,Cn d t
 ms:∀ m∈l.ms,UStr m.1∧Cn d m.2
 key:l.obj=true→UStr l.key
def wt (l:HL):Nat:=lens l.its+memLens l.ms+(if l.obj then (quoteL l.key).length+1 else 0)+1
theorem HCn.add {d:Nat}{l:HL}{t:Bys} (h:HCn d l) (ht:Cn d t):HCn d (l.add t):=by
 unfold HL.add
 split
 ·rename_i ho
  refine ⟨h.its,fun m hm=>?_,h.key⟩
  rcases List.mem_append.1 hm with hm | hm
  ·exact h.ms m hm
  ·rw [List.mem_singleton.1 hm];exact ⟨h.key ho,ht⟩
 ·rename_i ho
  refine ⟨fun u hu=>?_,h.ms,fun e=>absurd e ho⟩
  rcases List.mem_append.1 hu with hu | hu
  ·exact h.its u hu
  ·rw [List.mem_singleton.1 hu];exact ht
theorem HCn.text {d:Nat}{l:HL} (h:HCn d l):Cn (d+1) l.text:=by
 unfold HL.text
 split
 ·refine .inr (.inr ⟨_,rfl,ddp_rise _ (sortB_sts l.ms).srt,fun m hm=>h.ms m ?_⟩)
  exact ((sortB_sts (key:=fun x:Bys×Bys=>x.1) l.ms).mem m).1 (ddp_sub _ _ hm)
 ·exact .inr (.inl ⟨_,rfl,h.its⟩)
theorem sortB_nil {l:List (Bys×Bys)} (h:sortB (·.1) l=[]):l=[]:=by
 have:=(sortB_sts (key:=fun x:Bys×Bys=>x.1) l).len
 rw [h] at this
 exact List.eq_nil_of_length_eq_zero this.symm
theorem ddp_nil:∀ {l:List (Bys×Bys)},ddp (·.1) l=[]→l=[]
 | [],_=>rfl
 | [_],h=>by cases h
 | x :: y :: l,h=>by
  rw [ddp] at h
  split at h
  ·have:=ddp_nil h;cases this
  ·cases h
theorem add_wt {l:HL}{t:Bys}:(l.add t).text.length≤wt l+t.length+1:=by
 unfold HL.add
 split
 ·rename_i ho
  unfold HL.text
  rw [if_pos (show ({ l with ms:=l.ms ++ [(l.key,t)] }:HL).obj=true from ho)]
  simp only
  have h1:=(obj_len (ddp (·.1) (sortB (·.1) (l.ms ++ [(l.key,t)])))).2 (fun e=>by have:=sortB_nil (ddp_nil e);simp at this)
  have h2:=ddp_lens (sortB (·.1) (l.ms ++ [(l.key,t)]))
  have h3:=sortB_lens (l.ms ++ [(l.key,t)])
  have h4:=memLens_app l.ms [(l.key,t)]
  have h5:memLens [(l.key,t)]=(quoteL l.key).length+1+t.length+1:=by simp [memLens,memT];omega
  unfold wt
  rw [if_pos ho]
  omega
 ·rename_i ho
  unfold HL.text
  rw [if_neg (show ¬ ({ l with its:=l.its ++ [t] }:HL).obj=true from ho)]
  simp only
  have h1:=(arr_len (l.its ++ [t])).2 (by simp)
  have h2:=lens_app l.its [t]
  have h3:lens [t]=t.length+1:=by simp [lens]
  unfold wt
  rw [if_neg ho]
  omega
theorem arr_wt {l:HL}{t:Bys} (ho:¬ l.obj=true):wt (l.add t)=wt l+t.length+1:=by
 unfold HL.add wt
 rw [if_neg ho]
 simp only [if_neg ho]
 have h2:=lens_app l.its [t]
 have h3:lens [t]=t.length+1:=by simp [lens]
 omega
theorem obj_wt {l:HL}{t k:Bys} (ho:l.obj=true):wt { l.add t with key:=k }=wt l+t.length+1+(quoteL k).length+1:=by
 unfold HL.add wt
 rw [if_pos ho]
 simp only [if_pos ho]
 have h4:=memLens_app l.ms [(l.key,t)]
 have h5:memLens [(l.key,t)]=(quoteL l.key).length+1+t.length+1:=by simp [memLens,memT];omega
 omega
def BgIn (a n:Nat) (R:Bg):Prop:=match R with
 | (p,some (.inl t))=>Cn (64 - n) t∧t.length+6 * a≤6 * p
 | (p,some (.inr l))=>n < 64∧HCn (63 - n) l∧wt l+6 * a≤6 * p
 | _=>True
theorem bh_in {s:ByteArray}{a n:Nat}{obj:Bool} (ha:a < s.size) (hn:n≤64):BgIn a n (bhL s a n obj):=by
 have h1:=blk_le (s:=s) (a:=a+1) (by omega)
 unfold bhL
 split
 ·trivial
 ·rename_i hn64
  split
  ·refine ⟨?_,?_⟩
   ·rw [show 64 - n=(63 - n)+1 by omega]
    cases obj
    ·exact .inr (.inl ⟨[],rfl,by simp⟩)
    ·exact .inr (.inr ⟨[],rfl,List.Pairwise.nil,by simp⟩)
   ·have:(newL obj []).text.length=2:=by cases obj <;> rfl
    omega
  ·split
   ·rename_i ho
    split
    ·rename_i hk
     have h2:=keyAt_in h1.2 hk
     refine ⟨by omega,⟨by simp [newL],by simp [newL],fun _=>h2.1⟩,?_⟩
     simp only [wt,newL,ho,if_true,lens,memLens,List.map_nil,List.sum_nil]
     omega
    ·trivial
   ·rename_i ho
    refine ⟨by omega,⟨by simp [newL],by simp [newL],fun e=>absurd e ho⟩,?_⟩
    simp only [wt,newL,ho,lens,memLens,List.map_nil,List.sum_nil]
    simp
    omega
theorem beg_in {s:ByteArray}{a n:Nat} (ha:a≤s.size) (hn:n≤64):BgIn a n (begL s a n):=by
 have h1:=blk_le ha
 unfold begL
 obtain ⟨q,hq⟩:∃ q,blk s a=q:=⟨_,rfl⟩
 rw [hq] at h1 ⊢
 have hlt:byteAt s q≠0→q < s.size:=byte_pos
 have wd:∀ (wd:ByteArray) (t:Bys),leafT t→t.length≤6 * wd.size→BgIn a n (wdL s wd q t):=fun wd t hf hz=>by
  unfold wdL
  split
  ·rename_i hok
   have e1:=word_go (s:=s) (wd:=wd) wd.size 0 q hok
   exact ⟨Cn.leaf hf,by rw [e1];omega⟩
  ·trivial
 have nm:BgIn a n (numB s q):=by
  unfold numB
  cases hnum:(numL s q).1 with
  | some m =>
   have h2:=num_in h1.2 hnum
   have h3:=num_range hnum
   exact ⟨Cn.leaf (.inr (.inr (.inr ⟨m,h3.1,h3.2,rfl⟩))),by omega⟩
  | none=>trivial
 have hol:∀ obj,q < s.size→BgIn a n (bhL s q n obj):=fun obj hl=>by
  have:=bh_in (obj:=obj) hl hn
  cases hR:bhL s q n obj with
  | mk p x =>
   rw [hR] at this
   cases x with
   | none=>trivial
   | some x =>
    cases x with
    | inl t=>exact ⟨this.1,by have:=this.2;omega⟩
    | inr l=>exact ⟨this.1,this.2.1,by have:=this.2.2;omega⟩
 unfold begC
 split
 ·exact wd _ _ (.inl rfl) (by decide)
 ·split
  ·exact wd _ _ (.inr (.inl ⟨false,rfl⟩)) (by decide)
  ·split
   ·exact wd _ _ (.inr (.inl ⟨true,rfl⟩)) (by decide)
   ·split
    ·rename_i hc
     unfold strB
     split
     ·rename_i hok
      have h2:=strAt_in (hlt (by rw [hc];omega)) hok
      exact ⟨Cn.leaf (.inr (.inr (.inl ⟨_,h2.1,rfl⟩))),by have:=h2.2;omega⟩
     ·trivial
    ·split
     ·rename_i hc
      exact hol _ (hlt (by rw [hc];omega))
     ·split
      ·rename_i hc
       exact hol _ (hlt (by rw [hc];omega))
      ·split
       ·exact nm
       ·split
        ·exact nm
        ·trivial
def StCn:List HL→Prop
 | []=>True
 | l :: st=>HCn (63 - st.length) l∧StCn st
def stWt (st:List HL):Nat:=(st.map wt).sum
def handLen:Option Bys→Nat
 | none=>0
 | some t=>t.length
theorem run_in {s:ByteArray}:∀ (k:Nat) (hand:Option Bys) (a:Nat) (st:List HL) (c:Bys) (p:Nat),a≤s.size→st.length≤64→(∀ t,hand=some t→Cn (64 - st.length) t)→StCn st→handLen hand+stWt st≤6 * a→runL s k hand a st=(some c,p)→Cn 64 c∧c.length≤6 * s.size
 | 0,_,_,_,_,_,_,_,_,_,_,h=>by simp [runL] at h
 | k+1,none,a,st,c,p,ha,hn,_,hst,hw,h=>by
  have hb:=beg_in (n:=st.length) ha hn
  rw [runL] at h
  cases hR:begL s a st.length with
  | mk q x =>
   rw [hR] at h hb
   cases x with
   | none=>cases h
   | some x =>
    have hgo:=begL_go ha hR
    cases x with
    | inl t=>exact run_in k (some t) q st c p hgo.2 hn (fun u e=>by cases e;exact hb.1) hst (by have:=hb.2;simp only [handLen] at hw ⊢;omega) h
    | inr l =>
     obtain ⟨h1,h2,h3⟩:=hb
     refine run_in k none q (l :: st) c p hgo.2 (by simp;omega) (by simp) ⟨h2,hst⟩ ?_ h
     simp only [handLen,stWt,List.map_cons,List.sum_cons] at hw ⊢
     omega
 | k+1,some t,a,[],c,p,ha,hn,hh,hst,hw,h=>by
  rw [runL] at h
  split at h
  ·cases h
   refine ⟨hh _ rfl,?_⟩
   simp only [handLen] at hw
   omega
  ·cases h
 | k+1,some t,a,l :: st,c,p,ha,hn,hh,hst,hw,h=>by
  have h1:=blk_le ha
  rw [List.length_cons] at hn
  have ht:=hh t rfl
  rw [List.length_cons,show 64 - (st.length+1)=63 - st.length by omega] at ht
  simp only [handLen,stWt,List.map_cons,List.sum_cons] at hw
  rw [runL] at h
  split at h
  ·rename_i h44
   have hlt:blk s a < s.size:=byte_pos (by rw [h44];omega)
   split at h
   ·rename_i ho
    split at h
    ·rename_i hk
     have h2:=keyAt_in (s:=s) (a:=blk s a+1) (by omega) hk
     have h3:=keyAt_le (s:=s) (a:=blk s a+1) (by omega)
     refine run_in k none _ ({ l.add t with key:=(keyAt s (blk s a+1)).1 } :: st) c p h3 (by simpa using hn) (by simp) ⟨?_,hst.2⟩ ?_ h
     ·have:=hst.1.add ht
      exact ⟨this.its,this.ms,fun _=>h2.1⟩
     ·simp only [handLen,stWt,List.map_cons,List.sum_cons]
      rw [obj_wt ho]
      omega
    ·cases h
   ·rename_i ho
    refine run_in k none _ (l.add t :: st) c p (by omega) (by simpa using hn) (by simp) ⟨hst.1.add ht,hst.2⟩ ?_ h
    simp only [handLen,stWt,List.map_cons,List.sum_cons]
    rw [arr_wt ho]
    omega
  ·split at h
   ·rename_i hcl
    have hlt:blk s a < s.size:=byte_pos (by rw [hcl];unfold clB;split <;> omega)
    refine run_in k _ _ _ c p (by omega) (by omega) (fun u e=>?_) hst.2 ?_ h
    ·cases e
     have:=(hst.1.add ht).text
     rw [show 63 - st.length+1=64 - st.length by omega] at this
     exact this
    ·have:=add_wt (l:=l) (t:=t)
     simp only [handLen,stWt]
     omega
   ·cases h
theorem read_in {s:ByteArray}{c:Bys}{p:Nat} (h:readL s=(some c,p)):Cn 64 c∧c.length≤6 * s.size :=
 run_in _ none 0 [] c p (by omega) (by simp) (by simp) trivial (by simp [handLen,stWt]) h
theorem read_twice {s:ByteArray}{c:Bys}{p:Nat} (h:readL s=(some c,p)):readL ⟨c.toArray⟩=(some c,c.length):=read_back (read_in h).1
theorem leafK_of {x:IV}{c:Bys} (h:leafV x c):leafK x∧1≤c.length:=by
 rcases h with ⟨rfl,rfl⟩ | ⟨b,rfl,rfl⟩ | ⟨n,h0,h1,rfl,rfl⟩ | ⟨t,_,rfl,rfl⟩
 ·exact ⟨.inl rfl,by simp⟩
 ·exact ⟨.inr (.inl ⟨b,rfl⟩),by cases b <;> simp [boolT]⟩
 ·obtain ⟨b,r,e,_⟩:=leaf_first (.inr (.inr (.inr ⟨n,h0,h1,rfl⟩)))
  exact ⟨.inr (.inr (.inl ⟨n,h0,h1,rfl⟩)),by rw [e];simp⟩
 ·exact ⟨.inr (.inr (.inr ⟨t,rfl⟩)),by simp [quoteL]⟩
theorem lens_ge (ts:List Bys):(ts.map List.length).sum≤lens ts:=by
 induction ts with
 | nil=>simp [lens]
 | cons t ts ih=>simp [lens] at ih ⊢;omega
theorem arr_ge (ts:List Bys):1+(ts.map List.length).sum≤(arrT ts).length:=by
 cases ts with
 | nil=>simp [arrT,joinT]
 | cons t r =>
  have h1:=join_len t r
  have h2:=lens_ge (t :: r)
  simp only [arrT,List.length_cons,List.length_append,List.length_nil]
  omega
def numS (i:Nat):IV:=(98,.int .i64 i)
def strS (k:ByteArray):IV:=(100,.string k)
def enumA:Nat→List IV→List (IV×IV)
 | _,[]=>[]
 | i,x :: xs=>(numS i,x) :: enumA (i+1) xs
theorem enumA_at:∀ (i:Nat) (xs:List IV) (j:Nat) {s y:IV},(enumA i xs)[j]? = some (s,y)→s=numS (i+j)∧xs[j]? = some y
 | _,[],_,_,_,h=>by simp [enumA] at h
 | i,x :: xs,0,s,y,h=>by
  simp only [enumA,List.getElem?_cons_zero,Option.some.injEq,Prod.mk.injEq] at h
  obtain ⟨rfl,rfl⟩:=h
  exact ⟨rfl,rfl⟩
 | i,x :: xs,j+1,s,y,h=>by
  simp only [enumA,List.getElem?_cons_succ] at h
  obtain ⟨h1,h2⟩:=enumA_at (i+1) xs j h
  exact ⟨by rw [h1];congr 1;omega,by simpa using h2⟩
end Go.Proofs.Tryz
