import Derived.Test.YtbhajhlhgbnhbaaGreatDoorFy11
set_option linter.all false
namespace Go.Proofs.Tryz
set_option maxHeartbeats 16000000
open Go.RowKit
set_option maxRecDepth 10000
def Lies (s:ByteArray) (a:Nat) (l:Bys):Prop:=∃ r,s.data.toList.drop a=l ++ r
theorem Lies.app {s:ByteArray}{a:Nat}{l m:Bys} (h:Lies s a (l ++ m)):Lies s a l∧Lies s (a+l.length) m:=by
 obtain ⟨r,h⟩:=h
 refine ⟨⟨m ++ r,by rw [h,List.append_assoc]⟩,⟨r,?_⟩⟩
 rw [← List.drop_drop,h,List.append_assoc,List.drop_left]
theorem Lies.cons {s:ByteArray}{a:Nat}{b:UInt8}{l:Bys} (h:Lies s a (b :: l)):byteAt s a=(b.toNat:Int)∧a < s.size∧Lies s (a+1) l:=by
 have h2:=(Lies.app (l:=[b]) (m:=l) h).2
 obtain ⟨r,h⟩:=h
 have h0:s.data.toList[a]? = some b:=by
  have:=congrArg (·[0]?) h
  simpa using this
 refine ⟨by simp only [byteAt,h0],?_,h2⟩
 have:=(List.getElem?_eq_some_iff.1 h0).1
 rw [size_list] at this
 exact this
theorem Lies.le {s:ByteArray}{a:Nat}{l:Bys} (h:Lies s a l) (hl:l≠[]):a+l.length≤s.size:=by
 obtain ⟨r,h⟩:=h
 have:=congrArg List.length h
 rw [List.length_drop,size_list,List.length_append] at this
 have:=List.length_pos_iff.2 hl
 omega
theorem Lies.take {s:ByteArray}{a:Nat}{l:Bys} (h:Lies s a l):(s.data.toList.drop a).take l.length=l:=by
 obtain ⟨r,h⟩:=h
 rw [h,List.take_left]
theorem of_tail {s:ByteArray}:∀ (tl:Bys) (a:Nat) (lo hi:Int),Lies s a tl→TailOk tl lo hi→tailL s tl.length a lo hi=(a+tl.length,true)
 | [],a,_,_,_,_=>rfl
 | x :: r,a,lo,hi,h,hk=>by
  obtain ⟨h0,h1,h2⟩:=hk
  obtain ⟨c0,c1,c2⟩:=h.cons
  rw [List.length_cons,tailL,if_neg (by omega),if_neg (by omega),if_neg (by omega),of_tail r (a+1) 128 191 c2 h2]
  congr 1
  omega
theorem escB_pos (c:UInt8):1≤(escB c).length:=by
 unfold escB
 repeat' split
 all_goals simp
theorem flat_ge (l:Bys):l.length≤(l.flatMap escB).length:=by
 induction l with
 | nil=>simp
 | cons c l ih =>
  have:=escB_pos c
  rw [List.flatMap_cons,List.length_append,List.length_cons]
  omega
theorem rune_byte (b:UInt8) (h:b.toNat < 128):Lib.encodeRune b.toNat=[b]:=by
 rw [Lib.encodeRune,Lib.encodeRuneZ_one (by omega) (by omega)]
 simp [Nat.toUInt8]
theorem hex_back:∀ n:Fin 16,hexV ((hexC n.val).toNat:Int)=some (n.val:Int):=by decide
theorem hexV_hexC {n:Nat} (h:n < 16):hexV ((hexC n).toNat:Int)=some (n:Int):=hex_back ⟨n,h⟩
theorem esc_high {b:UInt8} (h:128≤b.toNat):escB b=[b]:=by
 have ne:∀ c:UInt8,c.toNat < 128→¬ b=c:=fun c hc e=>by rw [e] at h;omega
 unfold escB
 rw [if_neg (by rintro (e | e) <;> exact ne _ (by decide) e),if_neg (ne _ (by decide)),if_neg (ne _ (by decide)),if_neg (ne _ (by decide)),if_neg (ne _ (by decide)),if_neg (ne _ (by decide)),if_neg (by rw [UInt8.lt_iff_toNat_lt];simp;omega)]
theorem tail_high:∀ {tl:Bys}{lo hi:Int},128≤lo→TailOk tl lo hi→∀ b∈tl,128≤b.toNat
 | [],_,_,_,_=>by simp
 | x :: r,lo,hi,hl,h=>by
  intro b hb
  rcases List.mem_cons.1 hb with rfl | hb
  ·have:=h.1;omega
  ·exact tail_high (by omega) h.2.2 b hb
theorem flat_high:∀ {l:Bys},(∀ b∈l,128≤b.toNat)→l.flatMap escB=l
 | [],_=>rfl
 | b :: l,h=>by
  rw [List.flatMap_cons,esc_high (h b (by simp)),flat_high (fun x hx=>h x (by simp [hx]))]
  rfl
theorem str_esc {s:ByteArray}{k a:Nat}{cs:Bys}{b:UInt8}{n:Nat} (ha:a < s.size) (h92:byteAt s a=92) (hb:b.toNat < 128) (he:escV s a=((b.toNat:Int),((a+n:Nat):Int),true)):strL s (k+1) a cs=strL s k (a+n) (cs ++ [b]):=by
 rw [strL,if_neg (by omega),if_neg (by omega),if_neg (by omega),if_pos h92,he]
 simp only [if_true,Int.toNat_natCast]
 rw [rune_byte b hb]
theorem esc_two {s:ByteArray}{a:Nat}{b c:UInt8} (hc:Lies s a [92,c]) (h:∀ s a,escC s a c.toNat=((b.toNat:Int),(a:Int)+2,true)):escV s a=((b.toNat:Int),((a+2:Nat):Int),true):=by
 obtain ⟨_,h1,h2⟩:=hc.cons
 obtain ⟨c1,h3,_⟩:=h2.cons
 rw [escV,if_neg (by omega),c1,h]
 simp
theorem esc_u {s:ByteArray}{a:Nat}{b:UInt8} (hb:b.toNat < 32) (hc:Lies s a [92,117,48,48,hexC (b.toNat / 16),hexC (b.toNat % 16)]):escV s a=((b.toNat:Int),((a+6:Nat):Int),true):=by
 obtain ⟨_,h1,c1⟩:=hc.cons
 obtain ⟨b1,h2,c2⟩:=c1.cons
 obtain ⟨b2,h3,c3⟩:=c2.cons
 obtain ⟨b3,h4,c4⟩:=c3.cons
 obtain ⟨b4,h5,c5⟩:=c4.cons
 obtain ⟨b5,h6,_⟩:=c5.cons
 rw [escV,if_neg (by omega),b1,escC]
 simp only [show ((117:UInt8).toNat:Int)=117 from rfl]
 rw [if_neg (by omega),if_neg (by omega),if_neg (by omega),if_neg (by omega),if_neg (by omega),if_neg (by omega),if_neg (by omega),if_neg (by omega),if_pos trivial]
 have hd0:hexV ((48:UInt8).toNat:Int)=some 0:=by decide
 have hd1:=hexV_hexC (n:=b.toNat / 16) (by omega)
 have hd2:=hexV_hexC (n:=b.toNat % 16) (by omega)
 rw [uniL,if_neg (by omega),show a+2+0=a+1+1 by omega,b2,hd0]
 simp only
 rw [if_neg (by omega),uniL,if_neg (by omega),show a+2+(0+1)=a+1+1+1 by omega,b3,hd0]
 simp only
 rw [if_pos trivial,if_neg (by simp [halfB]),uniL,if_neg (by omega),show a+2+(0+1+1)=a+1+1+1+1 by omega,b4,hd1]
 simp only
 rw [if_neg (by omega),uniL,if_neg (by omega),show a+2+(0+1+1+1)=a+1+1+1+1+1 by omega,b5,hd2]
 simp only
 rw [if_neg (by omega),uniL,if_pos (by omega)]
 congr 1
 omega
theorem str_one {s:ByteArray}{k a:Nat}{cs c:Bys} (hc:Chunk c) (hl:Lies s a (c.flatMap escB)):strL s (k+1) a cs=strL s k (a+(c.flatMap escB).length) (cs ++ c):=by
 obtain ⟨b,tl,rfl,hn,ht⟩:=hc
 by_cases h:b.toNat < 128
 ·have hf:followV b.toNat=(0,0,0):=by rw [followV,if_pos (by omega)]
  rw [hf] at hn ht
  have:tl=[]:=by
   have:tl.length=0:=by simp only at hn;omega
   exact List.eq_nil_of_length_eq_zero this
  subst this
  rw [List.flatMap_cons,List.flatMap_nil,List.append_nil] at hl ⊢
  have two:∀ x:UInt8,escB b=[92,x]→(∀ s a,escC s a x.toNat=((b.toNat:Int),(a:Int)+2,true))→strL s (k+1) a cs=strL s k (a+(escB b).length) (cs ++ [b]):=fun x e he=>by
   rw [e] at hl ⊢
   obtain ⟨c0,c1,_⟩:=hl.cons
   exact str_esc c1 c0 h (esc_two hl he)
  by_cases h34:b=34
  ·subst h34;exact two 34 (by decide) (fun s a=>by simp [escC])
  by_cases h92:b=92
  ·subst h92;exact two 92 (by decide) (fun s a=>by simp [escC])
  by_cases h8:b=8
  ·subst h8;exact two 98 (by decide) (fun s a=>by simp [escC])
  by_cases h9:b=9
  ·subst h9;exact two 116 (by decide) (fun s a=>by simp [escC])
  by_cases h10:b=10
  ·subst h10;exact two 110 (by decide) (fun s a=>by simp [escC])
  by_cases h12:b=12
  ·subst h12;exact two 102 (by decide) (fun s a=>by simp [escC])
  by_cases h13:b=13
  ·subst h13;exact two 114 (by decide) (fun s a=>by simp [escC])
  by_cases h32:b < 32
  ·have e:escB b=[92,117,48,48,hexC (b.toNat / 16),hexC (b.toNat % 16)]:=by
    unfold escB
    rw [if_neg (by rintro (e | e) <;> contradiction),if_neg h8,if_neg h9,if_neg h10,if_neg h12,if_neg h13,if_pos h32]
   rw [e] at hl ⊢
   obtain ⟨c0,c1,_⟩:=hl.cons
   exact str_esc c1 c0 h (esc_u (by simpa [UInt8.lt_iff_toNat_lt] using h32) hl)
  ·have e:escB b=[b]:=by
    unfold escB
    rw [if_neg (by rintro (e | e) <;> contradiction),if_neg h8,if_neg h9,if_neg h10,if_neg h12,if_neg h13,if_neg h32]
   rw [e] at hl ⊢
   obtain ⟨c0,c1,_⟩:=hl.cons
   have n34:¬ b.toNat=34:=fun e=>h34 (UInt8.toNat.inj e)
   have n92:¬ b.toNat=92:=fun e=>h92 (UInt8.toNat.inj e)
   have n32:¬ b.toNat < 32:=fun e=>h32 (by simpa [UInt8.lt_iff_toNat_lt] using e)
   rw [strL,if_neg (by omega),if_neg (by omega),if_neg (by omega),if_neg (by omega),c0,hf,if_neg (by simp)]
   simp only [Int.toNat_zero,tailL,if_true]
   rw [show a+1 - a=([b]:Bys).length by simp,hl.take]
   rfl
 ·have hlo:128≤(followV b.toNat).1∨(followV b.toNat).2.2 < 0:=by
   unfold followV
   rw [if_neg (by omega)]
   repeat' split
   all_goals simp
  have hlo:128≤(followV b.toNat).1:=by omega
  have hall:∀ x∈b :: tl,128≤x.toNat:=fun x hx=>by
   rcases List.mem_cons.1 hx with rfl | hx
   ·omega
   ·exact tail_high hlo ht x hx
  rw [flat_high hall] at hl ⊢
  obtain ⟨c0,c1,c2⟩:=hl.cons
  have e:=of_tail tl (a+1) _ _ c2 ht
  rw [strL,if_neg (by omega),if_neg (by omega),if_neg (by omega),if_neg (by omega),c0,if_neg (by omega),hn,Int.toNat_natCast,e]
  simp only [if_true]
  rw [show a+1+tl.length - a=(b :: tl).length by simp;omega,hl.take,List.length_cons,show a+1+tl.length=a+(tl.length+1) by omega]
theorem str_all {s:ByteArray}:∀ (cl:List Bys) (k a:Nat) (cs:Bys),(∀ c∈cl,Chunk c)→Lies s a (cl.flatten.flatMap escB ++ [34])→cl.length≤k→strL s (k+1) a cs=(cs ++ cl.flatten,((a+(cl.flatten.flatMap escB).length+1:Nat):Int),true)
 | [],k,a,cs,_,hl,_=>by
  obtain ⟨c0,c1,_⟩:=Lies.cons (l:=[]) hl
  rw [strL,if_neg (by omega),if_pos (show byteAt s a=34 from c0)]
  simp
 | c :: cl,0,a,cs,_,_,hk=>by simp at hk
 | c :: cl,k+1,a,cs,hc,hl,hk=>by
  rw [List.flatten_cons,List.flatMap_append,List.append_assoc] at hl
  obtain ⟨h1,h2⟩:=hl.app
  rw [str_one (hc c (by simp)) h1,str_all cl k _ _ (fun x hx=>hc x (by simp [hx])) h2 (by simpa using hk)]
  simp [List.flatMap_append,Nat.add_assoc]
theorem chunks_le:∀ (cl:List Bys),(∀ c∈cl,Chunk c)→cl.length≤cl.flatten.length
 | [],_=>by simp
 | c :: cl,h=>by
  obtain ⟨b,tl,rfl,_⟩:=h c (by simp)
  have:=chunks_le cl (fun x hx=>h x (by simp [hx]))
  rw [List.length_cons,List.flatten_cons,List.length_append,List.length_cons]
  omega
theorem strAt_quote {s:ByteArray}{a:Nat}{t:Bys} (ht:UStr t) (hl:Lies s a (quoteL t)):strAt s a=(t,a+(quoteL t).length,true):=by
 obtain ⟨cl,rfl,hc⟩:=ht
 have hle:=hl.le (by simp [quoteL])
 obtain ⟨_,_,h1⟩:=hl.cons
 have h2:=chunks_le cl hc
 have h3:=flat_ge cl.flatten
 simp only [quoteL,List.length_cons,List.length_append,List.length_nil] at hle
 unfold strAt
 rw [str_all cl s.size (a+1) [] hc h1 (by omega)]
 simp only [List.nil_append,Int.toNat_natCast,quoteL,List.length_cons,List.length_append,List.length_nil]
 congr 2
 omega
theorem byteAt_end {s:ByteArray}{a:Nat} (h:s.size≤a):byteAt s a=0:=by
 simp only [byteAt,List.getElem?_eq_none (show s.data.toList.length≤a by rw [size_list];omega)]
theorem blk_none {s:ByteArray}{a:Nat} (h:blankB (byteAt s a)=false):blk s a=a:=by
 unfold blk
 rw [blanksV,h]
 rfl
theorem word_lies {s wd:ByteArray}:∀ (k i a:Nat),i+k=wd.size→Lies s a (wd.data.toList.drop i)→wordV s wd k i a=(a+k,true)
 | 0,i,a,_,_=>rfl
 | k+1,i,a,he,hl=>by
  have hd:wd.data.toList.drop i=wd[i]'(by omega) :: wd.data.toList.drop (i+1):=by
   rw [List.drop_eq_getElem_cons (by rw [size_list];omega)]
   congr 1
  have hb:byteAt wd i=(wd[i]'(by omega)).toNat:=by simp only [byteAt,at_list wd i (by omega)]
  rw [hd] at hl
  obtain ⟨c0,_,c1⟩:=hl.cons
  rw [wordV,if_pos (by rw [c0,hb]),word_lies k (i+1) (a+1) (by omega) c1]
  congr 1
  omega
theorem digs_run {s:ByteArray}:∀ (l:Bys) (k a:Nat),(∀ c∈l,48≤c.toNat∧c.toNat≤57)→Lies s a l→digB (byteAt s (a+l.length))=false→l.length≤k→digsV s (k+1) a=a+l.length
 | [],k,a,_,_,hn,_=>by
  simp only [List.length_nil,Nat.add_zero] at hn ⊢
  rw [digsV,hn]
  simp
 | c :: l,0,a,_,_,_,hk=>by simp at hk
 | c :: l,k+1,a,hd,hl,hn,hk=>by
  obtain ⟨c0,_,c1⟩:=hl.cons
  have h1:=hd c (by simp)
  have:digB (byteAt s a)=true:=by rw [c0];simp [digB];omega
  rw [digsV,if_pos this,digs_run l k (a+1) (fun x hx=>hd x (by simp [hx])) c1 (by rw [← hn];congr 2;simp;omega) (by simpa using hk)]
  simp
  omega
theorem ext_lies {s:ByteArray}{a:Nat}{l:Bys} (h:Lies s a l):(s.extract a (a+l.length)).data.toList=l:=by
 have:=h.take
 simpa [ByteArray.data_extract,Nat.add_sub_cancel_left] using this
theorem num_dec {s:ByteArray}{p b:Nat}{u:Nat} (hl:Lies s b (Lib.decDigits u)) (hn:digB (byteAt s (b+(Lib.decDigits u).length))=false):numAt s p b=numP (parsedV (s.extract p (b+(Lib.decDigits u).length)).data.toList) p (b+(Lib.decDigits u).length):=by
 cases hd:Lib.decDigits u with
 | nil=>exact absurd hd (dec_ne u)
 | cons c r =>
  rw [hd] at hl hn
  obtain ⟨c0,c1,c2⟩:=hl.cons
  have hall:=dec_all u
  rw [hd] at hall
  have h1:=hall c (by simp)
  have hdg:digB (byteAt s b)=true:=by rw [c0];simp [digB];omega
  have hend:numEnd s b=b+(c :: r).length:=by
   unfold numEnd
   split
   ·rename_i h48
    by_cases hu:1≤u
    ·exact absurd (by omega) (dec_lead u hu c r hd)
    ·have:u=0:=by omega
     rw [this,dec_nought] at hd
     cases hd
     rfl
   ·have hle:=hl.le (by simp)
    rw [digs_run r s.size (b+1) (fun x hx=>hall x (by simp [hx])) c2 (by rw [← hn];congr 2;simp;omega) (by simp at hle;omega)]
    simp
    omega
  rw [numAt,if_pos hdg,hend]
theorem num_itoa {s:ByteArray}{a:Nat}{n:Int} (h0 : -9223372036854775808≤n) (h1:n≤9223372036854775807) (hl:Lies s a (Lib.itoa n)) (hn:digB (byteAt s (a+(Lib.itoa n).length))=false):numL s a=(some n,a+(Lib.itoa n).length):=by
 have hx:=ext_lies hl
 have hp:parsedV (Lib.itoa n)=some n:=by rw [parsedV,parse_itoa n h0 h1]
 by_cases hneg:n < 0
 ·have e:Lib.itoa n=45 :: Lib.decDigits n.natAbs:=by rw [Lib.itoa,if_pos hneg]
  have hl':=hl
  rw [e] at hl' hn
  obtain ⟨c0,c1,c2⟩:=hl'.cons
  unfold numL
  rw [if_pos (show byteAt s a=45 from c0),num_dec c2 (by rw [← hn];congr 2;simp;omega),show a+1+(Lib.decDigits n.natAbs).length=a+(Lib.itoa n).length by rw [e];simp;omega,hx,hp]
  rfl
 ·have e:Lib.itoa n=Lib.decDigits n.toNat:=by rw [Lib.itoa,if_neg hneg]
  have hl':=hl
  rw [e] at hl' hn
  have h45:¬ byteAt s a=45:=fun e45=>by
   cases hd:Lib.decDigits n.toNat with
   | nil=>exact absurd hd (dec_ne _)
   | cons c r =>
    rw [hd] at hl'
    obtain ⟨c0,_⟩:=hl'.cons
    have:=dec_all n.toNat c (by rw [hd];simp)
    omega
  unfold numL
  rw [if_neg h45,num_dec hl' hn,← e,hx,hp]
  rfl
def leafT (c:Bys):Prop:=c=[110,117,108,108]∨(∃ b,c=boolT b)∨(∃ t,UStr t∧c=quoteL t)∨∃ n:Int,-9223372036854775808≤n∧n≤9223372036854775807∧c=Lib.itoa n
def Rise (ms:List (Bys×Bys)):Prop:=ms.Pairwise (fun x y=>klt x.1 y.1)
def Cn:Nat→Bys→Prop
 | 0,c=>leafT c
 | d+1,c=>leafT c∨(∃ ts,c=arrT ts∧∀ t∈ts,Cn d t)∨∃ ms,c=objT ms∧Rise ms∧∀ m∈ms,UStr m.1∧Cn d m.2
theorem Cn.leaf {d:Nat}{c:Bys} (h:leafT c):Cn d c:=by
 cases d with
 | zero=>exact h
 | succ d=>exact .inl h
def beginB (b:Int):Prop:=b=110∨b=102∨b=116∨b=34∨b=45∨(48≤b∧b≤57)∨b=91∨b=123
theorem beginB.blank {b:Int} (h:beginB b):blankB b=false:=by
 unfold beginB at h
 unfold blankB
 simp
 omega
theorem leaf_first {c:Bys} (h:leafT c):∃ b r,c=b :: r∧beginB b.toNat:=by
 rcases h with rfl | ⟨b,rfl⟩ | ⟨t,_,rfl⟩ | ⟨n,_,_,rfl⟩
 ·exact ⟨_,_,rfl,.inl rfl⟩
 ·cases b
  ·exact ⟨_,_,rfl,.inr (.inl rfl)⟩
  ·exact ⟨_,_,rfl,.inr (.inr (.inl rfl))⟩
 ·exact ⟨_,_,rfl,.inr (.inr (.inr (.inl rfl)))⟩
 ·by_cases hneg:n < 0
  ·rw [Lib.itoa,if_pos hneg]
   exact ⟨_,_,rfl,.inr (.inr (.inr (.inr (.inl rfl))))⟩
  ·rw [Lib.itoa,if_neg hneg]
   cases hd:Lib.decDigits n.toNat with
   | nil=>exact absurd hd (dec_ne _)
   | cons c r =>
    have:=dec_all n.toNat c (by rw [hd];simp)
    exact ⟨_,_,rfl,.inr (.inr (.inr (.inr (.inr (.inl (by omega))))))⟩
theorem Cn.first {d:Nat}{c:Bys} (h:Cn d c):∃ b r,c=b :: r∧beginB b.toNat:=by
 cases d with
 | zero=>exact leaf_first h
 | succ d =>
  rcases h with h | ⟨ts,rfl,_⟩ | ⟨ms,rfl,_⟩
  ·exact leaf_first h
  ·exact ⟨_,_,rfl,by unfold beginB;decide⟩
  ·exact ⟨_,_,rfl,by unfold beginB;decide⟩
theorem beg_leaf {s:ByteArray}{a n:Nat}{c:Bys} (h:leafT c) (hl:Lies s a c) (hn:digB (byteAt s (a+c.length))=false):begL s a n=(a+c.length,some (.inl c)):=by
 obtain ⟨b,r,e,hb⟩:=leaf_first h
 have hb0:byteAt s a=b.toNat:=(Lies.cons (e ▸ hl)).1
 unfold begL
 rw [blk_none (by rw [hb0];exact hb.blank),hb0]
 rcases h with rfl | ⟨x,rfl⟩ | ⟨t,ht,rfl⟩ | ⟨m,h0,h1,rfl⟩
 ·cases e
  rw [begC,if_pos (by decide),wdL,word_lies (wd:=nullW) nullW.size 0 a rfl hl]
  rfl
 ·cases x
  ·cases e
   rw [begC,if_neg (by decide),if_pos (by decide),wdL,word_lies (wd:=falseW) falseW.size 0 a rfl hl]
   rfl
  ·cases e
   rw [begC,if_neg (by decide),if_neg (by decide),if_pos (by decide),wdL,word_lies (wd:=trueW) trueW.size 0 a rfl hl]
   rfl
 ·cases e
  rw [begC,if_neg (by decide),if_neg (by decide),if_neg (by decide),if_pos (by decide),strB,strAt_quote ht hl]
  rfl
 ·have hnum:numB s a=(a+(Lib.itoa m).length,some (.inl (Lib.itoa m))):=by
   rw [numB,num_itoa h0 h1 hl hn]
  by_cases hneg:m < 0
  ·have e2:Lib.itoa m=45 :: Lib.decDigits m.natAbs:=by rw [Lib.itoa,if_pos hneg]
   rw [e2] at e
   cases e
   rw [begC,if_neg (by decide),if_neg (by decide),if_neg (by decide),if_neg (by decide),if_neg (by decide),if_neg (by decide),if_pos (by decide),hnum]
  ·have e2:Lib.itoa m=Lib.decDigits m.toNat:=by rw [Lib.itoa,if_neg hneg]
   have:=dec_all m.toNat b (by rw [← e2,e];simp)
   rw [begC,if_neg (by omega),if_neg (by omega),if_neg (by omega),if_neg (by omega),if_neg (by omega),if_neg (by omega),if_neg (by omega),if_pos (by simp [digB];omega),hnum]
def restA:List Bys→Bys
 | []=>[93]
 | t :: r=>44 :: (t ++ restA r)
def restO:List (Bys×Bys)→Bys
 | []=>[125]
 | m :: r=>44 :: (quoteL m.1 ++ 58 :: (m.2 ++ restO r))
theorem join_A:∀ (t:Bys) (r:List Bys),joinT (t :: r) ++ [93]=t ++ restA r
 | t,[]=>rfl
 | t,u :: r=>by rw [joinT,List.append_assoc,List.cons_append,join_A u r];rfl
theorem join_O:∀ (m:Bys×Bys) (r:List (Bys×Bys)),joinT ((m :: r).map memT) ++ [125]=quoteL m.1 ++ 58 :: (m.2 ++ restO r)
 | m,[]=>by simp [joinT,memT,restO]
 | m,u :: r=>by
  have ih:=join_O u r
  rw [List.map_cons] at ih
  rw [List.map_cons,List.map_cons,joinT,List.append_assoc,List.cons_append,ih]
  simp [memT,restO]
def Goes (s:ByteArray) (a:Nat) (c:Bys) (st:List HL):Prop:=∃ m,m≤c.length∧∀ k,runL s (k+m) none a st=runL s k (some c) (a+c.length) st
theorem items_go {s:ByteArray}{st:List HL}:∀ (r:List Bys) (t:Bys) (l:HL) (a:Nat),l.obj=false→(∀ u∈t :: r,∀ l' a',l'.obj=false→Lies s a' u→digB (byteAt s (a'+u.length))=false→Goes s a' u (l' :: st))→Lies s a (t ++ restA r)→
  ∃ m,m≤(t ++ restA r).length∧∀ k,runL s (k+m) none a (l :: st)=runL s k (some (arrT (l.its ++ t :: r))) (a+(t ++ restA r).length) st
 | [],t,l,a,ho,hg,hl=>by
  obtain ⟨h1,h2⟩:=hl.app
  obtain ⟨c0,c1,_⟩:=Lies.cons (show Lies s (a+t.length) (93 :: []) from h2)
  have c0:byteAt s (a+t.length)=93:=c0
  obtain ⟨m,hm,hgo⟩:=hg t (by simp) l a ho h1 (by rw [c0];rfl)
  refine ⟨1+m,by simp [restA];omega,fun k=>?_⟩
  rw [show k+(1+m)=k+1+m by omega,hgo,runL,blk_none (by rw [c0];rfl),c0,if_neg (by omega),if_pos (by rw [ho];rfl),show a+(t ++ restA []).length=a+t.length+1 by simp [restA];omega,show (l.add t).text=arrT (l.its ++ [t]) by simp [HL.text,HL.add,ho]]
 | u :: r,t,l,a,ho,hg,hl=>by
  obtain ⟨h1,h2⟩:=hl.app
  obtain ⟨c0,c1,h3⟩:=Lies.cons (show Lies s (a+t.length) (44 :: (u ++ restA r)) from h2)
  have c0:byteAt s (a+t.length)=44:=c0
  obtain ⟨m,hm,hgo⟩:=hg t (by simp) l a ho h1 (by rw [c0];rfl)
  have ho2:(l.add t).obj=false:=by simp [HL.add,ho]
  have hi2:(l.add t).its=l.its ++ [t]:=by simp [HL.add,ho]
  obtain ⟨m2,hm2,hgo2⟩:=items_go r u (l.add t) (a+t.length+1) ho2 (fun x hx=>hg x (by simp [List.mem_cons.1 hx])) h3
  refine ⟨m2+1+m,by simp [restA] at hm2 ⊢;omega,fun k=>?_⟩
  rw [show k+(m2+1+m)=k+m2+1+m by omega,hgo,runL,blk_none (by rw [c0];rfl),c0,if_pos rfl,ho,if_neg (by simp),hgo2,hi2,show l.its ++ [t] ++ u :: r=l.its ++ t :: u :: r by simp,show a+(t ++ restA (u :: r)).length=a+t.length+1+(u ++ restA r).length by simp [restA];omega]
theorem key_quote {s:ByteArray}{a:Nat}{k:Bys}{r:Bys} (hk:UStr k) (hl:Lies s a (quoteL k ++ 58 :: r)):keyAt s a=(k,a+(quoteL k).length+1,true)∧Lies s (a+(quoteL k).length+1) r:=by
 obtain ⟨h1,h2⟩:=hl.app
 obtain ⟨c0,c1,h3⟩:=h2.cons
 have c0:byteAt s (a+(quoteL k).length)=58:=c0
 have b0:byteAt s a=34:=(Lies.cons h1).1
 refine ⟨?_,h3⟩
 unfold keyAt
 rw [blk_none (by rw [b0];rfl),if_pos b0,strAt_quote hk h1]
 simp only [if_true]
 rw [blk_none (by rw [c0];rfl),if_pos c0]
theorem ddp_of:∀ (l:List (Bys×Bys)),Rise l→ddp (·.1) l=l
 | [],_=>rfl
 | [_],_=>rfl
 | x :: y :: r,h=>by
  have h1:=List.pairwise_cons.1 h
  rw [ddp,if_neg (fun e=>klt_ne (h1.1 y (by simp)) e.symm),ddp_of (y :: r) h1.2]
theorem rise_srt:∀ (l:List (Bys×Bys)),Rise l→Srt (·.1) l
 | [],_=>List.Pairwise.nil
 | x :: l,h=>List.pairwise_cons.2 ⟨fun y hy=>klt_kle ((List.pairwise_cons.1 h).1 y hy),rise_srt l (List.pairwise_cons.1 h).2⟩
theorem text_rise {l:HL} (ho:l.obj=true) (h:Rise l.ms):l.text=objT l.ms:=by
 have e:sortB (·.1) l.ms=l.ms:=sortB_of_srt (key:=fun x:Bys×Bys=>x.1) (rise_srt _ h)
 unfold HL.text
 rw [if_pos ho,e,ddp_of _ h]
theorem members_go {s:ByteArray}{st:List HL}:∀ (r:List (Bys×Bys)) (x:Bys×Bys) (l:HL) (a:Nat),l.obj=true→l.key=x.1→Rise (l.ms ++ x :: r)→(∀ u∈x :: r,UStr u.1∧∀ l' a',l'.obj=true→Lies s a' u.2→digB (byteAt s (a'+u.2.length))=false→Goes s a' u.2 (l' :: st))→Lies s a (x.2 ++ restO r)→
  ∃ m,m≤(x.2 ++ restO r).length∧∀ k,runL s (k+m) none a (l :: st)=runL s k (some (objT (l.ms ++ x :: r))) (a+(x.2 ++ restO r).length) st
 | [],x,l,a,ho,hk,hr,hg,hl=>by
  obtain ⟨h1,h2⟩:=hl.app
  obtain ⟨c0,c1,_⟩:=Lies.cons (show Lies s (a+x.2.length) (125 :: []) from h2)
  have c0:byteAt s (a+x.2.length)=125:=c0
  obtain ⟨m,hm,hgo⟩:=(hg x (by simp)).2 l a ho h1 (by rw [c0];rfl)
  have ho2:(l.add x.2).obj=true:=by simp [HL.add,ho]
  have hi2:(l.add x.2).ms=l.ms ++ [x]:=by simp [HL.add,ho,hk]
  refine ⟨1+m,by simp [restO];omega,fun k=>?_⟩
  rw [show k+(1+m)=k+1+m by omega,hgo,runL,blk_none (by rw [c0];rfl),c0,if_neg (by omega),if_pos (by rw [ho];rfl),text_rise ho2 (by rw [hi2];exact hr),hi2]
  congr 1
  simp [restO];omega
 | u :: r,x,l,a,ho,hk,hr,hg,hl=>by
  obtain ⟨h1,h2⟩:=hl.app
  obtain ⟨c0,c1,h3⟩:=Lies.cons (show Lies s (a+x.2.length) (44 :: (quoteL u.1 ++ 58 :: (u.2 ++ restO r))) from h2)
  have c0:byteAt s (a+x.2.length)=44:=c0
  obtain ⟨m,hm,hgo⟩:=(hg x (by simp)).2 l a ho h1 (by rw [c0];rfl)
  obtain ⟨hka,h4⟩:=key_quote (hg u (by simp)).1 h3
  have ho2:({ l.add x.2 with key:=u.1 }:HL).obj=true:=by simp [HL.add,ho]
  have hi2:({ l.add x.2 with key:=u.1 }:HL).ms=l.ms ++ [x]:=by simp [HL.add,ho,hk]
  obtain ⟨m2,hm2,hgo2⟩:=members_go r u { l.add x.2 with key:=u.1 } (a+x.2.length+1+(quoteL u.1).length+1) ho2 rfl (by rw [hi2];simpa using hr) (fun y hy=>hg y (by simp [List.mem_cons.1 hy])) h4
  refine ⟨m2+1+m,by simp [restO] at hm2 ⊢;omega,fun k=>?_⟩
  rw [show k+(m2+1+m)=k+m2+1+m by omega,hgo,runL,blk_none (by rw [c0];rfl),c0,if_pos rfl,ho,if_pos rfl,hka]
  simp only [if_true]
  rw [hgo2,hi2,show l.ms ++ [x] ++ u :: r=l.ms ++ x :: u :: r by simp,show a+(x.2 ++ restO (u :: r)).length=a+x.2.length+1+(quoteL u.1).length+1+(u.2 ++ restO r).length by simp [restO];omega]
theorem cn_go {s:ByteArray}:∀ (d:Nat) (c:Bys) (a:Nat) (st:List HL),Cn d c→st.length+d≤64→Lies s a c→digB (byteAt s (a+c.length))=false→Goes s a c st:=by
 have leaf:∀ (c:Bys) (a:Nat) (st:List HL),leafT c→Lies s a c→digB (byteAt s (a+c.length))=false→Goes s a c st:=fun c a st h hl hn=>by
  obtain ⟨b,r,e,_⟩:=leaf_first h
  refine ⟨1,by rw [e];simp,fun k=>?_⟩
  rw [runL,beg_leaf h hl hn]
 intro d
 induction d with
 | zero=>intro c a st h _ hl hn;exact leaf c a st h hl hn
 | succ d ih =>
  intro c a st h hd hl hn
  rcases h with h | ⟨ts,rfl,hts⟩ | ⟨ms,rfl,hr,hms⟩
  ·exact leaf c a st h hl hn
  ·obtain ⟨c0,c1,h1⟩:=hl.cons
   have c0:byteAt s a=91:=c0
   have hbeg:begL s a st.length=bhL s a st.length false:=by
    unfold begL
    rw [blk_none (by rw [c0];rfl),c0]
    rfl
   cases ts with
   | nil =>
    obtain ⟨d0,d1,_⟩:=Lies.cons (show Lies s (a+1) (93 :: []) from h1)
    have d0:byteAt s (a+1)=93:=d0
    refine ⟨1,by simp [arrT],fun k=>?_⟩
    rw [runL,hbeg,bhL,if_neg (by omega),blk_none (by rw [d0];rfl),if_pos (by rw [d0];rfl)]
    rfl
   | cons t r =>
    rw [join_A] at h1
    obtain ⟨b,q,e,hb⟩:=(hts t (by simp)).first
    have d0:byteAt s (a+1)=b.toNat:=(Lies.cons (l:=q ++ restA r) (by rw [e] at h1;exact h1)).1
    obtain ⟨m,hm,hgo⟩:=items_go (st:=st) r t (newL false []) (a+1) rfl (fun u hu l' a' _ hl' hn'=>ih u a' (l' :: st) (hts u hu) (by simp;omega) hl' hn') h1
    refine ⟨m+1,by simp only [arrT,List.length_cons];rw [join_A];omega,fun k=>?_⟩
    rw [show k+(m+1)=k+m+1 by omega,runL,hbeg,bhL,if_neg (by omega),blk_none (by rw [d0];exact hb.blank),if_neg (by rw [d0];unfold beginB at hb;simp [clB];omega),if_neg (by simp)]
    simp only
    rw [hgo]
    simp only [newL,List.nil_append,arrT,List.length_cons]
    rw [join_A]
    congr 1
    omega
  ·obtain ⟨c0,c1,h1⟩:=hl.cons
   have c0:byteAt s a=123:=c0
   have hbeg:begL s a st.length=bhL s a st.length true:=by
    unfold begL
    rw [blk_none (by rw [c0];rfl),c0]
    rfl
   cases ms with
   | nil =>
    obtain ⟨d0,d1,_⟩:=Lies.cons (show Lies s (a+1) (125 :: []) from h1)
    have d0:byteAt s (a+1)=125:=d0
    refine ⟨1,by simp [objT],fun k=>?_⟩
    rw [runL,hbeg,bhL,if_neg (by omega),blk_none (by rw [d0];rfl),if_pos (by rw [d0];rfl)]
    rfl
   | cons x r =>
    rw [join_O] at h1
    have d0:byteAt s (a+1)=34:=(Lies.cons h1).1
    obtain ⟨hka,h2⟩:=key_quote (hms x (by simp)).1 h1
    obtain ⟨m,hm,hgo⟩:=members_go (st:=st) r x (newL true x.1) (a+1+(quoteL x.1).length+1) rfl rfl (by simpa [newL] using hr) (fun u hu=>⟨(hms u hu).1,fun l' a' _ hl' hn'=>ih u.2 a' (l' :: st) (hms u hu).2 (by simp;omega) hl' hn'⟩) h2
    refine ⟨m+1,by simp only [objT,List.length_cons];rw [join_O];simp at hm ⊢;omega,fun k=>?_⟩
    rw [show k+(m+1)=k+m+1 by omega,runL,hbeg,bhL,if_neg (by omega),blk_none (by rw [d0];rfl),if_neg (by rw [d0];simp [clB]),if_pos rfl,hka]
    simp only [if_true]
    rw [hgo]
    simp only [newL,List.nil_append,objT,List.length_cons]
    rw [join_O]
    congr 1
    simp
    omega
theorem read_back {c:Bys} (h:Cn 64 c):readL ⟨c.toArray⟩=(some c,c.length):=by
 have hsz:(ByteArray.mk c.toArray).size=c.length:=by simp [ByteArray.size]
 have hl:Lies ⟨c.toArray⟩ 0 c:=⟨[],by simp⟩
 obtain ⟨m,hm,hgo⟩:=cn_go 64 c 0 [] h (by simp) hl (by rw [byteAt_end (by rw [hsz];omega)];rfl)
 unfold readL
 rw [hsz,show c.length+1=(c.length - m)+1+m by omega,hgo,runL,Nat.zero_add,blk_none (by rw [byteAt_end (by rw [hsz];omega)];rfl),hsz,if_pos rfl]
theorem half_len {s:ByteArray}{start:Nat}{first:Int}:∀ (k i:Nat) (sec:Int),(halfL s start first k i sec).2.2=true→(halfL s start first k i sec).2.1=start+12
 | 0,_,_,_=>rfl
 | k+1,i,sec,h=>by
  rw [halfL] at h ⊢
  split at h
  ·cases h
  ·rename_i hz
   rw [if_neg hz]
   split at h
   ·rename_i h0
    rw [if_pos h0]
    split at h
    ·rename_i h1;rw [if_pos h1];exact half_len k _ _ h
    ·cases h
   ·rename_i h0
    rw [if_neg h0]
    split at h
    ·rename_i h1
     rw [if_pos h1]
     split at h
     ·rename_i h2;rw [if_pos h2];exact half_len k _ _ h
     ·cases h
    ·rename_i h1
     rw [if_neg h1]
     cases hd:hexV (byteAt s (start+6+i)) with
     | none=>rw [hd] at h;cases h
     | some d =>
      rw [hd] at h
      simp only at h ⊢
      split at h
      ·rename_i h2;rw [if_pos h2];exact half_len k _ _ h
      ·cases h
theorem uni_len {s:ByteArray}{start:Nat}:∀ (k i:Nat) (ch:Int),(uniL s start k i ch).2.2=true→(start:Int)+6≤(uniL s start k i ch).2.1
 | 0,_,ch,h=>by
  rw [uniL] at h ⊢
  split at h
  ·rename_i h0;rw [if_pos h0];exact Int.le_refl _
  ·rename_i h0
   rw [if_neg h0]
   split at h
   ·rename_i h1;rw [if_pos h1];exact Int.le_refl _
   ·rename_i h1
    rw [if_neg h1,half_len _ _ _ h]
    omega
 | k+1,i,ch,h=>by
  rw [uniL] at h ⊢
  split at h
  ·cases h
  ·rename_i hz
   rw [if_neg hz]
   cases hd:hexV (byteAt s (start+2+i)) with
   | none=>rw [hd] at h;cases h
   | some d =>
    rw [hd] at h
    simp only at h ⊢
    split at h
    ·rename_i h1
     rw [if_pos h1]
     split at h
     ·cases h
     ·rename_i h2;rw [if_neg h2];exact uni_len k _ _ h
    ·rename_i h1
     rw [if_neg h1]
     exact uni_len k _ _ h
theorem rune_short {r:Int} (h0:0≤r) (h1:r≤127):(Lib.encodeRune r).length=1:=by rw [Lib.encodeRune,Lib.encodeRuneZ_one h0 h1];rfl
theorem rune_four (r:Int):(Lib.encodeRune r).length≤4:=by
 unfold Lib.encodeRune Lib.encodeRuneZ
 rw [List.length_map]
 repeat' split
 all_goals simp
theorem escV_len {s:ByteArray}{a:Nat} (h:(escV s a).2.2=true):((Lib.encodeRune (escV s a).1).length:Int)+a≤(escV s a).2.1:=by
 unfold escV at h ⊢
 split at h
 ·cases h
 ·rename_i hz
  rw [if_neg hz]
  unfold escC at h ⊢
  have one:∀ r:Int,0≤r→r≤127→((Lib.encodeRune r).length:Int)+a≤a+2:=fun r h0 h1=>by rw [rune_short h0 h1];omega
  split at h
  ·rename_i e;rw [if_pos e];exact one _ (by simp) (by simp)
  ·rename_i e;rw [if_neg e]
   split at h
   ·rename_i e;rw [if_pos e];exact one _ (by simp) (by simp)
   ·rename_i e;rw [if_neg e]
    split at h
    ·rename_i e;rw [if_pos e];exact one _ (by simp) (by simp)
    ·rename_i e;rw [if_neg e]
     split at h
     ·rename_i e;rw [if_pos e];exact one _ (by simp) (by simp)
     ·rename_i e;rw [if_neg e]
      split at h
      ·rename_i e;rw [if_pos e];exact one _ (by simp) (by simp)
      ·rename_i e;rw [if_neg e]
       split at h
       ·rename_i e;rw [if_pos e];exact one _ (by simp) (by simp)
       ·rename_i e;rw [if_neg e]
        split at h
        ·rename_i e;rw [if_pos e];exact one _ (by simp) (by simp)
        ·rename_i e;rw [if_neg e]
         split at h
         ·rename_i e;rw [if_pos e];exact one _ (by simp) (by simp)
         ·rename_i e;rw [if_neg e]
          split at h
          ·rename_i e;rw [if_pos e]
           have:=uni_len _ _ _ h
           have:=rune_four (uniL s a 4 0 0).1
           omega
          ·cases h
theorem strL_len {s:ByteArray}:∀ (k a:Nat) (cs:Bys),a≤s.size→(strL s k a cs).2.2=true→((strL s k a cs).1.length:Int)+a+1≤cs.length+(strL s k a cs).2.1
 | 0,a,cs,_,h=>by simp [strL] at h
 | k+1,a,cs,hle,h=>by
  rw [strL] at h ⊢
  split at h
  ·cases h
  ·rename_i hz
   rw [if_neg hz]
   split at h
   ·rename_i h34
    rw [if_pos h34]
    simp only
    omega
   ·rename_i h34
    rw [if_neg h34]
    split at h
    ·cases h
    ·rename_i h32
     rw [if_neg h32]
     split at h
     ·rename_i h92
      rw [if_pos h92]
      split at h
      ·rename_i hok
       rw [if_pos hok]
       have hl:=escV_len hok
       obtain ⟨_,_,q,hq,hq1,hq2⟩:=esc_good (s:=s) (a:=a) (by omega) hok
       rw [hq] at hl
       rw [hq,Int.toNat_natCast] at h ⊢
       have:=strL_len k q _ hq2 h
       rw [List.length_append] at this
       omega
      ·cases h
     ·rename_i h92
      rw [if_neg h92]
      split at h
      ·cases h
      ·rename_i hf
       rw [if_neg hf]
       have ht:=tail_place (s:=s) (followV (byteAt s a)).2.2.toNat (a+1) (followV (byteAt s a)).1 (followV (byteAt s a)).2.1 (by omega)
       split at h
       ·rename_i hok
        rw [if_pos hok]
        have:=strL_len k _ _ ht.2 h
        rw [List.length_append,List.length_take,List.length_drop,size_list] at this
        omega
       ·cases h
theorem esc_six (c:UInt8):(escB c).length≤6:=by
 unfold escB
 repeat' split
 all_goals simp
theorem flat_six (l:Bys):(l.flatMap escB).length≤6 * l.length:=by
 induction l with
 | nil=>simp
 | cons c l ih =>
  have:=esc_six c
  rw [List.flatMap_cons,List.length_append,List.length_cons]
  omega
theorem strAt_in {s:ByteArray}{a:Nat} (h:a < s.size) (hok:(strAt s a).2.2=true):UStr (strAt s a).1∧(quoteL (strAt s a).1).length+6 * a≤6 * (strAt s a).2.1:=by
 have hg:=strAt_go h hok
 have h1:=strL_len (s:=s) (s.size+1) (a+1) [] (by omega) hok
 have h2:=str_chunks (s:=s) (s.size+1) (a+1) [] (by omega) UStr.nil hok
 refine ⟨h2,?_⟩
 have h3:=flat_six (strAt s a).1
 unfold strAt at hg h3 ⊢
 simp only at hg h3 ⊢
 simp only [quoteL,List.length_cons,List.length_append,List.length_nil] at h1 ⊢
 omega
theorem keyAt_in {s:ByteArray}{a:Nat} (ha:a≤s.size) (hok:(keyAt s a).2.2=true):UStr (keyAt s a).1∧(quoteL (keyAt s a).1).length+6 * a+6≤6 * (keyAt s a).2.1:=by
 have h1:=blk_le ha
 unfold keyAt at hok ⊢
 split at hok
 ·rename_i h34
  rw [if_pos h34]
  have hlt:blk s a < s.size:=byte_pos (by rw [h34];omega)
  split at hok
  ·rename_i hs
   rw [if_pos hs]
   have h2:=strAt_go hlt hs
   have h3:=blk_le h2.2
   have h4:=strAt_in hlt hs
   split at hok
   ·rename_i h58
    rw [if_pos h58]
    simp only
    exact ⟨h4.1,by omega⟩
   ·cases hok
  ·cases hok
 ·cases hok
theorem dec_len:∀ (k u:Nat),u < 10 ^ (k+1)→(Lib.decDigits u).length≤k+1
 | 0,u,h=>by rw [dec_small (by omega)];simp
 | k+1,u,h=>by
  by_cases h10:u < 10
  ·rw [dec_small h10];simp
  ·rw [dec_big h10,List.length_append,List.length_singleton]
   have:=dec_len k (u / 10) (by rw [Nat.pow_succ] at h;omega)
   omega
theorem parseM_lt (M:Nat):∀ (l:Bys) (acc v:Nat),Lib.parseUintM M acc l = .ok v→v < (acc+1) * 10 ^ l.length
 | [],acc,v,h=>by
  rw [Lib.parseUintM] at h
  cases h
  simp
 | c :: r,acc,v,h=>by
  rw [Lib.parseUintM] at h
  split at h
  ·rename_i hd
   split at h
   ·cases h
   ·split at h
    ·cases h
    ·have:=parseM_lt M r _ _ h
     have h2:(acc * 10+(c.toNat - 48)+1) * 10 ^ r.length≤((acc+1) * 10) * 10 ^ r.length:=Nat.mul_le_mul_right _ (by omega)
     rw [List.length_cons,Nat.pow_succ,Nat.mul_comm (10 ^ r.length) 10,← Nat.mul_assoc]
     omega
  ·cases h
theorem dec_of_parse {l:Bys}{u:Nat} (h:Lib.parseUintB 64 l = .ok u):(Lib.decDigits u).length≤l.length:=by
 unfold Lib.parseUintB at h
 split at h
 ·cases h
 ·rename_i hne
  have:=parseM_lt _ _ _ _ h
  cases l with
  | nil=>exact absurd rfl hne
  | cons c r=>exact dec_len r.length u (by simpa using this)
theorem itoa_len {l:Bys}{n:Int} (h:parsedV l=some n):(Lib.itoa n).length≤l.length:=by
 unfold parsedV at h
 split at h
 ·rename_i v hv
  cases h
  unfold Lib.parseIntB at hv
  cases l with
  | nil=>cases hv
  | cons c r =>
   simp only at hv
   split at hv
   ·cases hv
   ·cases hv
   ·rename_i u hu
    have hu:=dec_of_parse hu
    split at hv
    ·cases hv
    ·split at hv
     ·cases hv
     ·cases hv
      by_cases h45:c.toNat=45
      ·rw [if_pos h45]
       rw [if_pos (.inr h45)] at hu
       unfold Lib.itoa
       split
       ·rw [List.length_cons,List.length_cons,Int.natAbs_neg,Int.natAbs_natCast]
        omega
       ·rename_i hneg
        have:u=0:=by omega
        subst this
        rw [List.length_cons]
        simp only [Int.natCast_zero,Int.neg_zero,Int.toNat_zero]
        omega
      ·rw [if_neg h45]
       unfold Lib.itoa
       rw [if_neg (by omega),Int.toNat_natCast]
       have:(if c.toNat=43∨c.toNat=45 then r else c :: r).length≤(c :: r).length:=by split <;> simp
       omega
 ·cases h
theorem num_in {s:ByteArray}{p:Nat}{n:Int} (hp:p≤s.size) (h:(numL s p).1=some n):(Lib.itoa n).length+p≤(numL s p).2:=by
 have hgo:=num_go (s:=s) (p:=p) (by rw [h];rfl)
 unfold numL at h hgo ⊢
 obtain ⟨b,hb⟩:∃ b,(if byteAt s p=45 then p+1 else p)=b:=⟨_,rfl⟩
 rw [hb] at h hgo ⊢
 unfold numAt at h hgo ⊢
 split at h
 ·rename_i hd
  rw [if_pos hd] at hgo ⊢
  cases hq:parsedV (s.extract p (numEnd s b)).data.toList with
  | some m =>
   rw [hq] at h hgo
   simp only [numP] at h hgo ⊢
   cases h
   have:=itoa_len hq
   rw [size_list,ByteArray.size_extract] at this
   omega
  | none=>rw [hq] at h;cases h
 ·cases h
end Go.Proofs.Tryz
