import Derived.Test.YtfocepfmpnpaiaaGreatDoorYi2
import Derived.Lib.ItoaLen
import Derived.Lib.OthersKept
import Derived.Lib.AppendStr
import Derived.Deep.LoopGhost
set_option linter.all false
namespace Go.Proofs.Tryz
set_option maxHeartbeats 16000000
open Go.RowKit
set_option maxRecDepth 10000
structure Tgd (t:Tok):Prop where
 ok:Okt t
 gt:Gt t
 var:t.kind=4→t.text.data.toList≠[]∧∀ c∈t.text.data.toList,(isLetterB c || isDigitB c)=true
 nam:t.kind=2→t.text.data.toList≠[]
 num:t.kind=5→t.text.data.toList≠[]∧t.text.size≤18∧∀ c∈t.text.data.toList,isDigitB c=true
theorem tgd_bad (p:Nat) (k:Int) (hk:k=0∨k=1):Tgd ⟨k,⟨#[]⟩,(p:Nat)⟩:=by
 have h3:∀ m:Int,m≠0→m≠1→¬ (⟨k,⟨#[]⟩,(p:Nat)⟩:Tok).kind=m:=fun m h0 h1 e=>by
  have e:k=m:=e
  omega
 exact ⟨⟨by show (⟨#[]⟩:ByteArray).size≤2000;decide,fun e=>absurd e (h3 3 (by decide) (by decide)),fun e=>absurd e (h3 7 (by decide) (by decide)),fun e=>(e.elim (fun e=>absurd e (h3 3 (by decide) (by decide))) (fun e=>absurd e (h3 7 (by decide) (by decide)))),by show 0≤k;omega,by show k≤7;omega,by show (0:Int)≤(p:Nat);omega,fun e=>absurd e (h3 2 (by decide) (by decide))⟩,⟨fun e=>absurd e (h3 5 (by decide) (by decide)),fun e=>absurd e (h3 2 (by decide) (by decide))⟩,fun e=>absurd e (h3 4 (by decide) (by decide)),fun e=>absurd e (h3 2 (by decide) (by decide)),fun e=>absurd e (h3 5 (by decide) (by decide))⟩
theorem word_clean {l:List UInt8} (h:isWordB l=true):32 ∉ l∧l≠[]:=by
 unfold isWordB at h
 simp only [Bool.or_eq_true,beq_iff_eq,or_assoc] at h
 rcases h with rfl | rfl | rfl | rfl | rfl | rfl | rfl | rfl | rfl | rfl | rfl | rfl | rfl | rfl | rfl | rfl | rfl <;> decide
theorem name_ne {l:List UInt8} (h:∀ c∈l,(isLetterB c || isDigitB c)=true):l≠[40]∧l≠[34]:=by
 constructor <;> intro e <;> subst e
 ·have:=h 40 (.head _);revert this;decide
 ·have:=h 34 (.head _);revert this;decide
theorem tgd_named {k:Int} (hk:k=2∨k=4) {x:ByteArray}{p:Nat} (hx:∀ c∈x.data.toList,(isLetterB c || isDigitB c)=true):Tgd (namedT k x (p:Nat)):=by
 unfold namedT namedB
 split
 ·exact tgd_bad p 1 (.inr rfl)
 ·rename_i hs
  have hne:x.data.toList≠[]:=fun e=>hs (.inl e)
  have h20:x.size≤20:=by omega
  split
  ·rename_i hw
   show Tgd ⟨3,x,(p:Nat)⟩
   exact ⟨⟨by show x.size≤2000;omega,fun _=>hw.2,(fun e=>by cases e),fun _=>word_clean hw.2,by simp,by simp,by show (0:Int)≤(p:Nat);omega,(fun e=>by cases e)⟩,⟨(fun e=>by cases e),(fun e=>by cases e)⟩,(fun e=>by cases e),(fun e=>by cases e),(fun e=>by cases e)⟩
  ·show Tgd ⟨k,x,(p:Nat)⟩
   rcases hk with rfl | rfl
   ·exact ⟨⟨by show x.size≤2000;omega,(fun e=>by cases e),(fun e=>by cases e),(fun e=>by rcases e with e | e <;> cases e),by simp,by simp,by show (0:Int)≤(p:Nat);omega,fun _=>hx⟩,⟨(fun e=>by cases e),fun _=>name_ne hx⟩,(fun e=>by cases e),fun _=>hne,(fun e=>by cases e)⟩
   ·exact ⟨⟨by show x.size≤2000;omega,(fun e=>by cases e),(fun e=>by cases e),(fun e=>by rcases e with e | e <;> cases e),by simp,by simp,by show (0:Int)≤(p:Nat);omega,(fun e=>by cases e)⟩,⟨(fun e=>by cases e),(fun e=>by cases e)⟩,fun _=>⟨hne,hx⟩,(fun e=>by cases e),(fun e=>by cases e)⟩
theorem nameLen_word {c:UInt8}{l:List UInt8} (h:c∈l.take (nameLen l)):(isLetterB c || isDigitB c)=true:=by
 cases l with
 | nil=>simp at h
 | cons d l =>
  have h:c∈(d :: l).take (if isLetterB d then nameLenR l+1 else 0):=h
  split at h
  ·rename_i hd
   rw [List.take_succ_cons] at h
   rcases List.mem_cons.1 h with rfl | h
   ·simp [hd]
   ·exact nameLenR_word h
  ·simp at h
theorem extract_nm {s:ByteArray}{a n:Nat}{l:List UInt8} (h:s.data.toList.drop a=l):(s.extract a (a+n)).data.toList=l.take n:=by
 rw [extract_list,h]
 congr 1
 omega
theorem digits_some {l:List UInt8} (h1:∀ c∈l,isDigitB c=true) (h2:l≠[]) (h3:l.length≤18):∃ n,digitsVal l=some n:=by
 cases l with
 | nil=>exact absurd rfl h2
 | cons c l =>
  exact ⟨_,if_pos ⟨h3,List.all_eq_true.2 h1⟩⟩
theorem tgd_long {s:ByteArray}{a:Nat} (ha:a < s.size) (hs:s.size≤2000):Tgd (longT RSt s a).1:=by
 unfold longT
 cases hd:s.data.toList.drop a with
 | nil=>exact tgd_bad a 1 (.inr rfl)
 | cons c l =>
  simp only
  split
  ·exact tgd_named (.inl rfl) (fun q hq=>by rw [extract_nm hd] at hq;exact nameLen_word hq)
  ·split
   ·have hd2:s.data.toList.drop (a+1)=l:=by
     have:(s.data.toList.drop a).drop 1=l:=by rw [hd];rfl
     rw [List.drop_drop] at this
     exact this
    exact tgd_named (.inr rfl) (fun q hq=>by rw [extract_nm hd2] at hq;exact nameLen_word hq)
   ·split
    ·rename_i hc
     split
     ·rename_i h18
      have e:=extract_nm (n:=digLen (c :: l)) hd
      have hdg:∀ q∈(s.extract a (a+digLen (c :: l))).data.toList,isDigitB q=true:=fun q hq=>by rw [e] at hq;exact digLen_take hq
      have hle:=digLen_le (c :: l)
      have hlen:(s.extract a (a+digLen (c :: l))).data.toList.length=digLen (c :: l):=by rw [e,List.length_take];omega
      have hpos:0 < digLen (c :: l):=by unfold digLen;rw [if_pos hc];omega
      have hne:(s.extract a (a+digLen (c :: l))).data.toList≠[]:=fun e2=>by rw [e2] at hlen;simp at hlen;omega
      have hsz:(s.extract a (a+digLen (c :: l))).size≤18:=by rw [← size_list];omega
      exact ⟨⟨by show (s.extract a (a+digLen (c :: l))).size≤2000;omega,(fun e=>by cases e),(fun e=>by cases e),(fun e=>by rcases e with e | e <;> cases e),by simp,by simp,by show (0:Int)≤(a:Nat);omega,(fun e=>by cases e)⟩,⟨fun _=>digits_some hdg hne (by rw [hlen];exact h18),(fun e=>by cases e)⟩,(fun e=>by cases e),(fun e=>by cases e),fun _=>⟨hne,hsz,hdg⟩⟩
     ·exact tgd_bad a 1 (.inr rfl)
    ·split
     ·split
      ·rename_i hok
       have hl:=strL_len (s:=s) (s.size+1) (a+1) [] (by omega) hok
       obtain ⟨p,h1,h2,h3⟩:=strT_fit (s:=s) (s.size+1) (a+1) [] hok
       have hsz:(RSt s a).1.size≤2000:=by
        show (⟨(strL s (s.size+1) (a+1) []).1.toArray⟩:ByteArray).size≤2000
        rw [← size_list]
        simp only [List.length_nil] at hl
        simp
        omega
       exact ⟨⟨hsz,(fun e=>by cases e),(fun e=>by cases e),(fun e=>by rcases e with e | e <;> cases e),by simp,by simp,by show (0:Int)≤(a:Nat);omega,(fun e=>by cases e)⟩,⟨(fun e=>by cases e),(fun e=>by cases e)⟩,(fun e=>by cases e),(fun e=>by cases e),(fun e=>by cases e)⟩
      ·exact tgd_bad a 1 (.inr rfl)
     ·exact tgd_bad a 1 (.inr rfl)
theorem tgd_sign {p:ByteArray} (h:p∈signsB) (q:Nat):Tgd ⟨7,p,(q:Nat)⟩:=by
 have hc:(signsB.all fun p=>p.size≤2000 && !isWordB p.data.toList && !p.data.toList.contains 32 && !p.data.toList.isEmpty)=true:=by decide
 have:=List.all_eq_true.1 hc p h
 simp only [Bool.and_eq_true,decide_eq_true_eq,Bool.not_eq_true',List.isEmpty_eq_false_iff] at this
 obtain ⟨⟨⟨h1,h2⟩,h3⟩,h4⟩:=this
 refine ⟨⟨h1,(fun e=>by cases e),fun _=>h2,fun _=>⟨fun hm=>?_,h4⟩,(by show (0:Int)≤7;decide),(by show (7:Int)≤7;decide),(by show (0:Int)≤(q:Nat);omega),(fun e=>by cases e)⟩,⟨(fun e=>by cases e),(fun e=>by cases e)⟩,(fun e=>by cases e),(fun e=>by cases e),(fun e=>by cases e)⟩
 have:p.data.toList.contains 32=true:=List.contains_iff_mem.2 hm
 rw [h3] at this
 cases this
theorem Wf.cons {t:Tok}{l:List Tok} (ht:Gt t) (h:Wf l):Wf (t :: l):=by
 cases l with
 | nil=>exact h.elim
 | cons u l=>exact ⟨ht,h⟩
theorem lexT_good {s:ByteArray} (hs:s.size≤2000):∀ n a,Wf (lexT RSt s n a)∧(∀ t∈lexT RSt s n a,Tgd t)∧(lexT RSt s n a).length≤n+1
 | 0,a=>⟨.inr rfl,fun t ht=>by rw [List.mem_singleton.1 ht];exact tgd_bad a 1 (.inr rfl),by simp [lexT]⟩
 | n+1,a=>by
  rw [lexT]
  split
  ·exact ⟨.inl rfl,fun t ht=>by rw [List.mem_singleton.1 ht];exact tgd_bad _ 0 (.inl rfl),by simp⟩
  ·rename_i hlt
   split
   ·rename_i p hp
    have ih:=lexT_good hs n (a+blanks (s.data.toList.drop a)+p.size)
    have ht:=tgd_sign (List.mem_of_find?_eq_some hp) (a+blanks (s.data.toList.drop a))
    refine ⟨Wf.cons ht.gt ih.1,fun t hm=>?_,by simp only [List.length_cons];omega⟩
    rcases List.mem_cons.1 hm with rfl | hm
    ·exact ht
    ·exact ih.2.1 t hm
   ·have ht:=tgd_long (s:=s) (a:=a+blanks (s.data.toList.drop a)) (by omega) hs
    split
    ·rename_i hk
     exact ⟨.inr hk,fun t hm=>by rw [List.mem_singleton.1 hm];exact ht,by simp⟩
    ·have ih:=lexT_good hs n (longT RSt s (a+blanks (s.data.toList.drop a))).2.toNat
     refine ⟨Wf.cons ht.gt ih.1,fun t hm=>?_,by simp only [List.length_cons];omega⟩
     rcases List.mem_cons.1 hm with rfl | hm
     ·exact ht
     ·exact ih.2.1 t hm
end Go.Proofs.Tryz
namespace Go.Proofs.Tryz
set_option maxHeartbeats 16000000
open Go.RowKit
set_option maxRecDepth 10000
abbrev Bs:=List UInt8
def hexY (n:Nat):UInt8:=if n < 10 then UInt8.ofNat (48+n) else UInt8.ofNat (87+n)
def escY (c:UInt8):Bs :=
 if c=34∨c=92 then [92,c] else if c=8 then [92,98] else if c=9 then [92,116] else if c=10 then [92,110]
 else if c=12 then [92,102] else if c=13 then [92,114] else if c < 32 then [92,117,48,48,hexY (c.toNat / 16),hexY (c.toNat % 16)] else [c]
def quoteY (bs:Bs):Bs:=34 :: (bs.flatMap escY ++ [34])
def litB (v:Nat×Int×ByteArray):Bs:=match v.1 with
 | 0=>[110,117,108,108]
 | 1=>[102,97,108,115,101]
 | 2=>[116,114,117,101]
 | 3=>Lib.itoa (digN v.2.2)
 | _=>quoteY v.2.2.data.toList
def kindT:Tn→Nat
 | .done _=>99
 | .ask _ kind _=>kind
def valT:Tn→Nat×Int×ByteArray
 | .done _=>(0,0,⟨#[]⟩)
 | .ask _ _ k=>(payN (k 0)).val
def brk (l:List Bs):List Bs:=[40] :: (l ++ [[41]])
def primT (kind:Nat) (l:List Bs):List Bs:=if kind=15∨kind=18∨kind=19 then brk l else l
def semiT (n:Nat) (f:Nat→List Bs):List Bs:=(List.range n).flatMap fun j=>(if 0 < j then [[59]] else []) ++ f j
def parT (n:Nat) (l:List ByteArray):List Bs:=(List.range n).flatMap fun j=>[if j=0 then [40] else [59],(l.getD j ⟨#[]⟩).data.toList]
def keyT (x:ByteArray) (l:List Bs):List Bs:=if x.data.toList=[40] then brk l else if x.data.toList=[34] then l else [x.data.toList]
def memY (i:Nat) (x:ByteArray) (f:Nat→List Bs):List Bs:=(if 0 < i then [[44]] else []) ++ (keyT x (f (2 * i)) ++ [58] :: f (2 * i+1))
def memsY (n:Nat) (l:List ByteArray) (f:Nat→List Bs):List Bs:=(List.range n).flatMap fun i=>memY i (l.getD i ⟨#[]⟩) f
def varT (y:Pyl):Bs:=36 :: y.name.data.toList
def openT (kind:Nat) (y:Pyl) (f:Nat→List Bs) (g:Nat→Nat):List Bs:=match kind with
 | 12=>f 0 ++ y.name.data.toList :: f 1
 | 13=>[45] :: f 0
 | 14=>[116,114,121] :: (f 0 ++ (if y.cnt=1 then [] else [99,97,116,99,104] :: f 1))
 | 16=>primT (g 0) (f 0) ++ [97,115] :: varT y :: [124] :: f 1
 | 17=>[108,97,98,101,108] :: varT y :: [124] :: f 0
 | 20=>[100,101,102] :: y.name.data.toList :: (parT y.names.length y.names ++ ((if 0 < y.names.length then [[41]] else []) ++ [58] :: (f 0 ++ [59] :: f 1)))
 | _=>[]
def tokN (kind:Nat) (y:Pyl) (f:Nat→List Bs) (g:Nat→Nat):List Bs:=match kind with
 | 0=>[[46]]
 | 1=>[[46,46]]
 | 2=>[litB y.val]
 | 3=>[varT y]
 | 4=>[[98,114,101,97,107],varT y]
 | 5=>(if g 0=0 then [] else primT (g 0) (f 0)) ++ [[46],y.name.data.toList]
 | 6=>primT (g 0) (f 0) ++ [91] :: (f 1 ++ [[93]])
 | 7=>primT (g 0) (f 0) ++ [[91],[93]]
 | 8=>primT (g 0) (f 0) ++ [[63]]
 | 9=>[91] :: ((if y.cnt=0 then [] else f 0) ++ [[93]])
 | 10=>[123] :: (memsY y.names.length y.names f ++ [[125]])
 | 11=>y.name.data.toList :: (if 0 < y.cnt then brk (semiT y.cnt f) else [])
 | 15=>[105,102] :: (f 0 ++ [116,104,101,110] :: (f 1 ++ [101,108,115,101] :: (f 2 ++ [[101,110,100]])))
 | 18=>[114,101,100,117,99,101] :: (primT (g 0) (f 0) ++ [97,115] :: varT y :: brk (semiT 2 fun i=>f (i+1)))
 | 19=>[102,111,114,101,97,99,104] :: (primT (g 0) (f 0) ++ [97,115] :: varT y :: brk (semiT 3 fun i=>f (i+1)))
 | _=>brk (openT kind y f g)
def toksT:Tn→List Bs
 | .done _=>[]
 | .ask _ kind k=>tokN kind (payN (k 0)) (fun i=>toksT (k (i+1))) (fun i=>kindT (k (i+1)))
def lenL (l:List Bs):Nat:=(l.map fun x=>x.length+1).sum
theorem lenL_nil:lenL []=0:=rfl
theorem lenL_cons (x:Bs) (l:List Bs):lenL (x :: l)=x.length+1+lenL l:=by simp [lenL]
theorem lenL_app (a b:List Bs):lenL (a ++ b)=lenL a+lenL b:=by simp [lenL]
theorem lenL_brk (l:List Bs):lenL (brk l)=lenL l+4:=by simp [brk,lenL_cons,lenL_app,lenL_nil];omega
theorem lenL_prim (k:Nat) (l:List Bs):lenL (primT k l)≤lenL l+4:=by
 unfold primT
 split
 ·rw [lenL_brk];exact Nat.le_refl _
 ·omega
theorem bsize (x:ByteArray):x.data.toList.length=x.size:=rfl
def GNm (x:ByteArray):Prop:=x.data.toList≠[]∧(∀ c∈x.data.toList,(isLetterB c || isDigitB c)=true)∧x.size≤2000
def opsL:List Bs:=[[124],[44],[47,47],[124,61],[61],[111,114],[97,110,100],[61,61],[33,61],[60],[60,61],[62],[62,61],[43],[45],[42],[47],[37]]
def cntOk (kind cnt names:Nat):Prop:=match kind with
 | 0=>cnt=0
 | 1=>cnt=0
 | 2=>cnt=0
 | 3=>cnt=0
 | 4=>cnt=0
 | 5=>cnt=1
 | 6=>cnt=2
 | 7=>cnt=1
 | 8=>cnt=1
 | 9=>cnt≤1
 | 10=>cnt=2 * names
 | 11=>True
 | 12=>cnt=2
 | 13=>cnt=1
 | 14=>cnt=1∨cnt=2
 | 15=>cnt=3
 | 16=>cnt=2
 | 17=>cnt=1
 | 18=>cnt=3
 | 19=>cnt=4
 | 20=>cnt=2
 | _=>False
def nameK (kind:Nat):Bool:=[3,4,5,11,16,17,18,19,20].contains kind
theorem no_name {k:Nat}{p:Prop} (h:nameK k=false):nameK k=true→p:=fun e=>by rw [h] at e;cases e
def GVal (v:Nat×Int×ByteArray):Prop:=v.1≤4∧(v.1=3→v.2.2.data.toList≠[]∧v.2.2.size≤18∧∀ c∈v.2.2.data.toList,isDigitB c=true)∧(v.1=4→v.2.2.size≤2000)
structure GdN (kind:Nat) (y:Pyl) (g:Nat→Nat) (v:Nat→Nat×Int×ByteArray):Prop where
 cnt:cntOk kind y.cnt y.names.length
 few:y.cnt≤6000
 fewn:y.names.length≤3000
 pos:0≤y.num
 name:nameK kind=true→GNm y.name
 op:kind=12→y.name.data.toList∈opsL
 names:kind=20→∀ x∈y.names,GNm x
 mems:kind=10→∀ i x,y.names[i]? = some x→x.data.toList=[40]∨(g (2 * i)=2∧(v (2 * i)).1=4∧(x.data.toList=[34]∨(GNm x∧(v (2 * i)).2.2=x)))
 val:kind=2→GVal y.val
def Gdt:Tn→Prop
 | .done _=>False
 | .ask _ kind k=>GdN kind (payN (k 0)) (fun i=>kindT (k (i+1))) (fun i=>valT (k (i+1)))∧∀ i,i < (payN (k 0)).cnt→Gdt (k (i+1))
theorem Gdt.mk {kind:Nat}{y:Pyl}{kids:List Tn} (h:GdN kind { y with cnt:=kids.length } (fun i=>kindT (kids.getD i Tn.no)) (fun i=>valT (kids.getD i Tn.no))) (hk:∀ t∈kids,Gdt t):Gdt (nd kind y kids) :=
 ⟨h,fun i hi=>by
  have hi:i < kids.length:=hi
  show Gdt (kids.getD i Tn.no)
  have:kids.getD i Tn.no=kids[i]:=by simp [hi]
  rw [this]
  exact hk _ (List.getElem_mem hi)⟩
theorem GdN.plain {kind:Nat}{y:Pyl}{g:Nat→Nat}{v:Nat→Nat×Int×ByteArray} (h:cntOk kind y.cnt y.names.length) (hc:y.cnt≤6000) (hn:y.names.length≤3000) (hp:0≤y.num) (hk:kind≠2∧kind≠10∧kind≠12∧kind≠20) (hname:nameK kind=true→GNm y.name):GdN kind y g v :=
 ⟨h,hc,hn,hp,hname,fun e=>absurd e hk.2.2.1,fun e=>absurd e hk.2.2.2,fun e=>absurd e hk.2.1,fun e=>absurd e hk.1⟩
def AG (L:List Tok):Prop:=(∀ t∈L,Tgd t)∧L.length≤3000
def wL (L:List Tok):Nat:=(L.map fun t=>6 * t.text.size+40).sum
theorem wL_cons (t:Tok) (l:List Tok):wL (t :: l)=6 * t.text.size+40+wL l:=by simp [wL]
theorem AG.tail {t:Tok}{l:List Tok} (h:AG (t :: l)):AG l:=⟨fun u hu=>h.1 u (.tail _ hu),by have:=h.2;simp only [List.length_cons] at this;omega⟩
structure Stp (l l':List Tok) (c:Nat):Prop where
 ag:AG l'
 lt:l'.length < l.length
 le:c+wL l'≤wL l
structure StE (l l':List Tok) (c:Nat):Prop where
 ag:AG l'
 lt:l'.length≤l.length
 le:c+wL l'≤wL l
theorem acc_stp {s:ByteArray}{l l1:List Tok} (hl:AG l) (h:acc s l=(true,l1)):Stp l l1 40:=by
 unfold acc at h
 split at h
 ·split at h
  ·simp only [Prod.mk.injEq,true_and] at h
   rw [← h]
   exact ⟨hl.tail,by simp,by simp only [wL_cons];omega⟩
  ·simp at h
 ·simp at h
theorem exq_stp {s:ByteArray}{l l1:List Tok}{u:Unit} (hl:AG l) (h:exq s l = .ok (u,l1)):Stp l l1 40:=by
 unfold exq at h
 split at h
 ·rename_i l' e
  simp only [Except.ok.injEq,Prod.mk.injEq,true_and] at h
  rw [← h]
  exact acc_stp hl e
 ·cases h
theorem exk_stp {k:Int}{l l1:List Tok}{t:Tok} (hl:AG l) (h:exk k l = .ok (t,l1)):Stp l l1 (6 * t.text.size+40)∧Tgd t∧t.kind=k:=by
 unfold exk at h
 split at h
 ·split at h
  ·rename_i hk
   simp only [Except.ok.injEq,Prod.mk.injEq] at h
   obtain ⟨rfl,rfl⟩:=h
   exact ⟨⟨hl.tail,by simp,by simp only [wL_cons];omega⟩,hl.1 _ (.head _),hk⟩
  ·cases h
 ·cases h
theorem Tgd.name {t:Tok} (h:Tgd t) (hk:t.kind=2∨t.kind=4):GNm t.text:=by
 rcases hk with hk | hk
 ·exact ⟨h.nam hk,h.ok.name hk,h.ok.size⟩
 ·exact ⟨(h.var hk).1,(h.var hk).2,h.ok.size⟩
def GoodP (P:Ps):Prop:=∀ c l t l',AG l→P c l = .ok (t,l')→Stp l l' (lenL (toksT t))∧Gdt t
theorem names_stp:∀ (m:Nat) (l:List Tok) (x:List ByteArray) (l1:List Tok),AG l→namesS m l = .ok (x,l1)→StE l l1 (lenL (x.map fun n=>n.data.toList)+2 * x.length)∧(∀ n∈x,GNm n)∧x.length+l1.length≤l.length
 | 0,l,x,l1,_,h=>by cases h
 | m+1,l,x,l1,hl,h=>by
  rw [namesS] at h
  split at h
  ·simp only [Except.ok.injEq,Prod.mk.injEq] at h
   obtain ⟨rfl,rfl⟩:=h
   exact ⟨⟨hl,Nat.le_refl _,by simp [lenL_nil]⟩,fun n hn=>by simp at hn,by simp⟩
  ·rename_i l2 e
   have h0:=acc_stp hl e
   obtain ⟨t,l3,h1,h⟩:=thn_ok h
   obtain ⟨ts,l4,h2,h⟩:=thn_ok h
   obtain ⟨h3,hT,hk⟩:=exk_stp h0.ag h1
   obtain ⟨h4,hG,hN⟩:=names_stp m _ _ _ h3.ag h2
   simp only [Except.ok.injEq,Prod.mk.injEq] at h
   obtain ⟨rfl,rfl⟩:=h
   have:=h0.lt;have:=h0.le;have:=h3.lt;have:=h3.le;have:=h4.lt;have:=h4.le
   refine ⟨⟨h4.ag,by omega,?_⟩,fun n hn=>?_,by simp only [List.length_cons];omega⟩
   ·simp only [List.map_cons,lenL_cons,List.length_cons,bsize]
    omega
   ·rcases List.mem_cons.1 hn with rfl | hn
    ·exact hT.name (.inl hk)
    ·exact hG n hn
theorem params_stp {l l1:List Tok}{x:List ByteArray} (hl:AG l) (h:paramsS l = .ok (x,l1)):StE l l1 (lenL (x.map fun n=>n.data.toList)+2 * x.length+(if 0 < x.length then 2 else 0))∧(∀ n∈x,GNm n)∧x.length+l1.length≤l.length:=by
 unfold paramsS at h
 split at h
 ·simp only [Except.ok.injEq,Prod.mk.injEq] at h
  obtain ⟨rfl,rfl⟩:=h
  exact ⟨⟨hl,Nat.le_refl _,by simp [lenL_nil]⟩,fun n hn=>by simp at hn,by simp⟩
 ·rename_i l2 e
  have h0:=acc_stp hl e
  obtain ⟨t,l3,h1,h⟩:=thn_ok h
  obtain ⟨ts,l4,h2,h⟩:=thn_ok h
  obtain ⟨_,l5,h3,h⟩:=thn_ok h
  obtain ⟨a1,hT,hk⟩:=exk_stp h0.ag h1
  obtain ⟨a2,hG,hN⟩:=names_stp _ _ _ _ a1.ag h2
  have a3:=exq_stp a2.ag h3
  simp only [Except.ok.injEq,Prod.mk.injEq] at h
  obtain ⟨rfl,rfl⟩:=h
  have:=h0.lt;have:=h0.le;have:=a1.lt;have:=a1.le;have:=a2.lt;have:=a2.le;have:=a3.lt;have:=a3.le
  refine ⟨⟨a3.ag,by omega,?_⟩,fun n hn=>?_,by simp only [List.length_cons];omega⟩
  ·simp only [List.map_cons,lenL_cons,List.length_cons,bsize]
   split <;> omega
  ·rcases List.mem_cons.1 hn with rfl | hn
   ·exact hT.name (.inl hk)
   ·exact hG n hn
end Go.Proofs.Tryz
namespace Go.Proofs.Tryz
set_option maxHeartbeats 16000000
open Go.RowKit
set_option maxRecDepth 10000
def wordT:Bs→Bool
 | []=>false
 | c :: _=>isLetterB c || isDigitB c || c == 36
def putT (s:Bs×Bool) (x:Bs):Bs×Bool:=(s.1 ++ ((if wordT x && s.2 then [32] else []) ++ x),wordT x)
def putL (s:Bs×Bool) (l:List Bs):Bs×Bool:=l.foldl putT s
theorem putL_app (s:Bs×Bool) (a b:List Bs):putL s (a ++ b)=putL (putL s a) b:=by simp [putL]
theorem putL_cons (s:Bs×Bool) (x:Bs) (l:List Bs):putL s (x :: l)=putL (putT s x) l:=rfl
theorem putT_len (s:Bs×Bool) (x:Bs):(putT s x).1.length≤s.1.length+(x.length+1):=by
 unfold putT
 simp only [List.length_append]
 split <;> simp <;> omega
theorem putL_len:∀ (l:List Bs) (s:Bs×Bool),(putL s l).1.length≤s.1.length+lenL l
 | [],s=>by simp [putL,lenL_nil]
 | x :: l,s=>by
  have h1:=putL_len l (putT s x)
  have h2:=putT_len s x
  rw [putL_cons,lenL_cons]
  omega
structure PlW (w:World) (wb:Nat) (s:Bs×Bool):Prop where
 has:∃ ov,w.heap[wb]? = some (.cells #[ov,.bool s.2] 67 (0,0))∧w.ownsRow (wb+1) 5 1 ov s.1.length (Lib.byteCells s.1)
 tab:Lib.TabBelow Tryz.prog wb w "internal/strconv.uint64pow10" .u64 Lib.pow10Tab
structure KpW (wb:Nat) (w w':World):Prop where
 low:Below wb w w'
 oth:Lib.OthersKept 5 (some wb) w w'
section
variable {w w' w1 : World} {wb : Nat} {s : Bs × Bool}
theorem KpW.refl (wb:Nat) (w:World):KpW wb w w:=⟨Below.refl _ _,Lib.OthersKept.refl _ _ _⟩
theorem KpW.trans {a b c:World} (h:KpW wb a b) (k:KpW wb b c):KpW wb a c:=⟨h.low.trans k.low,h.oth.trans k.oth⟩
theorem KpW.alloc (h:KpW wb w w') (hw:wb≤w'.heap.size) (o:Obj):KpW wb w (w'.alloc o):=⟨h.low.alloc hw o,h.oth.alloc o⟩
theorem PlW.lt (h:PlW w wb s):wb < w.heap.size:=by
 obtain ⟨ov,h1,_⟩:=h.has
 exact (Array.getElem?_eq_some_iff.1 h1).1
theorem wown_kind {B e s n:Nat}{v:Value}{xs:List Value} (h:w.ownsRow B e s v n xs):∀ k,v.ownBlock=some k→∃ c fz,w.heap[k]? = some (.cells c e fz):=by
 intro k hk
 rcases h.2 with ⟨rfl,_⟩ | ⟨g,cap,cur,rfl,_,hb,_⟩
 ·cases hk
 ·cases hk
  exact ⟨cur,(0,0),hb⟩
theorem PlW.below (h:PlW w wb s) (k:Below w.heap.size w w'):PlW w' wb s:=by
 have hl:=h.lt
 obtain ⟨ov,h1,h2⟩:=h.has
 exact ⟨⟨ov,(k.block wb hl).trans h1,owns_sameT h2 (fun g e=>k.block g (h2.lt g e).2)⟩,fun w2 h3=>h.tab w2 ((k.mono (by omega)).trans h3)⟩
theorem PlW.alloc (h:PlW w wb s) (o:Obj):PlW (w.alloc o) wb s:=h.below (below_alloc w o)
theorem wtwo {b:Nat}{x y:Value}{t:TypeId} (h:w.heap[b]? = some (.cells #[x,y] t (0,0))):w.cell? ⟨b,0,none⟩=some x∧w.cell? ⟨b,1,none⟩=some y∧w.frozen? ⟨b,0,none⟩=false∧w.frozen? ⟨b,1,none⟩=false∧b < w.heap.size:=by
 refine ⟨?_,?_,?_,?_,(Array.getElem?_eq_some_iff.1 h).1⟩ <;> simp [World.cell?,World.frozen?,h]
theorem wset {g k:Nat}{cs:Array Value}{t:TypeId}{u:Value} (h:w.heap[g]? = some (.cells cs t (0,0))):(w.setCell ⟨g,k,none⟩ u).heap[g]? = some (.cells (cs.setIfInBounds k u) t (0,0)):=by
 have hlt:=(Array.getElem?_eq_some_iff.1 h).1
 have h':w.heap[g] = .cells cs t (0,0):=by simpa [Array.getElem?_eq_getElem hlt] using h
 show (w.heap.modify g _)[g]? = _
 rw [Array.getElem?_eq_getElem (by simpa using hlt),Array.getElem_modify_self,h']
 rfl
end
end Go.Proofs.Tryz
namespace Go.Proofs.Tryz
set_option maxHeartbeats 16000000
open Go.RowKit
set_option maxRecDepth 10000
theorem escY_len (c:UInt8):(escY c).length≤6:=by
 unfold escY
 repeat' split
 all_goals simp
theorem quoteY_len (l:Bs):(quoteY l).length≤6 * l.length+2:=by
 have:(l.flatMap escY).length≤6 * l.length:=by
  induction l with
  | nil=>simp
  | cons c l ih =>
   have:=escY_len c
   rw [List.flatMap_cons,List.length_append,List.length_cons]
   omega
 unfold quoteY
 simp only [List.length_cons,List.length_append,List.length_nil]
 omega
theorem fold_range:∀ (l:List UInt8) (a:Int),(∀ c∈l,isDigitB c=true)→0≤a→0≤l.foldl (fun a c=>a * 10+((c.toNat:Int) - 48)) a∧l.foldl (fun a c=>a * 10+((c.toNat:Int) - 48)) a < (a+1) * 10 ^ l.length
 | [],a,_,h=>by simp;omega
 | c :: l,a,hd,h=>by
  have hc:=hd c (.head _)
  simp only [isDigitB,Bool.and_eq_true,decide_eq_true_eq,UInt8.le_iff_toNat_le] at hc
  have h1:48≤c.toNat:=hc.1
  have h2:c.toNat≤57:=hc.2
  have ih:=fold_range l (a * 10+((c.toNat:Int) - 48)) (fun c hc=>hd c (.tail _ hc)) (by omega)
  refine ⟨ih.1,Int.lt_of_lt_of_le ih.2 ?_⟩
  rw [List.length_cons,Int.pow_succ,Int.mul_comm (10 ^ l.length) 10,← Int.mul_assoc]
  refine Int.mul_le_mul_of_nonneg_right (by omega) ?_
  exact Int.pow_nonneg (by decide)
theorem digN_range {x:ByteArray} (h1:x.size≤18) (h2:∀ c∈x.data.toList,isDigitB c=true):0≤digN x∧digN x < 1000000000000000000:=by
 have h:=fold_range x.data.toList 0 h2 (by decide)
 refine ⟨h.1,Int.lt_of_lt_of_le h.2 ?_⟩
 rw [bsize,Int.zero_add,Int.one_mul]
 have:(10:Int) ^ x.size≤10 ^ 18:=by
  have:=Nat.pow_le_pow_right (n:=10) (by decide) h1
  exact_mod_cast this
 simpa using this
theorem litB_len {v:Nat×Int×ByteArray} (h:GVal v):(litB v).length≤6 * v.2.2.size+22:=by
 obtain ⟨k,n,x⟩:=v
 obtain ⟨hk,hd,hs⟩:=h
 have hk:k≤4:=hk
 match k,hk with
 | 0,_=>simp [litB]
 | 1,_=>simp [litB]
 | 2,_=>simp [litB]
 | 3,_ =>
  have hr:0≤digN x∧digN x < 1000000000000000000:=digN_range (hd rfl).2.1 (hd rfl).2.2
  have:=Lib.itoa_length_le (digN x) (by omega) (by omega)
  show (Lib.itoa (digN x)).length≤6 * x.size+22
  omega
 | 4,_ =>
  have:=quoteY_len x.data.toList
  rw [bsize] at this
  show (quoteY x.data.toList).length≤6 * x.size+22
  omega
theorem lit_good {v:Nat×Int×ByteArray} (h:GVal v):Gdt (litT v)∧lenL (toksT (litT v))≤6 * v.2.2.size+23:=by
 have hl:=litB_len h
 refine ⟨Gdt.mk ⟨rfl,by simp,by simp [Pyl.none],by simp [Pyl.none],no_name (by decide),(fun e=>by cases e),(fun e=>by cases e),(fun e=>by cases e),fun _=>h⟩ (fun t ht=>by simp at ht),?_⟩
 show lenL [litB v]≤_
 simp [lenL_cons,lenL_app,lenL_nil,bsize]
 omega
section
variable (y : Pyl) (a b c d : Tn)
theorem len5:lenL (toksT (nd 5 y [a]))≤lenL (toksT a)+y.name.size+7:=by
 show lenL ((if kindT a=0 then [] else primT (kindT a) (toksT a)) ++ [[46],y.name.data.toList])≤_
 have:=lenL_prim (kindT a) (toksT a)
 split <;> simp [lenL_cons,lenL_app,lenL_nil,bsize] <;> omega
theorem len6:lenL (toksT (nd 6 y [a,b]))≤lenL (toksT a)+lenL (toksT b)+8:=by
 show lenL (primT (kindT a) (toksT a) ++ [91] :: (toksT b ++ [[93]]))≤_
 have:=lenL_prim (kindT a) (toksT a)
 simp [lenL_cons,lenL_app,lenL_nil,bsize]
 omega
theorem len7:lenL (toksT (nd 7 y [a]))≤lenL (toksT a)+8:=by
 show lenL (primT (kindT a) (toksT a) ++ [[91],[93]])≤_
 have:=lenL_prim (kindT a) (toksT a)
 simp [lenL_cons,lenL_app,lenL_nil,bsize]
 omega
theorem len8:lenL (toksT (nd 8 y [a]))≤lenL (toksT a)+6:=by
 show lenL (primT (kindT a) (toksT a) ++ [[63]])≤_
 have:=lenL_prim (kindT a) (toksT a)
 simp [lenL_cons,lenL_app,lenL_nil,bsize]
 omega
theorem len12:lenL (toksT (nd 12 y [a,b]))≤lenL (toksT a)+lenL (toksT b)+y.name.size+5:=by
 show lenL (brk (toksT a ++ y.name.data.toList :: toksT b))≤_
 rw [lenL_brk]
 simp [lenL_cons,lenL_app,lenL_nil,bsize]
 omega
theorem len13:lenL (toksT (nd 13 y [a]))≤lenL (toksT a)+6:=by
 show lenL (brk ([45] :: toksT a))≤_
 rw [lenL_brk]
 simp [lenL_cons,lenL_app,lenL_nil,bsize]
 omega
theorem len14:lenL (toksT (nd 14 y [a]))≤lenL (toksT a)+8:=by
 show lenL (brk ([116,114,121] :: (toksT a ++ [])))≤_
 rw [lenL_brk]
 simp [lenL_cons,lenL_app,lenL_nil,bsize]
 omega
theorem len14':lenL (toksT (nd 14 y [a,b]))≤lenL (toksT a)+lenL (toksT b)+14:=by
 show lenL (brk ([116,114,121] :: (toksT a ++ [99,97,116,99,104] :: toksT b)))≤_
 rw [lenL_brk]
 simp [lenL_cons,lenL_app,lenL_nil,bsize]
 omega
theorem len15:lenL (toksT (nd 15 y [a,b,c]))≤lenL (toksT a)+lenL (toksT b)+lenL (toksT c)+17:=by
 show lenL ([105,102] :: (toksT a ++ [116,104,101,110] :: (toksT b ++ [101,108,115,101] :: (toksT c ++ [[101,110,100]]))))≤_
 simp [lenL_cons,lenL_app,lenL_nil,bsize]
 omega
theorem len16:lenL (toksT (nd 16 y [a,b]))≤lenL (toksT a)+lenL (toksT b)+y.name.size+15:=by
 show lenL (brk (primT (kindT a) (toksT a) ++ [97,115] :: varT y :: [124] :: toksT b))≤_
 have:=lenL_prim (kindT a) (toksT a)
 rw [lenL_brk]
 simp [varT,lenL_cons,lenL_app,lenL_nil,bsize]
 omega
theorem len17:lenL (toksT (nd 17 y [a]))≤lenL (toksT a)+y.name.size+14:=by
 show lenL (brk ([108,97,98,101,108] :: varT y :: [124] :: toksT a))≤_
 rw [lenL_brk]
 simp [varT,lenL_cons,lenL_app,lenL_nil,bsize]
 omega
theorem len18:lenL (toksT (nd 18 y [a,b,c]))≤lenL (toksT a)+lenL (toksT b)+lenL (toksT c)+y.name.size+24:=by
 show lenL ([114,101,100,117,99,101] :: (primT (kindT a) (toksT a) ++ [97,115] :: varT y :: brk ([] ++ toksT b ++ ([[59]] ++ toksT c ++ []))))≤_
 have:=lenL_prim (kindT a) (toksT a)
 simp [varT,lenL_brk,lenL_cons,lenL_app,lenL_nil,bsize]
 omega
theorem len19:lenL (toksT (nd 19 y [a,b,c,d]))≤lenL (toksT a)+lenL (toksT b)+lenL (toksT c)+lenL (toksT d)+y.name.size+28:=by
 show lenL ([102,111,114,101,97,99,104] :: (primT (kindT a) (toksT a) ++ [97,115] :: varT y :: brk ([] ++ toksT b ++ ([[59]] ++ toksT c ++ ([[59]] ++ toksT d ++ [])))))≤_
 have:=lenL_prim (kindT a) (toksT a)
 simp [varT,lenL_brk,lenL_cons,lenL_app,lenL_nil,bsize]
 omega
end
theorem parT_len (l:List ByteArray):∀ n,n≤l.length→lenL (parT n l)=lenL ((l.take n).map fun n=>n.data.toList)+2 * n
 | 0,_=>by simp [parT,lenL_nil]
 | n+1,h=>by
  have ih:=parT_len l n (by omega)
  have h':n < l.length:=by omega
  unfold parT at ih ⊢
  rw [List.range_succ,List.flatMap_append,lenL_app,ih,List.take_add_one,List.map_append,lenL_app,List.flatMap_singleton]
  have e1:l.getD n ⟨#[]⟩=l[n]:=by simp [h']
  have e2:(List.map (fun n=>n.data.toList) l[n]?.toList)=[l[n].data.toList]:=by simp [h']
  have e3:(if n=0 then [40] else [59]:Bs).length=1:=by split <;> rfl
  rw [e1,e2]
  simp only [lenL_cons,lenL_nil,e3]
  omega
theorem len20 (y:Pyl) (a b:Tn):lenL (toksT (nd 20 y [a,b]))≤lenL (toksT a)+lenL (toksT b)+y.name.size+(lenL (y.names.map fun n=>n.data.toList)+2 * y.names.length+(if 0 < y.names.length then 2 else 0))+13:=by
 show lenL (brk ([100,101,102] :: y.name.data.toList :: (parT y.names.length y.names ++ ((if 0 < y.names.length then [[41]] else []) ++ [58] :: (toksT a ++ [59] :: toksT b)))))≤_
 have hp:=parT_len y.names y.names.length (Nat.le_refl _)
 rw [List.take_length] at hp
 rw [lenL_brk]
 simp [hp,lenL_cons,lenL_app,lenL_nil,bsize]
 split <;> simp [lenL_cons,lenL_app,lenL_nil,bsize] <;> omega
def sumK (ks:List Tn):Nat:=(ks.map fun t=>lenL (toksT t)).sum
theorem semiT_len (ks:List Tn):∀ n,n≤ks.length→lenL (semiT n fun i=>toksT (ks.getD i Tn.no))≤sumK (ks.take n)+2 * n
 | 0,_=>by simp [semiT,lenL_nil]
 | n+1,h=>by
  have ih:=semiT_len ks n (by omega)
  have h':n < ks.length:=by omega
  unfold semiT sumK at ih ⊢
  rw [List.range_succ,List.flatMap_append,lenL_app,List.take_add_one,List.map_append,List.sum_append,List.flatMap_singleton,lenL_app]
  have e1:ks.getD n Tn.no=ks[n]:=by simp [h']
  have e2:(List.map (fun t=>lenL (toksT t)) ks[n]?.toList).sum=lenL (toksT ks[n]):=by simp [h']
  have e3:lenL (if 0 < n then [[59]] else [])≤2:=by split <;> simp [lenL_cons,lenL_nil]
  have e4:lenL ((fun i=>toksT (ks.getD i Tn.no)) n)=lenL (toksT ks[n]):=by show lenL (toksT (ks.getD n Tn.no))=_;rw [e1]
  rw [e4,e2]
  omega
theorem len11 (y:Pyl) (ks:List Tn):lenL (toksT (nd 11 y ks))≤sumK ks+2 * ks.length+y.name.size+5:=by
 show lenL (y.name.data.toList :: (if 0 < ks.length then brk (semiT ks.length fun i=>toksT (ks.getD i Tn.no)) else []))≤_
 have h:=semiT_len ks ks.length (Nat.le_refl _)
 rw [List.take_length] at h
 split <;> simp only [lenL_brk,lenL_cons,lenL_app,lenL_nil,bsize] <;> omega
abbrev Mem:=Nat×ByteArray×Tn×Tn
def memNm (m:Mem):ByteArray:=if m.1=0 then m.2.1 else if m.1=1 then ⟨#[34]⟩ else ⟨#[40]⟩
def costM (m:Mem):Nat:=lenL (keyT (memNm m) (toksT m.2.2.1))+lenL (toksT m.2.2.2)+4
theorem kids_two:∀ (ms:List Mem) (i:Nat) (m:Mem),ms[i]? = some m→(ms.flatMap fun m=>[m.2.2.1,m.2.2.2]).getD (2 * i) Tn.no=m.2.2.1∧(ms.flatMap fun m=>[m.2.2.1,m.2.2.2]).getD (2 * i+1) Tn.no=m.2.2.2
 | [],i,m,h=>by simp at h
 | x :: ms,0,m,h=>by
  simp at h
  subst h
  exact ⟨rfl,rfl⟩
 | x :: ms,i+1,m,h=>by
  have ih:=kids_two ms i m (by simpa using h)
  rw [show 2 * (i+1)=2 * i+1+1 by omega,show 2 * i+1+1+1=(2 * i+1)+1+1 by omega]
  simp only [List.flatMap_cons,List.cons_append,List.nil_append,List.getD_cons_succ]
  exact ih
theorem kids_len (ms:List Mem):(ms.flatMap fun m=>[m.2.2.1,m.2.2.2]).length=2 * ms.length:=by
 induction ms with
 | nil=>rfl
 | cons m ms ih=>rw [List.flatMap_cons,List.length_append,ih];simp;omega
theorem memsY_len (ms:List Mem):∀ n,n≤ms.length→lenL (memsY n (ms.map memNm) fun i=>toksT ((ms.flatMap fun m=>[m.2.2.1,m.2.2.2]).getD i Tn.no))≤((ms.take n).map costM).sum
 | 0,_=>by simp [memsY,lenL_nil]
 | n+1,h=>by
  have ih:=memsY_len ms n (by omega)
  have h':n < ms.length:=by omega
  obtain ⟨k0,k1⟩:=kids_two ms n _ (List.getElem?_eq_getElem h')
  unfold memsY at ih ⊢
  rw [List.range_succ,List.flatMap_append,lenL_app,List.take_add_one,List.map_append,List.sum_append]
  have:lenL ([n].flatMap fun i=>memY i ((ms.map memNm).getD i ⟨#[]⟩) fun i=>toksT ((ms.flatMap fun m=>[m.2.2.1,m.2.2.2]).getD i Tn.no))≤costM ms[n]:=by
   rw [List.flatMap_singleton]
   unfold memY costM
   show lenL (_ ++ (keyT _ (toksT ((ms.flatMap fun m=>[m.2.2.1,m.2.2.2]).getD (2 * n) Tn.no)) ++ [58] :: toksT ((ms.flatMap fun m=>[m.2.2.1,m.2.2.2]).getD (2 * n+1) Tn.no)))≤_
   rw [k0,k1]
   have e:(ms.map memNm).getD n ⟨#[]⟩=memNm ms[n]:=by simp [h',lenL_cons,lenL_app,lenL_nil,bsize]
   rw [e,lenL_app,lenL_app,lenL_cons]
   split <;> simp [lenL_cons,lenL_app,lenL_nil,bsize] <;> omega
  have e2:(List.map costM ms[n]?.toList).sum=costM ms[n]:=by simp [h',lenL_cons,lenL_app,lenL_nil,bsize]
  rw [e2]
  omega
def MemOk (m:Mem):Prop:=m.1=2∨(m.1=0∧GNm m.2.1∧m.2.2.1=litT (4,0,m.2.1))∨(m.1=1∧m.2.2.1=litT (4,0,m.2.1))
theorem build_good {ms:List Mem} (hm:∀ m∈ms,MemOk m∧Gdt m.2.2.1∧Gdt m.2.2.2) (hl:ms.length≤3000):Gdt (buildT ms)∧lenL (toksT (buildT ms))≤(ms.map costM).sum+4:=by
 constructor
 ·refine Gdt.mk ⟨?_,?_,?_,?_,no_name (by decide),(fun e=>by cases e),(fun e=>by cases e),fun _ i x hx=>?_,(fun e=>by cases e)⟩ (fun t ht=>?_)
  ·show (ms.flatMap fun m=>[m.2.2.1,m.2.2.2]).length=2 * (ms.map memNm).length
   rw [kids_len,List.length_map]
  ·show (ms.flatMap fun m=>[m.2.2.1,m.2.2.2]).length≤6000
   rw [kids_len]
   omega
  ·show (ms.map memNm).length≤3000
   rw [List.length_map]
   exact hl
  ·exact Int.le_refl _
  ·have hx:(ms.map memNm)[i]? = some x:=hx
   rw [List.getElem?_map] at hx
   obtain ⟨m,hmi,rfl⟩:=Option.map_eq_some_iff.1 hx
   obtain ⟨k0,k1⟩:=kids_two ms i m hmi
   show _∨(kindT ((ms.flatMap fun m=>[m.2.2.1,m.2.2.2]).getD (2 * i) Tn.no)=2∧(valT ((ms.flatMap fun m=>[m.2.2.1,m.2.2.2]).getD (2 * i) Tn.no)).1=4∧(_∨(_∧(valT ((ms.flatMap fun m=>[m.2.2.1,m.2.2.2]).getD (2 * i) Tn.no)).2.2=_)))
   rw [k0]
   rcases (hm m (List.mem_of_getElem? hmi)).1 with e | ⟨e,hG,e2⟩ | ⟨e,e2⟩
   ·exact .inl (by simp [memNm,e])
   ·rw [e2]
    have:memNm m=m.2.1:=by simp [memNm,e]
    rw [this]
    exact .inr ⟨rfl,rfl,.inr ⟨hG,rfl⟩⟩
   ·rw [e2]
    exact .inr ⟨rfl,rfl,.inl (by simp [memNm,e])⟩
  ·obtain ⟨m,hmm,ht⟩:=List.mem_flatMap.1 ht
   have:=(hm m hmm).2
   rcases List.mem_cons.1 ht with rfl | ht
   ·exact this.1
   ·rw [List.mem_singleton.1 ht]
    exact this.2
 ·have h:=memsY_len ms ms.length (Nat.le_refl _)
  rw [List.take_length] at h
  show lenL ([123] :: (memsY (ms.map memNm).length (ms.map memNm) (fun i=>toksT ((ms.flatMap fun m=>[m.2.2.1,m.2.2.2]).getD i Tn.no)) ++ [[125]]))≤_
  rw [List.length_map]
  simp only [lenL_cons,lenL_app,lenL_nil,List.length_cons,List.length_nil]
  omega
end Go.Proofs.Tryz
namespace Go.Proofs.Tryz
set_option maxHeartbeats 16000000
open Go.RowKit
set_option maxRecDepth 10000
def gl (l:List Bs):Bs:=(putL ([],false) l).1
theorem putL_pre (pre:Bs):∀ (l:List Bs) (s:Bs×Bool),putL (pre ++ s.1,s.2) l=(pre ++ (putL s l).1,(putL s l).2)
 | [],s=>rfl
 | x :: l,s=>by
  rw [putL_cons,putL_cons]
  have:putT (pre ++ s.1,s.2) x=(pre ++ (putT s x).1,(putT s x).2):=by simp [putT]
  rw [this]
  exact putL_pre pre l (putT s x)
theorem putL_fst (o:Bs) (d:Bool) (l:List Bs):putL (o,d) l=(o ++ (putL ([],d) l).1,(putL ([],d) l).2):=by
 have:=putL_pre o l ([],d)
 simpa using this
theorem gl_nil:gl []=[]:=rfl
theorem gl_one (x:Bs):gl [x]=x:=by simp [gl,putL,putT]
theorem gl_app {x:Bs} (h:wordT x=false) (a c:List Bs):gl (a ++ x :: c)=gl a ++ (x ++ gl c):=by
 unfold gl
 rw [putL_app,putL_cons]
 have:putT (putL ([],false) a) x=((putL ([],false) a).1 ++ x,false):=by simp [putT,h]
 rw [this,putL_fst]
 simp
theorem gl_cons {x:Bs} (h:wordT x=false) (c:List Bs):gl (x :: c)=x ++ gl c:=by
 have:=gl_app h [] c
 simpa [gl_nil] using this
theorem gl_word {x y:Bs} (hx:wordT x=true) (hy:wordT y=true) (c:List Bs):gl (x :: y :: c)=x ++ 32 :: gl (y :: c):=by
 unfold gl
 rw [putL_cons,putL_cons,putL_cons]
 have e1:putT (putT ([],false) x) y=((x ++ [32]) ++ y,true):=by simp [putT,hx,hy]
 have e2:putT ([],false) y=(y,true):=by simp [putT,hy]
 rw [e1,e2]
 have:=putL_pre (x ++ [32]) c (y,true)
 rw [this]
 simp
def endW (x:Bs):Bool:=match x.getLast? with
 | some c=>isLetterB c || isDigitB c
 | none=>false
def Gtk (x:Bs):Prop:=x≠[]∧endW x=wordT x
theorem putL_snd:∀ (l:List Bs) (s:Bs×Bool),l≠[]→(∀ x∈l,Gtk x)→(putL s l).2=endW (putL s l).1∧(putL s l).1≠[]
 | [],_,h,_=>absurd rfl h
 | [x],s,_,hg=>by
  have hx:=hg x (.head _)
  have e:putL s [x]=putT s x:=rfl
  rw [e]
  unfold putT
  refine ⟨?_,by simp [hx.1]⟩
  show wordT x=endW (s.1 ++ (_ ++ x))
  rw [← hx.2]
  unfold endW
  rw [List.getLast?_append,List.getLast?_append]
  cases hl:x.getLast? with
  | none=>exact absurd (List.getLast?_eq_none_iff.1 hl) hx.1
  | some c=>rfl
 | x :: y :: l,s,_,hg=>putL_snd (y :: l) (putT s x) (by simp) (fun z hz=>hg z (.tail _ hz))
theorem gl_ne {l:List Bs} (h:l≠[]) (hg:∀ x∈l,Gtk x):gl l≠[]:=(putL_snd l ([],false) h hg).2
theorem gl_word_head {x:Bs} (l:List Bs) (hx:x≠[]):wordT (gl (x :: l))=wordT x:=by
 unfold gl
 rw [putL_cons]
 have e:putT ([],false) x=(x,wordT x):=by simp [putT]
 rw [e,putL_fst]
 cases x with
 | nil=>exact absurd rfl hx
 | cons c x=>rfl
def joinB (a b:Bs):Bs:=if a=[]∨b=[] then a ++ b else if endW a && wordT b then a ++ 32 :: b else a ++ b
theorem join_gl {a b:List Bs} (ha:∀ x∈a,Gtk x) (hb:∀ x∈b,Gtk x):joinB (gl a) (gl b)=gl (a ++ b):=by
 cases a with
 | nil=>simp [joinB,gl_nil]
 | cons x a =>
  cases b with
  | nil=>simp [joinB,gl_nil]
  | cons y b =>
   have n1:=gl_ne (l:=x :: a) (by simp) ha
   have n2:=gl_ne (l:=y :: b) (by simp) hb
   have hy:=hb y (.head _)
   unfold joinB
   rw [if_neg (by simp [n1,n2]),gl_word_head b hy.1]
   have hs:=(putL_snd (x :: a) ([],false) (by simp) ha).1
   show (if endW (gl (x :: a)) && wordT y then _ else _)=(putL ([],false) (x :: a ++ y :: b)).1
   rw [putL_app,putL_cons (putL ([],false) (x :: a)) y b]
   have e0:endW (gl (x :: a))=(putL ([],false) (x :: a)).2:=hs.symm
   rw [e0]
   have e1:putL ([],false) (y :: b)=putL (y,wordT y) b:=by rw [putL_cons];congr 1;simp [putT]
   have e2:gl (y :: b)=(putL (y,wordT y) b).1:=by unfold gl;rw [e1]
   rw [e2]
   cases hw:wordT y with
   | false =>
    have e3:putT (putL ([],false) (x :: a)) y=(gl (x :: a) ++ y,false):=by simp [putT,hw,gl]
    rw [e3,putL_pre (gl (x :: a)) b (y,false)]
    simp
   | true =>
    cases hd:(putL ([],false) (x :: a)).2 with
    | false =>
     have e3:putT (putL ([],false) (x :: a)) y=(gl (x :: a) ++ y,true):=by simp [putT,hw,hd,gl]
     rw [e3,putL_pre (gl (x :: a)) b (y,true)]
     simp
    | true =>
     have e3:putT (putL ([],false) (x :: a)) y=((gl (x :: a) ++ [32]) ++ y,true):=by simp [putT,hw,hd,gl]
     rw [e3,putL_pre (gl (x :: a) ++ [32]) b (y,true)]
     simp
def joinsB (l:List Bs):Bs:=l.foldl joinB []
theorem joins_gl:∀ (ls:List (List Bs)) (a:List Bs),(∀ x∈a,Gtk x)→(∀ l∈ls,∀ x∈l,Gtk x)→(ls.map gl).foldl joinB (gl a)=gl (a ++ ls.flatten)
 | [],a,_,_=>by simp
 | l :: ls,a,ha,hl=>by
  rw [List.map_cons,List.foldl_cons,join_gl ha (hl l (.head _)),joins_gl ls (a ++ l) (fun x hx=>by
   rcases List.mem_append.1 hx with hx | hx
   ·exact ha x hx
   ·exact hl l (.head _) x hx) (fun q hq=>hl q (.tail _ hq))]
  simp
theorem joinsB_gl {ls:List (List Bs)} (hl:∀ l∈ls,∀ x∈l,Gtk x):joinsB (ls.map gl)=gl ls.flatten:=by
 have:=joins_gl ls [] (fun x hx=>by simp at hx) hl
 rw [gl_nil] at this
 simpa [joinsB] using this
theorem gtk_lit {x:Bs} (h:(x != [] && (endW x == wordT x))=true):Gtk x:=by
 simp only [Bool.and_eq_true,bne_iff_ne,beq_iff_eq,ne_eq] at h
 exact h
theorem gtk_word {l:Bs} (h1:l≠[]) (h2:∀ c∈l,(isLetterB c || isDigitB c)=true):Gtk l∧wordT l=true:=by
 have hw:wordT l=true:=by
  cases l with
  | nil=>exact absurd rfl h1
  | cons c l =>
   have:=h2 c (.head _)
   simp only [wordT,this,Bool.true_or]
 refine ⟨⟨h1,?_⟩,hw⟩
 rw [hw]
 unfold endW
 cases hl:l.getLast? with
 | none=>exact absurd (List.getLast?_eq_none_iff.1 hl) h1
 | some c=>exact h2 c (List.mem_of_getLast? hl)
theorem gtk_var {x:ByteArray} (h:GNm x):Gtk (36 :: x.data.toList)∧wordT (36 :: x.data.toList)=true:=by
 obtain ⟨⟨h1,h2⟩,h3⟩:=gtk_word h.1 h.2.1
 refine ⟨⟨by simp,?_⟩,rfl⟩
 have e:endW (36 :: x.data.toList)=endW x.data.toList:=by
  unfold endW
  rw [List.getLast?_cons]
  cases hl:x.data.toList.getLast? with
  | none=>exact absurd (List.getLast?_eq_none_iff.1 hl) h1
  | some c=>rfl
 rw [e,h2,h3]
 rfl
theorem dec_digits:∀ (u:Nat),∀ c∈Lib.decDigits u,isDigitB c=true:=by
 intro u
 induction u using Nat.strongRecOn with
 | _ u ih =>
  intro c hc
  have hd:∀ k,k < 10→isDigitB (UInt8.ofNat (48+k))=true:=by decide
  rw [Lib.decDigits] at hc
  split at hc
  ·rename_i h
   rw [List.mem_singleton.1 hc]
   exact hd u h
  ·rcases List.mem_append.1 hc with hc | hc
   ·exact ih (u / 10) (by omega) c hc
   ·rw [List.mem_singleton.1 hc]
    exact hd (u % 10) (by omega)
theorem gtk_litB {v:Nat×Int×ByteArray} (h:GVal v):Gtk (litB v):=by
 obtain ⟨k,n,x⟩:=v
 obtain ⟨hk,hd,hs⟩:=h
 have hk:k≤4:=hk
 match k,hk with
 | 0,_=>exact gtk_lit (x:=[110,117,108,108]) (by decide)
 | 1,_=>exact gtk_lit (x:=[102,97,108,115,101]) (by decide)
 | 2,_=>exact gtk_lit (x:=[116,114,117,101]) (by decide)
 | 3,_ =>
  have hr:0≤digN x∧digN x < 1000000000000000000:=digN_range (hd rfl).2.1 (hd rfl).2.2
  show Gtk (Lib.itoa (digN x))
  have e:Lib.itoa (digN x)=Lib.decDigits (digN x).toNat:=by unfold Lib.itoa;rw [if_neg (by omega)]
  rw [e]
  refine (gtk_word ?_ (fun c hc=>by rw [dec_digits _ c hc,Bool.or_true])).1
  rw [Lib.decDigits]
  split <;> simp
 | 4,_ =>
  show Gtk (quoteY x.data.toList)
  refine ⟨by simp [quoteY],?_⟩
  unfold endW quoteY
  rw [← List.cons_append,List.getLast?_append]
  rfl
theorem gtk_op {x:ByteArray} (h:x.data.toList∈opsL):Gtk x.data.toList:=by
 have:∀ y∈opsL,(y != [] && (endW y == wordT y))=true:=by decide
 exact gtk_lit (this _ h)
def AllG (l:List Bs):Prop:=∀ x∈l,Gtk x
theorem AllG.nil:AllG []:=fun x hx=>by simp at hx
theorem AllG.cons {x:Bs}{l:List Bs} (hx:Gtk x) (h:AllG l):AllG (x :: l):=fun y hy=>by
 rcases List.mem_cons.1 hy with rfl | hy
 ·exact hx
 ·exact h y hy
theorem AllG.app {a b:List Bs} (ha:AllG a) (hb:AllG b):AllG (a ++ b):=fun y hy=>by
 rcases List.mem_append.1 hy with hy | hy
 ·exact ha y hy
 ·exact hb y hy
theorem AllG.lit {x:Bs}{l:List Bs} (hx:(x != [] && (endW x == wordT x))=true) (h:AllG l):AllG (x :: l):=.cons (gtk_lit hx) h
theorem AllG.brk {l:List Bs} (h:AllG l):AllG (brk l):=.lit (by decide) (.app h (.lit (by decide) .nil))
theorem AllG.prim {l:List Bs} (k:Nat) (h:AllG l):AllG (primT k l):=by
 unfold primT
 split
 ·exact h.brk
 ·exact h
theorem AllG.semi {n:Nat}{f:Nat→List Bs} (h:∀ i,i < n→AllG (f i)):AllG (semiT n f):=fun x hx=>by
 unfold semiT at hx
 obtain ⟨j,hj,hx⟩:=List.mem_flatMap.1 hx
 have hj:=List.mem_range.1 hj
 rcases List.mem_append.1 hx with hx | hx
 ·split at hx
  ·rw [List.mem_singleton.1 hx];exact gtk_lit (by decide)
  ·simp at hx
 ·exact h j hj x hx
theorem AllG.name {x:ByteArray}{l:List Bs} (hx:GNm x) (h:AllG l):AllG (x.data.toList :: l):=.cons (gtk_word hx.1 hx.2.1).1 h
theorem AllG.var {y:Pyl}{l:List Bs} (hx:GNm y.name) (h:AllG l):AllG (varT y :: l):=.cons (gtk_var hx).1 h
theorem AllG.pars {l:List ByteArray} (h:∀ x∈l,GNm x):AllG (parT l.length l):=fun x hx=>by
 unfold parT at hx
 obtain ⟨j,hj,hx⟩:=List.mem_flatMap.1 hx
 have hj:=List.mem_range.1 hj
 have e:l.getD j ⟨#[]⟩=l[j]:=by simp [hj]
 rw [e] at hx
 rcases List.mem_cons.1 hx with rfl | hx
 ·split <;> exact gtk_lit (by decide)
 ·rw [List.mem_singleton.1 hx]
  have:=h l[j] (List.getElem_mem hj)
  exact (gtk_word this.1 this.2.1).1
end Go.Proofs.Tryz
namespace Go.Proofs.Tryz
set_option maxHeartbeats 16000000
open Go.RowKit
set_option maxRecDepth 10000
theorem ba_eq {x:ByteArray}{l:Bs} (h:x.data.toList=l):x=⟨l.toArray⟩:=by
 cases x
 subst h
 simp
theorem last_at {x:ByteArray}{l:Bs}{c:UInt8} (h:x.data.toList=l ++ [c]):∃ hl:x.size - 1 < x.size,x[x.size - 1]'hl=c:=by
 have hs:x.size=l.length+1:=by rw [← bsize,h];simp
 refine ⟨by omega,?_⟩
 have:=at_list x (x.size - 1) (by omega)
 have e:x.data.toList[x.size - 1]? = some c:=by
  rw [h,show x.size - 1=l.length by omega]
  simp
 rw [e] at this
 exact (Option.some.inj this).symm
theorem least_ok (a b:Int) (w:World):Calls Tryz.prog 18 #[.int .i64 a,.int .i64 b] w fun e w'=>e = .returned (.int .i64 (if a < b then a else b))∧w'=w:=by
 go_enter Tryz.func18,Tryz.ntmps18
 by_cases h:a < b
 ·rw [if_pos h]
  go_wp2_with fail
  go_ret
  exact ⟨rfl,rfl⟩
 ·rw [if_neg h]
  go_wp2_with fail
  go_ret
  exact ⟨rfl,rfl⟩
theorem lastWord_ok {x:ByteArray}{l:Bs}{c:UInt8} (h:x.data.toList=l ++ [c]) (hs:x.size≤10000000000) (w:World) {r:Bool} (hr:((c.toNat:Int) != 34)=r):Calls Tryz.prog 59 #[.string x] w fun e w'=>e = .returned (.bool r)∧w'=w:=by
 obtain ⟨hl,hc⟩:=last_at h
 have hx0:0 < x.size:=by omega
 have HR:Hid _:=hr
 clear hr
 go_enter Tryz.func59,Tryz.ntmps59
 go_wp2_with fail
 go_ret
 exact ⟨by rw [HR.out];rfl,rfl⟩
theorem small_b (c:UInt8) (w:World) {r:Bool} (h:isLetterB c=r):Calls Tryz.prog 48 #[.int .u8 c.toNat] w fun e w'=>e = .returned (.bool r)∧w'=w:=h ▸ small_any c w
theorem figure_b (c:UInt8) (w:World) {r:Bool} (h:isDigitB c=r):Calls Tryz.prog 52 #[.int .u8 c.toNat] w fun e w'=>e = .returned (.bool r)∧w'=w:=h ▸ figure_any c w
def JoinP (a b:ByteArray) (w:World) (e:Ending) (w':World):Prop:=e = .returned (.string ⟨(joinB a.data.toList b.data.toList).toArray⟩)∧w'=w
theorem join_end {a b:ByteArray}{w:World}{r:ByteArray} (h:r.data.toList=joinB a.data.toList b.data.toList):JoinP a b w (.returned (.string r)) w:=⟨by rw [← ba_eq h],rfl⟩
theorem join_nil {a b:ByteArray} (w:World) (h:a.data.toList=[]∨b.data.toList=[]) (hsa:a.size≤10000000000) (hsb:b.size≤10000000000):Calls Tryz.prog 33 #[.string a,.string b] w (JoinP a b w):=by
 have z1:¬ 9223372036854775807 < a.size+b.size:=by omega
 by_cases ha:a.data.toList=[]
 ·have ha':(a.toList == [])=true:=by rw [ByteArray.toList_eq,ha];rfl
  go_enter Tryz.func33,Tryz.ntmps33
  go_wp2_with fail
  go_ret
  exact join_end (by unfold joinB;rw [if_pos h];simp)
 ·have hb:b.data.toList=[]:=h.resolve_left ha
  have ha':(a.toList == [])=false:=by rw [ByteArray.toList_eq];simpa using ha
  have hb':(b.toList == [])=true:=by rw [ByteArray.toList_eq,hb];rfl
  go_enter Tryz.func33,Tryz.ntmps33
  go_wp2_with fail
  go_ret
  exact join_end (by unfold joinB;rw [if_pos h];simp)
theorem join_cons {a b:ByteArray}{l m:Bs}{c d:UInt8} (w:World) (ha:a.data.toList=l ++ [c]) (hb:b.data.toList=d :: m) (hsa:a.size≤10000000000) (hsb:b.size≤10000000000):Calls Tryz.prog 33 #[.string a,.string b] w (JoinP a b w):=by
 have ha':(a.toList == [])=false:=by rw [ByteArray.toList_eq,ha];simp
 have hb':(b.toList == [])=false:=by rw [ByteArray.toList_eq,hb];rfl
 obtain ⟨hl,hc⟩:=last_at ha
 have hx0:0 < a.size:=by omega
 have hb0:0 < b.size:=by rw [← bsize,hb];simp
 have hd:b[0]'hb0=d:=by
  have:=at_list b 0 hb0
  rw [hb] at this
  simpa using this.symm
 have hE:endW a.data.toList=(isLetterB c || isDigitB c):=by
  unfold endW
  rw [ha,List.getLast?_append]
  rfl
 have hW:wordT b.data.toList=(isLetterB d || isDigitB d || d == 36):=by rw [hb];rfl
 have hne:¬ (a.data.toList=[]∨b.data.toList=[]):=by rw [ha,hb];simp
 have fin1:∀ r:ByteArray,(endW a.data.toList && wordT b.data.toList)=true→r.data.toList=a.data.toList ++ 32 :: b.data.toList→JoinP a b w (.returned (.string r)) w:=fun r h1 h2=>join_end (by unfold joinB;rw [if_neg hne,if_pos h1,h2])
 have fin2:∀ r:ByteArray,(endW a.data.toList && wordT b.data.toList)=false→r.data.toList=a.data.toList ++ b.data.toList→JoinP a b w (.returned (.string r)) w:=fun r h1 h2=>join_end (by unfold joinB;rw [if_neg hne,if_neg (by rw [h1];simp),h2])
 rw [hE,hW] at fin1 fin2
 have fin1:Aside (∀ r:ByteArray,((isLetterB c || isDigitB c) && (isLetterB d || isDigitB d || d == 36))=true→r.data.toList=a.data.toList ++ 32 :: b.data.toList→JoinP a b w (.returned (.string r)) w):=fin1
 have fin2:Aside (∀ r:ByteArray,((isLetterB c || isDigitB c) && (isLetterB d || isDigitB d || d == 36))=false→r.data.toList=a.data.toList ++ b.data.toList→JoinP a b w (.returned (.string r)) w):=fin2
 have HA:Hid (a.data.toList=l ++ [c]):=ha
 clear ha hb hE hW hne
 have z1:¬ 9223372036854775807 < a.size+b.size:=by omega
 have z2:¬ 9223372036854775807 < a.size+1:=by omega
 have z3:¬ 9223372036854775807 < a.size+1+b.size:=by omega
 by_cases h34:c=34
 ·have h1:isLetterB c=false:=by rw [h34];decide
  have h2:isDigitB c=false:=by rw [h34];decide
  have h3:((c.toNat:Int) != 34)=false:=by rw [h34];decide
  clear h34
  go_enter Tryz.func33,Tryz.ntmps33
  go_wp2_with fail
  refine Calls.mono (lastWord_ok HA.out hsa w h3) ?_
  rintro e w1 ⟨rfl,h1⟩
  subst w1
  go_wp2_with fail
  go_ret
  exact fin2.out _ (by simp [h1,h2]) (by simp)
 ·have h3:((c.toNat:Int) != 34)=true:=by
   simp
   intro e
   have e34:(34:UInt8).toNat=34:=rfl
   exact h34 (UInt8.toNat_inj.1 (by omega))
  have h3:Hid (((c.toNat:Int) != 34)=true):=h3
  clear h34
  cases hcL:isLetterB c with
  | true =>
   cases hdL:isLetterB d with
   | true =>
    go_enter Tryz.func33,Tryz.ntmps33
    go_wp2_with fail
    refine Calls.mono (lastWord_ok HA.out hsa w h3.out) ?_
    rintro e w1 ⟨rfl,h1⟩
    subst w1
    go_wp2_with fail
    refine Calls.mono (small_b c w hcL) ?_
    rintro e w1 ⟨rfl,h1⟩
    subst w1
    go_wp2_with fail
    refine Calls.mono (small_b d w hdL) ?_
    rintro e w1 ⟨rfl,h1⟩
    subst w1
    go_wp2_with fail
    go_ret
    exact fin1.out _ (by simp [hcL,hdL]) (by simp)
   | false =>
    cases hdD:isDigitB d with
    | true =>
     go_enter Tryz.func33,Tryz.ntmps33
     go_wp2_with fail
     refine Calls.mono (lastWord_ok HA.out hsa w h3.out) ?_
     rintro e w1 ⟨rfl,h1⟩
     subst w1
     go_wp2_with fail
     refine Calls.mono (small_b c w hcL) ?_
     rintro e w1 ⟨rfl,h1⟩
     subst w1
     go_wp2_with fail
     refine Calls.mono (small_b d w hdL) ?_
     rintro e w1 ⟨rfl,h1⟩
     subst w1
     go_wp2_with fail
     refine Calls.mono (figure_b d w hdD) ?_
     rintro e w1 ⟨rfl,h1⟩
     subst w1
     go_wp2_with fail
     go_ret
     exact fin1.out _ (by simp [hcL,hdL,hdD]) (by simp)
    | false =>
     by_cases h36:d=36
     ·have hq:Hid (((d.toNat:Nat):Int)=36):=by show ((d.toNat:Nat):Int)=36;rw [h36];rfl
      have H36:Hid (d=36):=h36
      clear h36
      go_enter Tryz.func33,Tryz.ntmps33
      go_wp2_with fail
      refine Calls.mono (lastWord_ok HA.out hsa w h3.out) ?_
      rintro e w1 ⟨rfl,h1⟩
      subst w1
      go_wp2_with fail
      refine Calls.mono (small_b c w hcL) ?_
      rintro e w1 ⟨rfl,h1⟩
      subst w1
      go_wp2_with fail
      refine Calls.mono (small_b d w hdL) ?_
      rintro e w1 ⟨rfl,h1⟩
      subst w1
      go_wp2_with fail
      refine Calls.mono (figure_b d w hdD) ?_
      rintro e w1 ⟨rfl,h1⟩
      subst w1
      have hq2:=hq.out
      go_wp2_with fail
      go_ret
      exact fin1.out _ (by rw [H36.out];simp [hcL]) (by simp)
     ·have hq:Hid ((((d.toNat:Nat):Int) == 36)=false):=by
       show (((d.toNat:Nat):Int) == 36)=false
       simp
       intro e
       have e36:(36:UInt8).toNat=36:=rfl
       exact h36 (UInt8.toNat_inj.1 (by omega))
      go_enter Tryz.func33,Tryz.ntmps33
      go_wp2_with fail
      refine Calls.mono (lastWord_ok HA.out hsa w h3.out) ?_
      rintro e w1 ⟨rfl,h1⟩
      subst w1
      go_wp2_with fail
      refine Calls.mono (small_b c w hcL) ?_
      rintro e w1 ⟨rfl,h1⟩
      subst w1
      go_wp2_with fail
      refine Calls.mono (small_b d w hdL) ?_
      rintro e w1 ⟨rfl,h1⟩
      subst w1
      go_wp2_with fail
      refine Calls.mono (figure_b d w hdD) ?_
      rintro e w1 ⟨rfl,h1⟩
      subst w1
      have hq2:=hq.out
      go_wp2_with fail
      go_ret
      exact fin2.out _ (by simp [hdL,hdD,h36]) (by simp)
  | false =>
   cases hcD:isDigitB c with
   | true =>
    cases hdL:isLetterB d with
    | true =>
     go_enter Tryz.func33,Tryz.ntmps33
     go_wp2_with fail
     refine Calls.mono (lastWord_ok HA.out hsa w h3.out) ?_
     rintro e w1 ⟨rfl,h1⟩
     subst w1
     go_wp2_with fail
     refine Calls.mono (small_b c w hcL) ?_
     rintro e w1 ⟨rfl,h1⟩
     subst w1
     go_wp2_with fail
     refine Calls.mono (figure_b c w hcD) ?_
     rintro e w1 ⟨rfl,h1⟩
     subst w1
     go_wp2_with fail
     refine Calls.mono (small_b d w hdL) ?_
     rintro e w1 ⟨rfl,h1⟩
     subst w1
     go_wp2_with fail
     go_ret
     exact fin1.out _ (by simp [hcL,hcD,hdL]) (by simp)
    | false =>
     cases hdD:isDigitB d with
     | true =>
      go_enter Tryz.func33,Tryz.ntmps33
      go_wp2_with fail
      refine Calls.mono (lastWord_ok HA.out hsa w h3.out) ?_
      rintro e w1 ⟨rfl,h1⟩
      subst w1
      go_wp2_with fail
      refine Calls.mono (small_b c w hcL) ?_
      rintro e w1 ⟨rfl,h1⟩
      subst w1
      go_wp2_with fail
      refine Calls.mono (figure_b c w hcD) ?_
      rintro e w1 ⟨rfl,h1⟩
      subst w1
      go_wp2_with fail
      refine Calls.mono (small_b d w hdL) ?_
      rintro e w1 ⟨rfl,h1⟩
      subst w1
      go_wp2_with fail
      refine Calls.mono (figure_b d w hdD) ?_
      rintro e w1 ⟨rfl,h1⟩
      subst w1
      go_wp2_with fail
      go_ret
      exact fin1.out _ (by simp [hcL,hcD,hdL,hdD]) (by simp)
     | false =>
      by_cases h36:d=36
      ·have hq:Hid (((d.toNat:Nat):Int)=36):=by show ((d.toNat:Nat):Int)=36;rw [h36];rfl
       have H36:Hid (d=36):=h36
       clear h36
       go_enter Tryz.func33,Tryz.ntmps33
       go_wp2_with fail
       refine Calls.mono (lastWord_ok HA.out hsa w h3.out) ?_
       rintro e w1 ⟨rfl,h1⟩
       subst w1
       go_wp2_with fail
       refine Calls.mono (small_b c w hcL) ?_
       rintro e w1 ⟨rfl,h1⟩
       subst w1
       go_wp2_with fail
       refine Calls.mono (figure_b c w hcD) ?_
       rintro e w1 ⟨rfl,h1⟩
       subst w1
       go_wp2_with fail
       refine Calls.mono (small_b d w hdL) ?_
       rintro e w1 ⟨rfl,h1⟩
       subst w1
       go_wp2_with fail
       refine Calls.mono (figure_b d w hdD) ?_
       rintro e w1 ⟨rfl,h1⟩
       subst w1
       have hq2:=hq.out
       go_wp2_with fail
       go_ret
       exact fin1.out _ (by rw [H36.out];simp [hcL,hcD]) (by simp)
      ·have hq:Hid ((((d.toNat:Nat):Int) == 36)=false):=by
        show (((d.toNat:Nat):Int) == 36)=false
        simp
        intro e
        have e36:(36:UInt8).toNat=36:=rfl
        exact h36 (UInt8.toNat_inj.1 (by omega))
       go_enter Tryz.func33,Tryz.ntmps33
       go_wp2_with fail
       refine Calls.mono (lastWord_ok HA.out hsa w h3.out) ?_
       rintro e w1 ⟨rfl,h1⟩
       subst w1
       go_wp2_with fail
       refine Calls.mono (small_b c w hcL) ?_
       rintro e w1 ⟨rfl,h1⟩
       subst w1
       go_wp2_with fail
       refine Calls.mono (figure_b c w hcD) ?_
       rintro e w1 ⟨rfl,h1⟩
       subst w1
       go_wp2_with fail
       refine Calls.mono (small_b d w hdL) ?_
       rintro e w1 ⟨rfl,h1⟩
       subst w1
       go_wp2_with fail
       refine Calls.mono (figure_b d w hdD) ?_
       rintro e w1 ⟨rfl,h1⟩
       subst w1
       have hq2:=hq.out
       go_wp2_with fail
       go_ret
       exact fin2.out _ (by simp [hdL,hdD,h36]) (by simp)
   | false =>
    go_enter Tryz.func33,Tryz.ntmps33
    go_wp2_with fail
    refine Calls.mono (lastWord_ok HA.out hsa w h3.out) ?_
    rintro e w1 ⟨rfl,h1⟩
    subst w1
    go_wp2_with fail
    refine Calls.mono (small_b c w hcL) ?_
    rintro e w1 ⟨rfl,h1⟩
    subst w1
    go_wp2_with fail
    refine Calls.mono (figure_b c w hcD) ?_
    rintro e w1 ⟨rfl,h1⟩
    subst w1
    go_wp2_with fail
    go_ret
    exact fin2.out _ (by simp [hcL,hcD]) (by simp)
theorem join_ok (a b:ByteArray) (w:World) (hsa:a.size≤10000000000) (hsb:b.size≤10000000000):Calls Tryz.prog 33 #[.string a,.string b] w (JoinP a b w):=by
 by_cases h:a.data.toList=[]∨b.data.toList=[]
 ·exact join_nil w h hsa hsb
 ·have h1:a.data.toList≠[]:=fun e=>h (.inl e)
  have h2:b.data.toList≠[]:=fun e=>h (.inr e)
  match hb:b.data.toList with
  | []=>exact absurd hb h2
  | d :: m=>exact join_cons w (List.dropLast_concat_getLast h1).symm hb hsa hsb
theorem joinB_len (a b:Bs):(joinB a b).length≤a.length+b.length+1:=by
 unfold joinB
 repeat' split
 all_goals simp
 all_goals omega
theorem joins_len:∀ (ls:List Bs) (a:Bs),(ls.foldl joinB a).length≤a.length+lenL ls
 | [],a=>by simp [lenL_nil]
 | l :: ls,a=>by
  have h1:=joins_len ls (joinB a l)
  have h2:=joinB_len a l
  rw [List.foldl_cons,lenL_cons]
  omega
theorem all_ok {xs:List ByteArray}{w:World}{g n cap:Nat} (hn:xs.length=n) (hn2:n≤1000) (hg:∀ i x,xs[i]? = some x→w.cell? ⟨g,i,none⟩=some (.string x)) (hB:lenL (xs.map fun x=>x.data.toList)≤2000000000) :
  Calls Tryz.prog 16 #[.slice (some ⟨g,0,none⟩) n cap] w fun e w'=>e = .returned (.string ⟨(joinsB (xs.map fun x=>x.data.toList)).toArray⟩)∧w'=w:=by
 have HN:Hid _:=hn
 have HG:Aside (∀ i x,xs[i]? = some x→w.cell? ⟨g,i,none⟩=some (.string x)):=hg
 have HB:Aside (lenL (xs.map fun x=>x.data.toList)≤2000000000):=hB
 clear hn hg hB
 go_enter Tryz.func16,Tryz.ntmps16
 go_wp2_with fail
 go_loopg [3,4] (n+1) (fun j t3 t4 wr=>wr=w∧∃ (i:Nat) (q:ByteArray),i+j=n+1∧i≤n∧t4 = .int .i64 i∧t3 = .string q∧q.data.toList=((xs.take i).map fun x=>x.data.toList).foldl joinB [])
 case atStart=>exact ⟨rfl,0,_,by omega,by omega,rfl,rfl,rfl⟩
 case round =>
  obtain ⟨hw,i,q,hij,hin,rfl,rfl,hq⟩:=hrel
  subst hw
  by_cases hi:i < n
  ·have hil:i < xs.length:=by have:=HN.out;omega
   obtain ⟨x,hx⟩:∃ x,xs[i]? = some x:=⟨_,List.getElem?_eq_getElem hil⟩
   have cx:=HG.out i x hx
   have hqs:q.size≤10000000000:=by
    have h1:=joins_len ((xs.take i).map fun x=>x.data.toList) []
    rw [← hq,bsize] at h1
    have h2:=HB.out
    have e:xs=xs.take i ++ xs.drop i:=by simp
    rw [e,List.map_append,lenL_app] at h2
    simp only [List.length_nil] at h1
    omega
   have hxs:x.size≤10000000000:=by
    have h2:=HB.out
    have e:xs=xs.take i ++ x :: xs.drop (i+1):=by
     rw [List.getElem?_eq_getElem hil] at hx
     cases hx
     simp
    rw [e,List.map_append,lenL_app,List.map_cons,lenL_cons,bsize] at h2
    omega
   have hnx:Aside ((((xs.take (i+1)).map fun x=>x.data.toList).foldl joinB [])=joinB q.data.toList x.data.toList):=by
    show _=_
    rw [List.take_add_one,hx,List.map_append,List.foldl_append,hq]
    rfl
   have hi':(i:Int) < (n:Int):=by omega
   have hi0:(0:Int)≤(i:Int):=by omega
   clear hq hx
   go_wp2_with fail
   refine Calls.mono (join_ok q x _ hqs hxs) ?_
   rintro e w1 ⟨rfl,h1⟩
   subst w1
   go_wp2_with fail
   go_roundg (n+1 - (i+1))
   case measure=>omega
   case rel=>exact ⟨rfl,i+1,_,by omega,by omega,by go_num,rfl,by rw [hnx.out]⟩
  ·have hi':¬ (i:Int) < (n:Int):=by omega
   have hq':q=⟨(joinsB (xs.map fun x=>x.data.toList)).toArray⟩:=ba_eq (by rw [hq,List.take_of_length_le (by have:=HN.out;omega)];rfl)
   have hq':Hid _:=hq'
   clear hq
   go_wp2_with fail
   go_ret
   exact ⟨by rw [← hq'.out];rfl,rfl⟩
end Go.Proofs.Tryz
