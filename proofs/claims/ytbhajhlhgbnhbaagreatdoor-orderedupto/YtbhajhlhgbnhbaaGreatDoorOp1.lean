import Derived.Test.YtbhajhlhgbnhbaaGreatDoorFl3
import Derived.Test.YtbhajhlhgbnhbaaGreatDoorFz1
import Derived.Lib.DecodeN
import Derived.Lib.RuneBytes
set_option linter.all false
namespace Go.Proofs.Tryz
set_option maxHeartbeats 16000000
open Go.RowKit
set_option maxRecDepth 10000
structure Fc where
 lv:Value
 rv:Value
 ts:List (IV×IV×Nat)
def Fc.cells (e:Fc):List Value:=[e.lv,e.rv]
theorem fc_len (stk:List Fc):(stk.flatMap Fc.cells).length=stk.length * 2:=by
 induction stk with
 | nil=>rfl
 | cons e l ih=>rw [List.flatMap_cons,List.length_append,ih,List.length_cons];simp [Fc.cells];omega
theorem topFc {w:World}{B:Nat}{v:Value}{lo:List Fc}{e:Fc} (ow:w.ownsRow B 351 2 v (lo ++ [e]).length ((lo ++ [e]).flatMap Fc.cells)):∃ g cap,v = .slice (some ⟨g,0,none⟩) (lo.length+1) cap∧B≤g∧lo.length+1≤cap∧cap≤9223372036854775807∧w.cell? ⟨g,lo.length * 2,none⟩=some e.lv∧w.cell? ⟨g,lo.length * 2+1,none⟩=some e.rv∧(∀ q,w.frozen? ⟨g,q,none⟩=false)∧g < w.heap.size:=by
 rw [List.length_append,List.length_singleton] at ow
 rcases ow.2 with ⟨_,h0⟩ | ⟨g,cap,cur,e1,hg,hb,hn,hm,hs,ht⟩
 ·omega
 ·have hc:∀ i v,e.cells[i]? = some v→w.cell? ⟨g,lo.length * 2+i,none⟩=some v:=fun i v hi=>by
   have hi2:i < 2:=by have:=(List.getElem?_eq_some_iff.1 hi).1;simpa [Fc.cells] using this
   have h2:cur.toList[lo.length * 2+i]? = some v:=by
    rw [← List.getElem?_take_of_lt (show lo.length * 2+i < (lo.length+1) * 2 by omega),ht,List.flatMap_append,List.getElem?_append_right (by rw [fc_len];omega),fc_len,Nat.add_sub_cancel_left]
    simpa using hi
   exact cells_cell hb (by simpa using h2)
  exact ⟨g,cap,e1,hg,hn,by simpa [maxLen] using hm,hc 0 _ rfl,hc 1 _ rfl,fun q=>cells_free hb,lt_of_block hb⟩
theorem popFc {w:World}{B g cap:Nat}{lo:List Fc}{e:Fc} (h:w.ownsRow B 351 2 (.slice (some ⟨g,0,none⟩) (lo.length+1) cap) (lo ++ [e]).length ((lo ++ [e]).flatMap Fc.cells)):w.ownsRow B 351 2 (.slice (some ⟨g,0,none⟩) lo.length cap) lo.length (lo.flatMap Fc.cells):=by
 rw [List.length_append,List.length_singleton] at h
 obtain ⟨hl,h⟩:=h
 refine ⟨by rw [fc_len],.inr ?_⟩
 rcases h with ⟨e1,_⟩ | ⟨g',cap',cur,e1,hg,hb,hn,hm,hs,ht⟩
 ·cases e1
 ·cases e1
  refine ⟨g,cap,cur,rfl,hg,hb,by omega,hm,hs,?_⟩
  have:=congrArg (List.take (lo.length * 2)) ht
  rw [List.take_take,Nat.min_eq_left (by omega),List.flatMap_append,List.take_append_of_le_length (by rw [fc_len];omega),List.take_of_length_le (l:=lo.flatMap Fc.cells) (by rw [fc_len];omega)] at this
  exact this
theorem Sl.tail {w:World}{a o d M:Nat}{c:Array Value}{x:IV}{xs:List IV} (hb:w.heap[a]? = some (.cells c 32 (0,0))) (hx:∀ i y,(x :: xs)[i]? = some y→c[o+i]? = some (iv y)) (hM:(x :: xs).length=M) (hd:M≤d) (hm:d≤9223372036854775807) (p:Option Addr) (hp:p=some ⟨a,o+1,none⟩∨d - 1=0):Sl w (.slice p (M - 1) (d - 1)) xs:=by
 rw [List.length_cons] at hM
 refine ⟨p,d - 1,by rw [← hM,Nat.add_sub_cancel],by omega,by omega,?_⟩
 rcases hp with hp | hp
 ·refine .inr ⟨a,o+1,c,hp,hb,fun i y hy=>?_⟩
  have:=hx (i+1) y (by simpa using hy)
  rw [show o+1+i=o+(i+1) by omega]
  exact this
 ·exact .inl (List.eq_nil_of_length_eq_zero (by omega))
def runeOf:Bys→Nat
 | [a]=>a.toNat
 | [a,b]=>a.toNat % 32 * 64+b.toNat % 64
 | [a,b,c]=>a.toNat % 16 * 4096+b.toNat % 64 * 64+c.toNat % 64
 | [a,b,c,e]=>a.toNat % 8 * 262144+b.toNat % 64 * 4096+c.toNat % 64 * 64+e.toNat % 64
 | _=>0
theorem get_lies {s:ByteArray}{a:Nat}{b:UInt8}{l:Bys} (h:Lies s a (b :: l)):s.get! a=b:=by
 obtain ⟨r,h⟩:=h
 have e:s.data.toList[a]? = some b:=by rw [← List.head?_drop,h];rfl
 rw [Array.getElem?_toList] at e
 show s.data[a]! = b
 rw [getElem!_def,e]
theorem follow_cases (b:Nat) (h:b < 256):(b < 128∧followV b=(0,0,0))∨(followV b).2.2 = -1∨(194≤b∧b < 224∧followV b=(128,191,1))∨(b=224∧followV b=(160,191,2))∨(b=237∧followV b=(128,159,2))∨(225≤b∧b < 240∧b≠237∧followV b=(128,191,2))∨(b=240∧followV b=(144,191,3))∨(b=244∧followV b=(128,143,3))∨(241≤b∧b < 244∧followV b=(128,191,3)):=by
 unfold followV
 repeat' split
 all_goals first
  | exact .inl ⟨by omega,rfl⟩
  | exact .inr (.inl rfl)
  | exact .inr (.inr (.inl ⟨by omega,by omega,rfl⟩))
  | exact .inr (.inr (.inr (.inl ⟨by omega,rfl⟩)))
  | exact .inr (.inr (.inr (.inr (.inl ⟨by omega,rfl⟩))))
  | exact .inr (.inr (.inr (.inr (.inr (.inl ⟨by omega,by omega,by omega,rfl⟩)))))
  | exact .inr (.inr (.inr (.inr (.inr (.inr (.inl ⟨by omega,rfl⟩))))))
  | exact .inr (.inr (.inr (.inr (.inr (.inr (.inr (.inl ⟨by omega,rfl⟩)))))))
  | exact .inr (.inr (.inr (.inr (.inr (.inr (.inr (.inr ⟨by omega,by omega,rfl⟩)))))))
theorem chunk_shape {c:Bys} (hc:Chunk c):(∃ a,c=[a]∧a.toNat < 128)∨(∃ a b,c=[a,b]∧194≤a.toNat∧a.toNat < 224∧128≤b.toNat∧b.toNat≤191)∨
  (∃ a b e,c=[a,b,e]∧224≤a.toNat∧a.toNat < 240∧128≤b.toNat∧b.toNat≤191∧(a.toNat=224→160≤b.toNat)∧(a.toNat=237→b.toNat≤159)∧128≤e.toNat∧e.toNat≤191)∨
  (∃ a b e f,c=[a,b,e,f]∧240≤a.toNat∧a.toNat≤244∧128≤b.toNat∧b.toNat≤191∧(a.toNat=240→144≤b.toNat)∧(a.toNat=244→b.toNat≤143)∧128≤e.toNat∧e.toNat≤191∧128≤f.toNat∧f.toNat≤191):=by
 obtain ⟨a,tl,rfl,hf,ht⟩:=hc
 have one:∀ lo hi:Int,tl.length=1→TailOk tl lo hi→∃ b,tl=[b]∧lo≤(b.toNat:Int)∧(b.toNat:Int)≤hi:=fun lo hi hl ht=>by
  match tl,hl,ht with
  | [b],_,ht=>exact ⟨b,rfl,ht.1,ht.2.1⟩
 have two:∀ lo hi:Int,tl.length=2→TailOk tl lo hi→∃ b e,tl=[b,e]∧lo≤(b.toNat:Int)∧(b.toNat:Int)≤hi∧(128:Int)≤e.toNat∧(e.toNat:Int)≤191:=fun lo hi hl ht=>by
  match tl,hl,ht with
  | [b,e],_,ht=>exact ⟨b,e,rfl,ht.1,ht.2.1,ht.2.2.1,ht.2.2.2.1⟩
 have three:∀ lo hi:Int,tl.length=3→TailOk tl lo hi→∃ b e f,tl=[b,e,f]∧lo≤(b.toNat:Int)∧(b.toNat:Int)≤hi∧(128:Int)≤e.toNat∧(e.toNat:Int)≤191∧(128:Int)≤f.toNat∧(f.toNat:Int)≤191:=fun lo hi hl ht=>by
  match tl,hl,ht with
  | [b,e,f],_,ht=>exact ⟨b,e,f,rfl,ht.1,ht.2.1,ht.2.2.1,ht.2.2.2.1,ht.2.2.2.2.1,ht.2.2.2.2.2.1⟩
 rcases follow_cases a.toNat a.toNat_lt with ⟨h0,e⟩ | e | ⟨h0,h1,e⟩ | ⟨h0,e⟩ | ⟨h0,e⟩ | ⟨h0,h1,h2,e⟩ | ⟨h0,e⟩ | ⟨h0,e⟩ | ⟨h0,h1,e⟩
 ·rw [e] at hf
  have:tl=[]:=List.eq_nil_of_length_eq_zero (by simp only at hf;omega)
  subst this
  exact .inl ⟨a,rfl,h0⟩
 ·rw [e] at hf
  omega
 ·rw [e] at hf ht
  obtain ⟨b,rfl,q1,q2⟩:=one _ _ (by simp only at hf;omega) ht
  simp only at q1 q2
  exact .inr (.inl ⟨a,b,rfl,h0,h1,by omega,by omega⟩)
 ·rw [e] at hf ht
  obtain ⟨b,e,rfl,q1,q2,q3,q4⟩:=two _ _ (by simp only at hf;omega) ht
  simp only at q1 q2
  exact .inr (.inr (.inl ⟨a,b,e,rfl,by omega,by omega,by omega,by omega,by omega,by omega,by omega,by omega⟩))
 ·rw [e] at hf ht
  obtain ⟨b,e,rfl,q1,q2,q3,q4⟩:=two _ _ (by simp only at hf;omega) ht
  simp only at q1 q2
  exact .inr (.inr (.inl ⟨a,b,e,rfl,by omega,by omega,by omega,by omega,by omega,by omega,by omega,by omega⟩))
 ·rw [e] at hf ht
  obtain ⟨b,e,rfl,q1,q2,q3,q4⟩:=two _ _ (by simp only at hf;omega) ht
  simp only at q1 q2
  exact .inr (.inr (.inl ⟨a,b,e,rfl,by omega,by omega,by omega,by omega,by omega,by omega,by omega,by omega⟩))
 ·rw [e] at hf ht
  obtain ⟨b,e,f,rfl,q1,q2,q3,q4,q5,q6⟩:=three _ _ (by simp only at hf;omega) ht
  simp only at q1 q2
  exact .inr (.inr (.inr ⟨a,b,e,f,rfl,by omega,by omega,by omega,by omega,by omega,by omega,by omega,by omega,by omega,by omega⟩))
 ·rw [e] at hf ht
  obtain ⟨b,e,f,rfl,q1,q2,q3,q4,q5,q6⟩:=three _ _ (by simp only at hf;omega) ht
  simp only at q1 q2
  exact .inr (.inr (.inr ⟨a,b,e,f,rfl,by omega,by omega,by omega,by omega,by omega,by omega,by omega,by omega,by omega,by omega⟩))
 ·rw [e] at hf ht
  obtain ⟨b,e,f,rfl,q1,q2,q3,q4,q5,q6⟩:=three _ _ (by simp only at hf;omega) ht
  simp only at q1 q2
  exact .inr (.inr (.inr ⟨a,b,e,f,rfl,by omega,by omega,by omega,by omega,by omega,by omega,by omega,by omega,by omega,by omega⟩))
theorem chunk_decode {s:ByteArray}{a:Nat}{c:Bys} (hc:Chunk c) (hl:Lies s a c):Utf8.decode s a=(runeOf c,c.length):=by
 have hle:=hl.le (by obtain ⟨b,tl,rfl,_⟩:=hc;simp)
 rw [Lib.decode_at]
 rcases chunk_shape hc with ⟨x,rfl,h⟩ | ⟨x,y,rfl,h⟩ | ⟨x,y,z,rfl,h⟩ | ⟨x,y,z,u,rfl,h⟩
 ·rw [get_lies hl]
  unfold Lib.decodeN
  rw [if_pos h]
  rfl
 ·have h1:=hl.cons.2.2
  rw [get_lies hl,get_lies h1]
  simp only [List.length_cons,List.length_nil] at hle
  unfold Lib.decodeN
  rw [if_neg (by omega),if_pos (by omega),if_pos (by omega)]
  rfl
 ·have h1:=hl.cons.2.2
  have h2:=h1.cons.2.2
  rw [get_lies hl,get_lies h1,show a+2=a+1+1 from rfl,get_lies h2]
  simp only [List.length_cons,List.length_nil] at hle
  unfold Lib.decodeN
  rw [if_neg (by omega),if_neg (by omega),if_pos (by omega),if_pos (by omega)]
  rfl
 ·have h1:=hl.cons.2.2
  have h2:=h1.cons.2.2
  have h3:=h2.cons.2.2
  rw [get_lies hl,get_lies h1,show a+2=a+1+1 from rfl,get_lies h2,show a+3=a+1+1+1 from rfl,get_lies h3]
  simp only [List.length_cons,List.length_nil] at hle
  unfold Lib.decodeN
  rw [if_neg (by omega),if_neg (by omega),if_neg (by omega),if_pos (by omega),if_pos (by omega)]
  rfl
theorem chunk_valid {c:Bys} (hc:Chunk c):runeOf c < 55296∨(57344≤runeOf c∧runeOf c≤1114111):=by
 rcases chunk_shape hc with ⟨x,rfl,h⟩ | ⟨x,y,rfl,h⟩ | ⟨x,y,z,rfl,h⟩ | ⟨x,y,z,u,rfl,h⟩ <;> simp only [runeOf] <;> omega
theorem u8_of (z:Int) (x:UInt8) (h:z=(x.toNat:Int)):z.toNat.toUInt8=x:=by
 subst h
 simp
theorem chunk_encode {c:Bys} (hc:Chunk c):Lib.encodeRune (runeOf c)=c:=by
 unfold Lib.encodeRune
 rcases chunk_shape hc with ⟨x,rfl,h⟩ | ⟨x,y,rfl,h⟩ | ⟨x,y,z,rfl,h⟩ | ⟨x,y,z,u,rfl,h⟩
 ·simp only [runeOf]
  rw [Lib.encodeRuneZ_one (by omega) (by omega),List.map_cons,List.map_nil,u8_of _ x rfl]
 ·simp only [runeOf]
  rw [Lib.encodeRuneZ_two (by omega) (by omega),List.map_cons,List.map_cons,List.map_nil,u8_of _ x (by omega),u8_of _ y (by omega)]
 ·simp only [runeOf]
  rw [Lib.encodeRuneZ_three (by omega),List.map_cons,List.map_cons,List.map_cons,List.map_nil,u8_of _ x (by omega),u8_of _ y (by omega),u8_of _ z (by omega)]
 ·simp only [runeOf]
  rw [Lib.encodeRuneZ_four (by omega) (by omega),List.map_cons,List.map_cons,List.map_cons,List.map_cons,List.map_nil,u8_of _ x (by omega),u8_of _ y (by omega),u8_of _ z (by omega),u8_of _ u (by omega)]
end Go.Proofs.Tryz
