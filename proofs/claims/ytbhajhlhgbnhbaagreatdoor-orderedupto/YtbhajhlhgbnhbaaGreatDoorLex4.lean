import Derived.Test.YtbhajhlhgbnhbaaGreatDoorStep13
import Derived.Test.YtbhajhlhgbnhbaaGreatDoorWh1
import Derived.Deep.MidRow
import Derived.WalkMore
set_option linter.all false
namespace Go.Proofs.Tryz
set_option maxHeartbeats 16000000
open Go.RowKit
set_option maxRecDepth 10000
def signsB:List ByteArray:=[⟨#[46,46]⟩,⟨#[47,47]⟩,⟨#[61,61]⟩,⟨#[33,61]⟩,⟨#[60,61]⟩,⟨#[62,61]⟩,⟨#[124,61]⟩,⟨#[46]⟩,⟨#[124]⟩,⟨#[44]⟩,⟨#[60]⟩,⟨#[62]⟩,⟨#[61]⟩,⟨#[43]⟩,⟨#[45]⟩,⟨#[42]⟩,⟨#[47]⟩,⟨#[37]⟩,⟨#[63]⟩,⟨#[40]⟩,⟨#[41]⟩,⟨#[91]⟩,⟨#[93]⟩,⟨#[123]⟩,⟨#[125]⟩,⟨#[58]⟩,⟨#[59]⟩]
def SignsIn (w:World):Prop:=w.rangeAt 0 0 (signsB.map Value.string)∧0 < w.heap.size
theorem SignsIn.below {w w':World} (h:SignsIn w) (k:Below w.heap.size w w'):SignsIn w' :=
 ⟨fun j v hv=>(k.cell (p:=⟨0,0+j,none⟩) h.2).trans (h.1 j v hv),Nat.lt_of_lt_of_le h.2 k.size⟩
def blanks:List UInt8→Nat
 | []=>0
 | c :: l=>if isBlankB c then blanks l+1 else 0
theorem blanks_le:∀ l,blanks l≤l.length
 | []=>Nat.le_refl _
 | c :: l=>by have:=blanks_le l;simp only [blanks,List.length_cons];split <;> omega
def lexL (s:ByteArray):Nat→Nat→Option (List Tok)
 | 0,_=>none
 | n+1,a =>
  if s.size≤a+blanks (s.data.toList.drop a) then some [⟨0,⟨#[]⟩,(a+blanks (s.data.toList.drop a):Nat)⟩]
  else match signsB.find? (fun p=>prefixB p.data.toList (s.data.toList.drop (a+blanks (s.data.toList.drop a)))) with
   | some p=>(lexL s n (a+blanks (s.data.toList.drop a)+p.size)).map (⟨7,p,(a+blanks (s.data.toList.drop a):Nat)⟩ :: ·)
   | none=>(longB s (a+blanks (s.data.toList.drop a))).bind fun (t,b)=>if t.kind == 1 then none else (lexL s n b).map (t :: ·)
theorem info_token:(Tryz.prog.info? 62).map (fun i=>(i.zero,i.size,i.bytes))=some (some (.agg #[.int .u8 0,.string ⟨#[]⟩,.int .i64 0]),3,32):=by kernel_rfl
theorem info_signs:(Tryz.prog.info? 109).map (·.size)=some 27:=by kernel_rfl
theorem idx0 (w:World):Sem.run Tryz.prog (Instr.index 109 (.agg (signsB.map Value.string).toArray) (.int .i64 0)) w = .ok (.string ⟨#[46,46]⟩) w:=by kernel_rfl
theorem idx1 (w:World):Sem.run Tryz.prog (Instr.index 109 (.agg (signsB.map Value.string).toArray) (.int .i64 1)) w = .ok (.string ⟨#[47,47]⟩) w:=by kernel_rfl
theorem idx2 (w:World):Sem.run Tryz.prog (Instr.index 109 (.agg (signsB.map Value.string).toArray) (.int .i64 2)) w = .ok (.string ⟨#[61,61]⟩) w:=by kernel_rfl
theorem idx3 (w:World):Sem.run Tryz.prog (Instr.index 109 (.agg (signsB.map Value.string).toArray) (.int .i64 3)) w = .ok (.string ⟨#[33,61]⟩) w:=by kernel_rfl
theorem idx4 (w:World):Sem.run Tryz.prog (Instr.index 109 (.agg (signsB.map Value.string).toArray) (.int .i64 4)) w = .ok (.string ⟨#[60,61]⟩) w:=by kernel_rfl
theorem idx5 (w:World):Sem.run Tryz.prog (Instr.index 109 (.agg (signsB.map Value.string).toArray) (.int .i64 5)) w = .ok (.string ⟨#[62,61]⟩) w:=by kernel_rfl
theorem idx6 (w:World):Sem.run Tryz.prog (Instr.index 109 (.agg (signsB.map Value.string).toArray) (.int .i64 6)) w = .ok (.string ⟨#[124,61]⟩) w:=by kernel_rfl
theorem idx7 (w:World):Sem.run Tryz.prog (Instr.index 109 (.agg (signsB.map Value.string).toArray) (.int .i64 7)) w = .ok (.string ⟨#[46]⟩) w:=by kernel_rfl
theorem idx8 (w:World):Sem.run Tryz.prog (Instr.index 109 (.agg (signsB.map Value.string).toArray) (.int .i64 8)) w = .ok (.string ⟨#[124]⟩) w:=by kernel_rfl
theorem idx9 (w:World):Sem.run Tryz.prog (Instr.index 109 (.agg (signsB.map Value.string).toArray) (.int .i64 9)) w = .ok (.string ⟨#[44]⟩) w:=by kernel_rfl
theorem idx10 (w:World):Sem.run Tryz.prog (Instr.index 109 (.agg (signsB.map Value.string).toArray) (.int .i64 10)) w = .ok (.string ⟨#[60]⟩) w:=by kernel_rfl
theorem idx11 (w:World):Sem.run Tryz.prog (Instr.index 109 (.agg (signsB.map Value.string).toArray) (.int .i64 11)) w = .ok (.string ⟨#[62]⟩) w:=by kernel_rfl
theorem idx12 (w:World):Sem.run Tryz.prog (Instr.index 109 (.agg (signsB.map Value.string).toArray) (.int .i64 12)) w = .ok (.string ⟨#[61]⟩) w:=by kernel_rfl
theorem idx13 (w:World):Sem.run Tryz.prog (Instr.index 109 (.agg (signsB.map Value.string).toArray) (.int .i64 13)) w = .ok (.string ⟨#[43]⟩) w:=by kernel_rfl
theorem idx14 (w:World):Sem.run Tryz.prog (Instr.index 109 (.agg (signsB.map Value.string).toArray) (.int .i64 14)) w = .ok (.string ⟨#[45]⟩) w:=by kernel_rfl
theorem idx15 (w:World):Sem.run Tryz.prog (Instr.index 109 (.agg (signsB.map Value.string).toArray) (.int .i64 15)) w = .ok (.string ⟨#[42]⟩) w:=by kernel_rfl
theorem idx16 (w:World):Sem.run Tryz.prog (Instr.index 109 (.agg (signsB.map Value.string).toArray) (.int .i64 16)) w = .ok (.string ⟨#[47]⟩) w:=by kernel_rfl
theorem idx17 (w:World):Sem.run Tryz.prog (Instr.index 109 (.agg (signsB.map Value.string).toArray) (.int .i64 17)) w = .ok (.string ⟨#[37]⟩) w:=by kernel_rfl
theorem idx18 (w:World):Sem.run Tryz.prog (Instr.index 109 (.agg (signsB.map Value.string).toArray) (.int .i64 18)) w = .ok (.string ⟨#[63]⟩) w:=by kernel_rfl
theorem idx19 (w:World):Sem.run Tryz.prog (Instr.index 109 (.agg (signsB.map Value.string).toArray) (.int .i64 19)) w = .ok (.string ⟨#[40]⟩) w:=by kernel_rfl
theorem idx20 (w:World):Sem.run Tryz.prog (Instr.index 109 (.agg (signsB.map Value.string).toArray) (.int .i64 20)) w = .ok (.string ⟨#[41]⟩) w:=by kernel_rfl
theorem idx21 (w:World):Sem.run Tryz.prog (Instr.index 109 (.agg (signsB.map Value.string).toArray) (.int .i64 21)) w = .ok (.string ⟨#[91]⟩) w:=by kernel_rfl
theorem idx22 (w:World):Sem.run Tryz.prog (Instr.index 109 (.agg (signsB.map Value.string).toArray) (.int .i64 22)) w = .ok (.string ⟨#[93]⟩) w:=by kernel_rfl
theorem idx23 (w:World):Sem.run Tryz.prog (Instr.index 109 (.agg (signsB.map Value.string).toArray) (.int .i64 23)) w = .ok (.string ⟨#[123]⟩) w:=by kernel_rfl
theorem idx24 (w:World):Sem.run Tryz.prog (Instr.index 109 (.agg (signsB.map Value.string).toArray) (.int .i64 24)) w = .ok (.string ⟨#[125]⟩) w:=by kernel_rfl
theorem idx25 (w:World):Sem.run Tryz.prog (Instr.index 109 (.agg (signsB.map Value.string).toArray) (.int .i64 25)) w = .ok (.string ⟨#[58]⟩) w:=by kernel_rfl
theorem idx26 (w:World):Sem.run Tryz.prog (Instr.index 109 (.agg (signsB.map Value.string).toArray) (.int .i64 26)) w = .ok (.string ⟨#[59]⟩) w:=by kernel_rfl
theorem index_sign (q:Nat) (p:ByteArray) (h:signsB[q]? = some p) (w:World):Sem.run Tryz.prog (Instr.index 109 (.agg (signsB.map Value.string).toArray) (.int .i64 (q:Int))) w = .ok (.string p) w:=by
 match q,h with
 | 0,h=>cases h;exact idx0 w
 | 1,h=>cases h;exact idx1 w
 | 2,h=>cases h;exact idx2 w
 | 3,h=>cases h;exact idx3 w
 | 4,h=>cases h;exact idx4 w
 | 5,h=>cases h;exact idx5 w
 | 6,h=>cases h;exact idx6 w
 | 7,h=>cases h;exact idx7 w
 | 8,h=>cases h;exact idx8 w
 | 9,h=>cases h;exact idx9 w
 | 10,h=>cases h;exact idx10 w
 | 11,h=>cases h;exact idx11 w
 | 12,h=>cases h;exact idx12 w
 | 13,h=>cases h;exact idx13 w
 | 14,h=>cases h;exact idx14 w
 | 15,h=>cases h;exact idx15 w
 | 16,h=>cases h;exact idx16 w
 | 17,h=>cases h;exact idx17 w
 | 18,h=>cases h;exact idx18 w
 | 19,h=>cases h;exact idx19 w
 | 20,h=>cases h;exact idx20 w
 | 21,h=>cases h;exact idx21 w
 | 22,h=>cases h;exact idx22 w
 | 23,h=>cases h;exact idx23 w
 | 24,h=>cases h;exact idx24 w
 | 25,h=>cases h;exact idx25 w
 | 26,h=>cases h;exact idx26 w
 | q+27,h=>simp [signsB] at h
theorem heap_new2 (w:World) (o1 o2:Obj):((w.alloc o1).alloc o2).heap[w.heap.size+1]? = some o2:=by
 have h:=heap_new (w.alloc o1) o2
 have e:(w.alloc o1).heap.size=w.heap.size+1:=by simp
 rw [e] at h;exact h
def tcells:List Tok→List Value
 | []=>[]
 | t :: l=>.int .u8 t.kind :: .string t.text :: .int .i64 t.pos :: tcells l
theorem tcells_length:∀ l,(tcells l).length=l.length * 3
 | []=>rfl
 | t :: l=>by simp [tcells,tcells_length l];omega
theorem tcells_snoc:∀ l t,tcells (l ++ [t])=tcells l ++ [.int .u8 t.kind,.string t.text,.int .i64 t.pos]
 | [],t=>rfl
 | u :: l,t=>by simp [tcells,tcells_snoc l t]
theorem toks_of_cells {w:World}{g:Nat}:∀ (l:List Tok) (o:Nat),(∀ i v,(tcells l)[i]? = some v→w.cell? ⟨g,o+i,none⟩=some v)→Toks w g o l
 | [],_,_=>trivial
 | t :: l,o,h=>⟨h 0 _ rfl,h 1 _ rfl,h 2 _ rfl,toks_of_cells l (o+3) fun i v hv=>by
   have:=h (i+3) v (by simpa [tcells] using hv)
   rw [show o+3+i=o+(i+3) by omega];exact this⟩
theorem longB_le {s:ByteArray}{a b:Nat}{t:Tok} (h:longB s a=some (t,b)):b≤s.size:=by
 unfold longB at h
 cases e:s.data.toList.drop a with
 | nil=>rw [e] at h;cases h
 | cons c l =>
  have hl:(s.data.toList.drop a).length=l.length+1:=by rw [e];rfl
  simp only [List.length_drop,size_list] at hl
  have h1:=nameLen_le (c :: l)
  have h2:=nameLen_le l
  have h3:=digLen_le (c :: l)
  simp only [List.length_cons] at h1 h3
  rw [e] at h
  simp only at h
  split at h
  ·simp only [Option.map_eq_some_iff,Prod.mk.injEq] at h
   obtain ⟨_,_,_,rfl⟩:=h
   omega
  ·split at h
   ·simp only [Option.map_eq_some_iff,Prod.mk.injEq] at h
    obtain ⟨_,_,_,rfl⟩:=h
    omega
   ·split at h
    ·split at h
     ·simp only [Option.some.injEq,Prod.mk.injEq] at h
      obtain ⟨_,rfl⟩:=h
      omega
     ·cases h
    ·split at h
     ·split at h
      ·rename_i hq
       simp only [Option.some.injEq,Prod.mk.injEq] at h
       obtain ⟨_,rfl⟩:=h
       have:=(List.getElem?_eq_some_iff.1 hq).1
       omega
      ·cases h
     ·cases h
theorem readTokens_ok (s:ByteArray) (n:Nat) (toks:List Tok) (w:World) (hs:s.size≤2000) (hn:n≤3000) (hS:SignsIn w) (h:lexL s n 0=some toks) :
  Calls Tryz.prog 15 #[.string s] w fun e w'=>∃ g cap,e = .returned (.slice (some ⟨g,0,none⟩) toks.length cap)∧w.heap.size≤g∧g < w'.heap.size∧Toks w' g 0 toks∧toks.length≤cap∧cap≤maxLen∧Below w.heap.size w w':=by
 obtain ⟨i0,hi0,hz0,hz1,hz2⟩:=info_parts info_token
 obtain ⟨cs,hcs⟩:∃ cs,signsB.map Value.string=cs:=⟨_,rfl⟩
 have hcl:cs.length=27:=by rw [← hcs];rfl
 go_enter Tryz.func15,Tryz.ntmps15
 go_wp2_with fail
 go_step3
 go_wp2_with fail
 go_step3
 go_wp2_with fail
 go_loopg [3,4] n (fun k v t wr=>∃ (acc:List Tok) (a:Nat) (rest:List Tok),a≤s.size∧t = .int .i64 a∧Below w.heap.size w wr∧wr.ownsRow w.heap.size 62 3 v acc.length (tcells acc)∧acc.length+k≤3000∧lexL s k a=some rest∧acc ++ rest=toks)
 case atStart=>exact ⟨[],0,toks,Nat.zero_le _,rfl,Below.refl _ _,World.ownsRow_nil _ _ _ _,by simpa using hn,h,rfl⟩
 case round =>
  obtain ⟨acc,a,rest,ha,rfl,hb,hown,hlen,h,ht⟩:=hrel
  match gk,h,hlen with
  | k+1,h,hlen =>
  obtain ⟨A,hA⟩:∃ A,a+blanks (s.data.toList.drop a)=A:=⟨_,rfl⟩
  have hAle:A≤s.size:=by have:=blanks_le (s.data.toList.drop a);simp only [List.length_drop,size_list] at this;omega
  simp only [lexL,hA] at h
  have HA:Hid _:=hA
  clear hA
  go_wp2_with fail
  go_loop [4] (fun t=>∃ j:Nat,a≤j∧j≤s.size∧t = .int .i64 j∧blanks (s.data.toList.drop j)+j=A) (fun t=>s.size - (intOf t).toNat)
  case atStart=>exact ⟨a,Nat.le_refl _,ha,rfl,by rw [← HA.out];omega⟩
  case round =>
   obtain ⟨j,hj1,hj2,rfl,hj⟩:=hrel
   by_cases hlt:j < s.size
   ·rw [drop_at s j hlt] at hj
    by_cases hbl:isBlankB s[j]=true
    ·simp only [blanks,hbl,if_true] at hj
     have HJ:Hid _:=hj
     clear hj
     go_wp2_with (go_at_call 34;refine (isBlank_any _ _).mono ?_;rintro e w1 ⟨rfl,h1⟩;subst w1;rw [hbl])
     go_round
     case rel=>exact ⟨j+1,by omega,by omega,by go_num,by have:=HJ.out;omega⟩
     case measure=>simp [intOf];omega
    ·have hbl:isBlankB s[j]=false:=by simpa using hbl
     have hjA:j=A:=by simp only [blanks,hbl,Bool.false_eq_true,if_false] at hj;omega
     clear hj
     subst hjA
     rw [if_neg (by omega)] at h
     have hne:¬ (j:Int)=(s.size:Int):=by omega
     go_wp2_with (first
      | (go_at_call 34;refine (isBlank_any _ _).mono ?_;rintro e w1 ⟨rfl,h1⟩;subst w1;rw [hbl])
      | (refine wpList_load_mid (by rfl) _ _ (by rfl) 0 0 (by rfl) cs _ (by rw [← hcs];exact (hS.below hb).1) Tryz.underlying109 rfl (by rw [info_signs,hcl]) ?_))
     obtain ⟨R,hR⟩:∃ R,signsB.find? (fun p=>prefixB p.data.toList (s.data.toList.drop j))=R:=⟨_,rfl⟩
     rw [hR] at h
     go_loop [3,4,31] (fun v t4 t=>v=u3∧t4 = .int .i64 j∧∃ i:Nat,i≤27∧t = .int .i64 i∧(signsB.drop i).find? (fun p=>prefixB p.data.toList (s.data.toList.drop j))=R) (fun _ _ t=>27 - (intOf t).toNat)
     case atStart=>exact ⟨rfl,rfl,0,by omega,rfl,hR⟩
     case round =>
      clear hR
      obtain ⟨rfl,rfl,i,hi27,rfl,hR⟩:=hrel
      by_cases hi:i < 27
      ·obtain ⟨p,hp⟩:∃ p,signsB[i]? = some p:=⟨_,List.getElem?_eq_getElem (by simpa [signsB] using hi)⟩
       have hidx:=index_sign i p hp
       rw [hcs] at hidx
       have hdr:signsB.drop i=p :: signsB.drop (i+1):=by
        rw [List.drop_eq_getElem_cons (by simpa [signsB] using hi)]
        rw [List.getElem?_eq_getElem (by simpa [signsB] using hi),Option.some.injEq] at hp
        rw [hp]
       have hps:p.size≤2:=by
        have hall:∀ q∈signsB,q.size≤2:=by decide
        exact hall p (List.mem_of_getElem? hp)
       have hex:(s.extract j s.size).data.toList=s.data.toList.drop j:=by rw [extract_list,List.take_of_length_le (by simp)]
       rw [hdr,List.find?_cons] at hR
       have hes:=extract_size s j s.size (by omega)
       have hi':(i:Int) < 27:=by omega
       have HX:Hid _:=hex
       have HP:Hid _:=hp
       clear hex hp hdr
       by_cases hpre:prefixB p.data.toList (s.data.toList.drop j)=true
       ·rw [hpre] at hR
        subst hR
        simp only [Option.map_eq_some_iff] at h
        obtain ⟨rest',hrest,rfl⟩:=h
        go_wp2_with (first
         | (go_at_call 35;refine (hasPrefix_any _ _ _ hes (by omega)).mono ?_;rintro e w1 ⟨rfl,h1⟩;subst w1;rw [HX.out,hpre])
         | (refine wpList_append_lies _ (by rfl) _ _ _ (by rfl) w.heap.size 62 i0 _ 3 32 Tryz.underlying55 hi0 hz0 hz1 hz2 rfl (by omega) u3 acc.length (tcells acc) (by rfl) (hown.alloc _) ⟨wr.heap.size,0,none⟩ 1 1 [.int .u8 7,.string p,.int .i64 j] (by rfl) (by rfl) (World.news_of_block (cs:=#[.int .u8 7,.string p,.int .i64 j]) (t:=62) (fr:=(0,0)) (heap_alloc_new wr _)) (by simp [Value.oneCell']) (by omega) (by unfold maxLen;omega) (by omega) (by have:=hb.size;simp;omega) (wr.heap.size+1) (by simp) ?_;intro g cap w6 hown6 hgrow hat hlt6))
        go_roundg k
        case measure=>omega
        case rel =>
         have hpl:p.size≤s.size - j:=by
          have h1:=(List.isPrefixOf_iff_prefix.1 (show p.data.toList.isPrefixOf (s.data.toList.drop j)=true from hpre)).length_le
          simpa [size_list] using h1
         refine ⟨acc ++ [⟨7,p,j⟩],j+p.size,rest',by omega,by go_num,?_,?_,by simp;omega,hrest,by rw [← ht];simp⟩
         ·exact (hb.alloc hb.size _).grown hgrow (by have:=hb.size;simp;omega) (fun q hq=>(hown.lt q hq).1)
         ·rw [tcells_snoc,List.length_append,List.length_singleton];exact hown6
       ·have hpre:prefixB p.data.toList (s.data.toList.drop j)=false:=by simpa using hpre
        rw [hpre] at hR
        simp only at hR
        go_wp2_with (go_at_call 35;refine (hasPrefix_any _ _ _ hes (by omega)).mono ?_;rintro e w1 ⟨rfl,h1⟩;subst w1;rw [HX.out,hpre])
        go_round
        case rel=>exact ⟨rfl,rfl,i+1,by omega,by go_num,hR⟩
        case measure=>simp [intOf];omega
      ·have hi2:i=27:=by omega
       subst hi2
       have hd0:signsB.drop 27=[]:=by decide
       rw [hd0] at hR
       simp only [List.find?_nil] at hR
       subst hR
       simp only [Option.bind_eq_some_iff,Prod.exists] at h
       obtain ⟨t,b,hl,h⟩:=h
       split at h
       ·cases h
       rename_i hk1
       have hk1:¬ t.kind=1:=by simpa using hk1
       simp only [Option.map_eq_some_iff] at h
       obtain ⟨rest',hrest,rfl⟩:=h
       go_wp2_with (first
        | (go_at_call 36;refine (readLong_ok s j b t _ (by omega) hlt hl).mono ?_;rintro e w2 ⟨rfl,h2⟩)
        | (refine wpList_append_lies _ (by rfl) _ _ _ (by rfl) w.heap.size 62 i0 _ 3 32 Tryz.underlying55 hi0 hz0 hz1 hz2 rfl (by omega) u3 acc.length (tcells acc) (by rfl) ((owns_same hown (fun q hq=>h2.block q (hown.lt q hq).2)).alloc _ |>.alloc _) ⟨w2.heap.size+1,0,none⟩ 1 1 [.int .u8 t.kind,.string t.text,.int .i64 t.pos] (by rfl) (by rfl) (World.news_of_block (cs:=#[.int .u8 t.kind,.string t.text,.int .i64 t.pos]) (t:=62) (fr:=(0,0)) (heap_new2 w2 _ _)) (by simp [Value.oneCell']) (by omega) (by unfold maxLen;omega) (by omega) (by have:=hb.size;have:=h2.size;simp;omega) (w2.heap.size+2) (by simp) ?_;intro g cap w6 hown6 hgrow hat hlt6;have d0:w6.cell? ⟨w2.heap.size,0,none⟩=some (.int .u8 t.kind):=hgrow.cell (by simp) (fun e=>by have:=(hown.lt _ e.symm).2;have:=h2.size;simp only at *;omega)))
       go_roundg k
       case measure=>omega
       case rel =>
        have hbs:b≤s.size:=longB_le hl
        refine ⟨acc ++ [t],b,rest',hbs,rfl,?_,?_,by simp;omega,hrest,by rw [← ht];simp⟩
        ·have hb2:Below w.heap.size w w2:=hb.trans (h2.mono hb.size)
         exact ((hb2.alloc hb2.size _).alloc (by have:=hb2.size;simp;omega) _).grown hgrow (by have:=hb2.size;simp;omega) (fun q hq=>(hown.lt q hq).1)
        ·rw [tcells_snoc,List.length_append,List.length_singleton];exact hown6
   ·have hjA:j=A:=by
     have hdrop:s.data.toList.drop j=[]:=List.drop_eq_nil_of_le (by simp;omega)
     rw [hdrop] at hj
     simp only [blanks] at hj;omega
    clear hj
    subst hjA
    have hjs:j=s.size:=by omega
    rw [if_pos (by omega)] at h
    cases h
    have hge:(j:Int)=(s.size:Int):=by omega
    clear hjs
    have HJ:Hid _:=hge
    clear hge
    have hnl:¬ (j:Int) < (s.size:Int):=by have:=HJ.out;omega
    have heq:(s.size:Int)=(j:Int):=HJ.out.symm
    go_wp2_with (refine wpList_append_lies _ (by rfl) _ _ _ (by rfl) w.heap.size 62 i0 _ 3 32 Tryz.underlying55 hi0 hz0 hz1 hz2 rfl (by omega) u3 acc.length (tcells acc) (by rfl) (hown.alloc _) ⟨wr.heap.size,0,none⟩ 1 1 [.int .u8 0,.string ⟨#[]⟩,.int .i64 j] (by rfl) (by rfl) (World.news_of_block (cs:=#[.int .u8 0,.string ⟨#[]⟩,.int .i64 j]) (t:=62) (fr:=(0,0)) (heap_alloc_new wr _)) (by simp [Value.oneCell']) (by omega) (by unfold maxLen;omega) (by omega) (by have:=hb.size;simp;omega) (wr.heap.size+1) (by simp) ?_;intro g cap w6 hown6 hgrow hat hlt6)
    go_ret
    have hl1:(acc ++ [(⟨0,⟨#[]⟩,(j:Nat)⟩:Tok)]).length=acc.length+1:=by simp
    obtain ⟨_,hh | ⟨g',c',cur,hv,hg,hbk,hn2,hcap,hsz,htk⟩⟩:=hown6
    ·cases hh.1
    ·cases hv
     have hB:Below w.heap.size w w6:=(hb.alloc hb.size _).grown hgrow (by have:=hb.size;simp;omega) (fun q hq=>(hown.lt q hq).1)
     refine ⟨g,cap,by rw [← ht,hl1];rfl,hg,hlt6,?_,by rw [← ht,hl1];exact hn2,hcap,hB⟩
     rw [← ht]
     refine toks_of_cells _ 0 fun i v hiv=>?_
     rw [tcells_snoc] at hiv
     rw [Nat.zero_add]
     have hi3:i < (acc.length+1) * 3:=by
      have:=(List.getElem?_eq_some_iff.1 hiv).1
      simp [tcells_length] at this;omega
     rw [← htk,List.getElem?_take_of_lt hi3] at hiv
     simpa [World.cell?,hbk] using hiv
end Go.Proofs.Tryz
