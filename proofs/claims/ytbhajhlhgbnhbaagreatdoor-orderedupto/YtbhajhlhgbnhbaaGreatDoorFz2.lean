import Derived.Test.YtbhajhlhgbnhbaaGreatDoorFz1
import Derived.Lib.OthersKept
set_option linter.all false
namespace Go.Proofs.Tryz
set_option maxHeartbeats 16000000
open Go.RowKit
set_option maxRecDepth 10000
def AppendsIntK:Prop:=∀ (B n:Nat) (i:Int) (sv:Value) (xs:List Value) (w:World),-9223372036854775808≤i→i≤9223372036854775807→w.ownsRow B 5 1 sv n xs→B≤w.heap.size→n+21≤140737488355328→Lib.TabBelow Tryz.prog B w "internal/strconv.uint64pow10" .u64 Lib.pow10Tab→
 Calls Tryz.prog 32 #[sv,.int .i64 i,.int .i64 10] w fun e w'=>∃ v',e = .returned v'∧w'.ownsRow B 5 1 v' (n+(Lib.itoa i).length) (xs ++ Lib.byteCells (Lib.itoa i))∧Below B w w'∧Lib.OthersKept 5 none w w'
structure Fm where
 obj:Bool
 row:Value
 next:Nat
 its:List (IV×Bys)
 ms:List El
def Fm.cells (f:Fm):List Value:=[.int .u8 (if f.obj then 125 else 93),if f.obj then .slice none 0 0 else f.row,if f.obj then f.row else .slice none 0 0,.int .i64 f.next]
def Fm.texts (f:Fm):List Bys:=if f.obj then f.ms.map (fun x=>memT (elP x)) else f.its.map (·.2)
def restI:Bool→List Bys→Bys
 | _,[]=>[]
 | true,t :: r=>t ++ restI false r
 | false,t :: r=>44 :: (t ++ restI false r)
def Fm.rest (f:Fm):Bys:=restI (f.next == 0) (f.texts.drop f.next) ++ [if f.obj then 125 else 93]
def restAll (fs:List Fm):Bys:=fs.reverse.flatMap Fm.rest
theorem restAll_app (fs:List Fm) (f:Fm):restAll (fs ++ [f])=f.rest ++ restAll fs:=by simp [restAll]
theorem restI_false:∀ (u:Bys) (r:List Bys),restI false (u :: r)=44 :: joinT (u :: r)
 | u,[]=>by simp [restI,joinT]
 | u,v :: r=>by
  have ih:=restI_false v r
  rw [restI,ih,joinT]
theorem join_rest:∀ ts:List Bys,joinT ts=restI true ts
 | []=>rfl
 | [t]=>by simp [joinT,restI]
 | t :: u :: r=>by rw [joinT,restI,restI_false]
def FOk (w:World) (W:Nat) (f:Fm):Prop :=
 (if f.obj then w.ownsRow 0 107 2 f.row f.ms.length (f.ms.flatMap elC)∧∀ x∈f.ms,Vl w (· < W) x.2.1 x.2.2
 else w.ownsRow 0 32 1 f.row f.its.length (f.its.map itC)∧∀ x∈f.its,Vl w (· < W) x.1 x.2)∧(∀ g,f.row.ownBlock=some g→g < W)∧f.next≤f.texts.length
theorem FOk.keep {w w':World}{W:Nat}{f:Fm} (h:FOk w W f) (hb:∀ b,b < W→w'.heap[b]? = w.heap[b]?):FOk w' W f:=by
 obtain ⟨h1,h2,h3⟩:=h
 refine ⟨?_,h2,h3⟩
 split
 ·rename_i ho
  rw [if_pos ho] at h1
  exact ⟨owns_same h1.1 (fun k hk=>hb k (h2 k hk)),fun x hx=>(h1.2 x hx).mono (fun g hg=>⟨hg,hb g hg⟩)⟩
 ·rename_i ho
  rw [if_neg ho] at h1
  exact ⟨owns_same h1.1 (fun k hk=>hb k (h2 k hk)),fun x hx=>(h1.2 x hx).mono (fun g hg=>⟨hg,hb g hg⟩)⟩
structure WS (w:World) (B W:Nat) (out:Bys) (fs:List Fm):Prop where
 lt:W < B
 le:B≤w.heap.size
 has:∃ ov pv,w.heap[W]? = some (.cells #[ov,pv] 53 (0,0))∧w.ownsRow B 5 1 ov out.length (Lib.byteCells out)∧w.ownsRow B 104 4 pv fs.length (fs.flatMap Fm.cells)
 ok:∀ f∈fs,FOk w W f
theorem others_row {w w1:World}{B n s:Nat}{e:TypeId}{pv:Value}{xs:List Value} (hok:Lib.OthersKept 5 none w w1) (h:w.ownsRow B e s pv n xs) (he:e≠5):w1.ownsRow B e s pv n xs :=
 owns_same h (fun k hk=>by
  obtain ⟨c,fz,hc⟩:=own_kind h k hk
  rw [hc]
  exact hok k _ hc (by simp) (fun c' fz' e'=>by cases e';exact he rfl))
theorem WS.wrote {w w1:World}{B W:Nat}{out more:Bys}{fs:List Fm}{pv ov v':Value} (hlt:W < B) (hle:B≤w.heap.size) (hb:w.heap[W]? = some (.cells #[ov,pv] 53 (0,0))) (hpv:w.ownsRow B 104 4 pv fs.length (fs.flatMap Fm.cells)) (hfs:∀ f∈fs,FOk w W f) (k1:Below B w w1) (hok:Lib.OthersKept 5 none w w1) (hown1:w1.ownsRow B 5 1 v' (out.length+more.length) (Lib.byteCells out ++ Lib.byteCells more)) :
  WS (w1.setCell ⟨W,0,none⟩ v') B W (out ++ more) fs∧Fr (fun k=>k=W∨B≤k) w (w1.setCell ⟨W,0,none⟩ v'):=by
 have hb1:w1.heap[W]? = some (.cells #[ov,pv] 53 (0,0)):=(k1.block W hlt).trans hb
 have hp1:=others_row hok hpv (by decide)
 refine ⟨⟨hlt,by simpa using Nat.le_trans hle k1.size,⟨v',pv,two_set0 hb1,?_,?_⟩,fun f hf=>(hfs f hf).keep (fun b hb2=>?_)⟩,?_⟩
 ·have:=owns_off (o:=0) (u:=v') hown1 hlt
  rw [List.length_append,byteCells_append]
  exact this
 ·exact owns_same hp1 (fun k hk=>Below.heap_setCell _ _ _ _ (by have:=(hp1.lt k hk).1;simp;omega))
 ·rw [Below.heap_setCell _ _ _ _ (by simp;omega)]
  exact k1.block b (by omega)
 ·exact Fr.setCell ⟨k1.os,k1.tape,k1.output,k1.size,fun k hk hd=>k1.block k (by omega)⟩ _ (.inl (.inl rfl))
def BegW (B W:Nat) (out:Bys) (fs:List Fm) (c:Bys) (w w':World):Prop:=(∃ out' new,WS w' B W out' (fs ++ new)∧out' ++ restAll (fs ++ new)=out ++ (c ++ restAll fs)∧out.length < out'.length)∧Fr (fun k=>k=W∨B≤k) w w'
theorem BegW.leaf {w w1 w':World}{B W:Nat}{out more:Bys}{fs:List Fm} (h:WS w' B W (out ++ more) fs∧Fr (fun k=>k=W∨B≤k) w w') (hm:more≠[]):BegW B W out fs more w w':=by
 refine ⟨⟨out ++ more,[],by simpa using h.1,by simp,?_⟩,h.2⟩
 have:=List.length_pos_iff.2 hm
 rw [List.length_append]
 omega
theorem wbegin_str {w:World}{B W:Nat}{out:Bys}{fs:List Fm} (s:ByteArray) (hs:s.size≤50000000) (h:WS w B W out fs) (ho:out.length≤10000000000) :
  Calls Tryz.prog 13 #[.pointer (some ⟨W,0,none⟩),.iface 100 (.string s)] w fun e w'=>e = .returned (.tuple #[])∧BegW B W out fs (quoteL s.data.toList) w w':=by
 obtain ⟨hlt,hle,⟨ov,pv,hb,hown,hpv⟩,hfs⟩:=h
 obtain ⟨c0,c1,c2,c3,c4⟩:=two_c0 hb
 obtain ⟨oa,ol,oc,rfl⟩:=owns_shape hown
 have m0:=missVNull;have m1:=missVNumber;have m2:=hitVString;have m3:=missVArray;have m4:=missVObject;have m5:=missVBool
 go_enter Tryz.func13,Tryz.ntmps13
 go_wp2_with (go_at_call 33;refine (appendString_any s (by omega) hown hle ho).mono ?_;rintro e w1 ⟨v',rfl,hown1,k1,hok⟩;obtain ⟨a',l',c',rfl⟩:=owns_shape hown1;obtain ⟨d0,d1,d2,d3,d4⟩:=two_c0 ((k1.block W hlt).trans hb))
 go_end0
 exact ⟨rfl,BegW.leaf (w1:=w1) (WS.wrote hlt hle hb hpv hfs k1 hok hown1) (by simp [quoteL])⟩
theorem itoa_ne (n:Int):Lib.itoa n≠[]:=by
 unfold Lib.itoa
 split
 ·simp
 ·exact dec_ne _
theorem wbegin_num (hA:AppendsIntK) {w:World}{B W:Nat}{out:Bys}{fs:List Fm} (n:Int) (h0 : -9223372036854775808≤n) (h1:n≤9223372036854775807) (h:WS w B W out fs) (ho:out.length≤10000000000) (ht:Lib.TabBelow Tryz.prog B w "internal/strconv.uint64pow10" .u64 Lib.pow10Tab) :
  Calls Tryz.prog 13 #[.pointer (some ⟨W,0,none⟩),.iface 98 (.int .i64 n)] w fun e w'=>e = .returned (.tuple #[])∧BegW B W out fs (Lib.itoa n) w w':=by
 obtain ⟨hlt,hle,⟨ov,pv,hb,hown,hpv⟩,hfs⟩:=h
 obtain ⟨c0,c1,c2,c3,c4⟩:=two_c0 hb
 obtain ⟨oa,ol,oc,rfl⟩:=owns_shape hown
 have m0:=missVNull;have m1:=hitVNumber;have m2:=missVString;have m3:=missVArray;have m4:=missVObject;have m5:=missVBool
 go_enter Tryz.func13,Tryz.ntmps13
 go_wp2_with (go_at_call 32;refine (hA B _ n _ _ _ h0 h1 hown hle (by omega) ht).mono ?_;rintro e w1 ⟨v',rfl,hown1,k1,hok⟩;obtain ⟨a',l',c',rfl⟩:=owns_shape hown1;obtain ⟨d0,d1,d2,d3,d4⟩:=two_c0 ((k1.block W hlt).trans hb))
 go_end0
 exact ⟨rfl,BegW.leaf (w1:=w1) (WS.wrote hlt hle hb hpv hfs k1 hok hown1) (itoa_ne n)⟩
theorem iAppendBool_any {w:World}{B:Nat}{sv:Value}{out:Bys} (b:Bool) (hown:w.ownsRow B 5 1 sv out.length (Lib.byteCells out)) (hB:B≤w.heap.size) (ho:out.length≤10000000000) :
  Calls Tryz.prog 74 #[sv,.bool b] w fun e w'=>∃ v',e = .returned v'∧w'.ownsRow B 5 1 v' (out.length+(boolT b).length) (Lib.byteCells out ++ Lib.byteCells (boolT b))∧Below B w w'∧Lib.OthersKept 5 none w w':=by
 obtain ⟨i0,hi0,hz0,hz1,hz2⟩:=info_parts (show (Tryz.prog.info? 5).map (fun i=>(i.zero,i.size,i.bytes))=some (some (.int .u8 0),1,1) by kernel_rfl)
 obtain ⟨oa,ol,oc,rfl⟩:=owns_shape hown
 cases b with
 | true =>
  go_enter Tryz.func74,Tryz.ntmps74
  go_wp2_with (refine Lib.wpList_append_own_string _ (by rfl) _ _ 50 9 (by rfl) B 5 i0 Tryz.underlying50 Tryz.underlying9 hi0 hz0 hz1 hz2 _ out.length (Lib.byteCells out) (by rfl) hown ⟨#[116,114,117,101]⟩ (by rfl) (by unfold maxLen;simp [ByteArray.size];omega) (by simp [ByteArray.size];omega) hB ?_;intro v' w1 hown1 hgrow1 _;obtain ⟨a',l',c',rfl⟩:=owns_shape hown1)
  go_ret
  exact ⟨_,rfl,hown1,(Below.refl B w).grown hgrow1 hB (fun q hq=>(hown.lt q hq).1),(Lib.OthersKept.refl _ _ w).grown hgrow1 (own_kind hown)⟩
 | false =>
  go_enter Tryz.func74,Tryz.ntmps74
  go_wp2_with (refine Lib.wpList_append_own_string _ (by rfl) _ _ 50 9 (by rfl) B 5 i0 Tryz.underlying50 Tryz.underlying9 hi0 hz0 hz1 hz2 _ out.length (Lib.byteCells out) (by rfl) hown ⟨#[102,97,108,115,101]⟩ (by rfl) (by unfold maxLen;simp [ByteArray.size];omega) (by simp [ByteArray.size];omega) hB ?_;intro v' w1 hown1 hgrow1 _;obtain ⟨a',l',c',rfl⟩:=owns_shape hown1)
  go_ret
  exact ⟨_,rfl,hown1,(Below.refl B w).grown hgrow1 hB (fun q hq=>(hown.lt q hq).1),(Lib.OthersKept.refl _ _ w).grown hgrow1 (own_kind hown)⟩
theorem AppendBool_any {w:World}{B:Nat}{sv:Value}{out:Bys} (b:Bool) (hown:w.ownsRow B 5 1 sv out.length (Lib.byteCells out)) (hB:B≤w.heap.size) (ho:out.length≤10000000000) :
  Calls Tryz.prog 31 #[sv,.bool b] w fun e w'=>∃ v',e = .returned v'∧w'.ownsRow B 5 1 v' (out.length+(boolT b).length) (Lib.byteCells out ++ Lib.byteCells (boolT b))∧Below B w w'∧Lib.OthersKept 5 none w w':=by
 obtain ⟨oa,ol,oc,rfl⟩:=owns_shape hown
 go_enter Tryz.func31,Tryz.ntmps31
 go_wp2_with (go_at_call 74;refine (iAppendBool_any b hown hB ho).mono ?_;rintro e w1 ⟨v',rfl,hown1,k1,g1⟩;obtain ⟨a',l',c',rfl⟩:=owns_shape hown1)
 go_ret
 exact ⟨_,rfl,hown1,k1,g1⟩
theorem wbegin_bool {w:World}{B W:Nat}{out:Bys}{fs:List Fm} (b:Bool) (h:WS w B W out fs) (ho:out.length≤10000000000) :
  Calls Tryz.prog 13 #[.pointer (some ⟨W,0,none⟩),.iface 96 (.bool b)] w fun e w'=>e = .returned (.tuple #[])∧BegW B W out fs (boolT b) w w':=by
 obtain ⟨hlt,hle,⟨ov,pv,hb,hown,hpv⟩,hfs⟩:=h
 obtain ⟨c0,c1,c2,c3,c4⟩:=two_c0 hb
 obtain ⟨oa,ol,oc,rfl⟩:=owns_shape hown
 have m0:=missVNull;have m1:=missVNumber;have m2:=missVString;have m3:=missVArray;have m4:=missVObject;have m5:=hitVBool
 go_enter Tryz.func13,Tryz.ntmps13
 go_wp2_with (go_at_call 31;refine (AppendBool_any b hown hle ho).mono ?_;rintro e w1 ⟨v',rfl,hown1,k1,hok⟩;obtain ⟨a',l',c',rfl⟩:=owns_shape hown1;obtain ⟨d0,d1,d2,d3,d4⟩:=two_c0 ((k1.block W hlt).trans hb))
 go_end0
 exact ⟨rfl,BegW.leaf (w1:=w1) (WS.wrote hlt hle hb hpv hfs k1 hok hown1) (by cases b <;> simp [boolT])⟩
theorem wbegin_null {w:World}{B W:Nat}{out:Bys}{fs:List Fm} (h:WS w B W out fs) (ho:out.length≤10000000000) :
  Calls Tryz.prog 13 #[.pointer (some ⟨W,0,none⟩),.iface 95 (.agg #[])] w fun e w'=>e = .returned (.tuple #[])∧BegW B W out fs [110,117,108,108] w w':=by
 obtain ⟨i0,hi0,hz0,hz1,hz2⟩:=info_parts (show (Tryz.prog.info? 5).map (fun i=>(i.zero,i.size,i.bytes))=some (some (.int .u8 0),1,1) by kernel_rfl)
 obtain ⟨hlt,hle,⟨ov,pv,hb,hown,hpv⟩,hfs⟩:=h
 obtain ⟨c0,c1,c2,c3,c4⟩:=two_c0 hb
 obtain ⟨oa,ol,oc,rfl⟩:=owns_shape hown
 have m0:=hitVNull;have m1:=missVNumber;have m2:=missVString;have m3:=missVArray;have m4:=missVObject;have m5:=missVBool
 go_enter Tryz.func13,Tryz.ntmps13
 go_wp2_with (refine Lib.wpList_append_own_string _ (by rfl) _ _ 50 9 (by rfl) B 5 i0 Tryz.underlying50 Tryz.underlying9 hi0 hz0 hz1 hz2 _ out.length (Lib.byteCells out) (by rfl) (by first | exact hown | exact hown.alloc _) ⟨#[110,117,108,108]⟩ (by rfl) (by unfold maxLen;simp [ByteArray.size];omega) (by simp [ByteArray.size];omega) (by first | exact hle | (simp;omega)) ?_;intro v' w1 hown1 hgrow1 _;obtain ⟨a',l',c',rfl⟩:=owns_shape hown1;have k1:Below B w w1:=(by first | exact (Below.refl B w).grown hgrow1 hle (fun q hq=>(hown.lt q hq).1) | exact ((Below.refl B w).alloc hle _).grown hgrow1 (by simp;omega) (fun q hq=>(hown.lt q hq).1));have hok:Lib.OthersKept 5 none w w1:=(by first | exact (Lib.OthersKept.refl _ _ w).grown hgrow1 (own_kind hown) | exact ((Lib.OthersKept.refl _ _ w).alloc _).grown hgrow1 (own_kind (hown.alloc _)));obtain ⟨d0,d1,d2,d3,d4⟩:=two_c0 ((k1.block W hlt).trans hb))
 go_end0
 exact ⟨rfl,BegW.leaf (w1:=w1) (WS.wrote hlt hle hb hpv hfs k1 hok hown1) (by simp)⟩
end Go.Proofs.Tryz
