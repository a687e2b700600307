import Derived.Test.YtndoeeampclfaaaGreatDoorFz1
import Derived.Lib.OthersKept
set_option linter.all false
namespace Go.Proofs.Tryz
set_option maxHeartbeats 16000000
open Go.RowKit
set_option maxRecDepth 10000
def AppendsIntK:Prop:=∀ (B n:Nat) (i:Int) (sv:Value) (xs:List Value) (w:World),-9223372036854775808≤i→i≤9223372036854775807→w.ownsRow B 5 1 sv n xs→B≤w.heap.size→n+21≤140737488355328→Lib.TabBelow Tryz.prog B w "internal/strconv.uint64pow10" .u64 Lib.pow10Tab→
 Calls Tryz.prog 32 #[sv,.int .i64 i,.int .i64 10] w fun e w'=>∃ v',e = .returned v'∧w'.ownsRow B 5 1 v' (n+(Lib.itoa i).length) (xs ++ Lib.byteCells (Lib.itoa i))∧Below B w w'∧Lib.OthersKept 5 none w w'
structure Fm where
 obj:Bool
 row:Value
 next:Nat
 its:List (IV×Bys)
 ms:List El
def Fm.cells (f:Fm):List Value:=[.int .u8 (if f.obj then 125 else 93),if f.obj then .slice none 0 0 else f.row,if f.obj then f.row else .slice none 0 0,.int .i64 f.next]
def Fm.texts (f:Fm):List Bys:=if f.obj then f.ms.map (fun x=>memT (elP x)) else f.its.map (·.2)
def restI:Bool→List Bys→Bys
 | _,[]=>[]
 | true,t :: r=>t ++ restI false r
 | false,t :: r=>44 :: (t ++ restI false r)
def Fm.rest (f:Fm):Bys:=restI (f.next == 0) (f.texts.drop f.next) ++ [if f.obj then 125 else 93]
def restAll (fs:List Fm):Bys:=fs.reverse.flatMap Fm.rest
theorem restAll_app (fs:List Fm) (f:Fm):restAll (fs ++ [f])=f.rest ++ restAll fs:=by simp [restAll]
theorem restI_false:∀ (u:Bys) (r:List Bys),restI false (u :: r)=44 :: joinT (u :: r)
 | u,[]=>by simp [restI,joinT]
 | u,v :: r=>by
  have ih:=restI_false v r
  rw [restI,ih,joinT]
theorem join_rest:∀ ts:List Bys,joinT ts=restI true ts
 | []=>rfl
 | [t]=>by simp [joinT,restI]
 | t :: u :: r=>by rw [joinT,restI,restI_false]
def FOk (w:World) (W:Nat) (f:Fm):Prop :=
 (if f.obj then w.ownsRow 0 107 2 f.row f.ms.length (f.ms.flatMap elC)∧∀ x∈f.ms,Vl w (· < W) x.2.1 x.2.2
 else w.ownsRow 0 32 1 f.row f.its.length (f.its.map itC)∧∀ x∈f.its,Vl w (· < W) x.1 x.2)∧(∀ g,f.row.ownBlock=some g→g < W)∧f.next≤f.texts.length
theorem FOk.keep {w w':World}{W:Nat}{f:Fm} (h:FOk w W f) (hb:∀ b,b < W→w'.heap[b]? = w.heap[b]?):FOk w' W f:=by
 obtain ⟨h1,h2,h3⟩:=h
 refine ⟨?_,h2,h3⟩
 split
 ·rename_i ho
  rw [if_pos ho] at h1
  exact ⟨owns_same h1.1 (fun k hk=>hb k (h2 k hk)),fun x hx=>(h1.2 x hx).mono (fun g hg=>⟨hg,hb g hg⟩)⟩
 ·rename_i ho
  rw [if_neg ho] at h1
  exact ⟨owns_same h1.1 (fun k hk=>hb k (h2 k hk)),fun x hx=>(h1.2 x hx).mono (fun g hg=>⟨hg,hb g hg⟩)⟩
structure WS (w:World) (B W:Nat) (out:Bys) (fs:List Fm):Prop where
 lt:W < B
 le:B≤w.heap.size
 has:∃ ov pv,w.heap[W]? = some (.cells #[ov,pv] 53 (0,0))∧w.ownsRow B 5 1 ov out.length (Lib.byteCells out)∧w.ownsRow B 104 4 pv fs.length (fs.flatMap Fm.cells)
 ok:∀ f∈fs,FOk w W f
theorem others_row {w w1:World}{B n s:Nat}{e:TypeId}{pv:Value}{xs:List Value} (hok:Lib.OthersKept 5 none w w1) (h:w.ownsRow B e s pv n xs) (he:e≠5):w1.ownsRow B e s pv n xs :=
 owns_same h (fun k hk=>by
  obtain ⟨c,fz,hc⟩:=own_kind h k hk
  rw [hc]
  exact hok k _ hc (by simp) (fun c' fz' e'=>by cases e';exact he rfl))
theorem WS.wrote {w w1:World}{B W:Nat}{out more:Bys}{fs:List Fm}{pv ov v':Value} (hlt:W < B) (hle:B≤w.heap.size) (hb:w.heap[W]? = some (.cells #[ov,pv] 53 (0,0))) (hpv:w.ownsRow B 104 4 pv fs.length (fs.flatMap Fm.cells)) (hfs:∀ f∈fs,FOk w W f) (k1:Below B w w1) (hok:Lib.OthersKept 5 none w w1) (hown1:w1.ownsRow B 5 1 v' (out.length+more.length) (Lib.byteCells out ++ Lib.byteCells more)) :
  WS (w1.setCell ⟨W,0,none⟩ v') B W (out ++ more) fs∧Fr (fun k=>k=W∨B≤k) w (w1.setCell ⟨W,0,none⟩ v'):=by
 have hb1:w1.heap[W]? = some (.cells #[ov,pv] 53 (0,0)):=(k1.block W hlt).trans hb
 have hp1:=others_row hok hpv (by decide)
 refine ⟨⟨hlt,by simpa using Nat.le_trans hle k1.size,⟨v',pv,two_set0 hb1,?_,?_⟩,fun f hf=>(hfs f hf).keep (fun b hb2=>?_)⟩,?_⟩
 ·have:=owns_off (o:=0) (u:=v') hown1 hlt
  rw [List.length_append,byteCells_append]
  exact this
 ·exact owns_same hp1 (fun k hk=>Below.heap_setCell _ _ _ _ (by have:=(hp1.lt k hk).1;simp;omega))
 ·rw [Below.heap_setCell _ _ _ _ (by simp;omega)]
  exact k1.block b (by omega)
 ·exact Fr.setCell ⟨k1.os,k1.tape,k1.output,k1.size,fun k hk hd=>k1.block k (by omega)⟩ _ (.inl (.inl rfl))
def BegW (B W:Nat) (out:Bys) (fs:List Fm) (c:Bys) (w w':World):Prop:=(∃ out' new,WS w' B W out' (fs ++ new)∧out' ++ restAll (fs ++ new)=out ++ (c ++ restAll fs)∧out.length < out'.length)∧Fr (fun k=>k=W∨B≤k) w w'
theorem BegW.leaf {w w1 w':World}{B W:Nat}{out more:Bys}{fs:List Fm} (h:WS w' B W (out ++ more) fs∧Fr (fun k=>k=W∨B≤k) w w') (hm:more≠[]):BegW B W out fs more w w':=by
 refine ⟨⟨out ++ more,[],by simpa using h.1,by simp,?_⟩,h.2⟩
 have:=List.length_pos_iff.2 hm
 rw [List.length_append]
 omega
theorem wbegin_str {w:World}{B W:Nat}{out:Bys}{fs:List Fm} (s:ByteArray) (hs:s.size≤50000000) (h:WS w B W out fs) (ho:out.length≤10000000000) :
  Calls Tryz.prog 13 #[.pointer (some ⟨W,0,none⟩),.iface 100 (.string s)] w fun e w'=>e = .returned (.tuple #[])∧BegW B W out fs (quoteL s.data.toList) w w':=by
 obtain ⟨hlt,hle,⟨ov,pv,hb,hown,hpv⟩,hfs⟩:=h
 obtain ⟨c0,c1,c2,c3,c4⟩:=two_c0 hb
 obtain ⟨oa,ol,oc,rfl⟩:=owns_shape hown
 have m0:=missVNull;have m1:=missVNumber;have m2:=hitVString;have m3:=missVArray;have m4:=missVObject;have m5:=missVBool
 go_enter Tryz.func13,Tryz.ntmps13
 go_wp2_with (go_at_call 33;refine (appendString_any s (by omega) hown hle ho).mono ?_;rintro e w1 ⟨v',rfl,hown1,k1,hok⟩;obtain ⟨a',l',c',rfl⟩:=owns_shape hown1;obtain ⟨d0,d1,d2,d3,d4⟩:=two_c0 ((k1.block W hlt).trans hb))
 go_end0
 exact ⟨rfl,BegW.leaf (w1:=w1) (WS.wrote hlt hle hb hpv hfs k1 hok hown1) (by simp [quoteL])⟩
theorem itoa_ne (n:Int):Lib.itoa n≠[]:=by
 unfold Lib.itoa
 split
 ·simp
 ·exact dec_ne _
theorem wbegin_num (hA:AppendsIntK) {w:World}{B W:Nat}{out:Bys}{fs:List Fm} (n:Int) (h0 : -9223372036854775808≤n) (h1:n≤9223372036854775807) (h:WS w B W out fs) (ho:out.length≤10000000000) (ht:Lib.TabBelow Tryz.prog B w "internal/strconv.uint64pow10" .u64 Lib.pow10Tab) :
  Calls Tryz.prog 13 #[.pointer (some ⟨W,0,none⟩),.iface 98 (.int .i64 n)] w fun e w'=>e = .returned (.tuple #[])∧BegW B W out fs (Lib.itoa n) w w':=by
 obtain ⟨hlt,hle,⟨ov,pv,hb,hown,hpv⟩,hfs⟩:=h
 obtain ⟨c0,c1,c2,c3,c4⟩:=two_c0 hb
 obtain ⟨oa,ol,oc,rfl⟩:=owns_shape hown
 have m0:=missVNull;have m1:=hitVNumber;have m2:=missVString;have m3:=missVArray;have m4:=missVObject;have m5:=missVBool
 go_enter Tryz.func13,Tryz.ntmps13
 go_wp2_with (go_at_call 32;refine (hA B _ n _ _ _ h0 h1 hown hle (by omega) ht).mono ?_;rintro e w1 ⟨v',rfl,hown1,k1,hok⟩;obtain ⟨a',l',c',rfl⟩:=owns_shape hown1;obtain ⟨d0,d1,d2,d3,d4⟩:=two_c0 ((k1.block W hlt).trans hb))
 go_end0
 exact ⟨rfl,BegW.leaf (w1:=w1) (WS.wrote hlt hle hb hpv hfs k1 hok hown1) (itoa_ne n)⟩
theorem iAppendBool_any {w:World}{B:Nat}{sv:Value}{out:Bys} (b:Bool) (hown:w.ownsRow B 5 1 sv out.length (Lib.byteCells out)) (hB:B≤w.heap.size) (ho:out.length≤10000000000) :
  Calls Tryz.prog 74 #[sv,.bool b] w fun e w'=>∃ v',e = .returned v'∧w'.ownsRow B 5 1 v' (out.length+(boolT b).length) (Lib.byteCells out ++ Lib.byteCells (boolT b))∧Below B w w'∧Lib.OthersKept 5 none w w':=by
 obtain ⟨i0,hi0,hz0,hz1,hz2⟩:=info_parts (show (Tryz.prog.info? 5).map (fun i=>(i.zero,i.size,i.bytes))=some (some (.int .u8 0),1,1) by kernel_rfl)
 obtain ⟨oa,ol,oc,rfl⟩:=owns_shape hown
 cases b with
 | true =>
  go_enter Tryz.func74,Tryz.ntmps74
  go_wp2_with (refine Lib.wpList_append_own_string _ (by rfl) _ _ 50 9 (by rfl) B 5 i0 Tryz.underlying50 Tryz.underlying9 hi0 hz0 hz1 hz2 _ out.length (Lib.byteCells out) (by rfl) hown ⟨#[116,114,117,101]⟩ (by rfl) (by unfold maxLen;simp [ByteArray.size];omega) (by simp [ByteArray.size];omega) hB ?_;intro v' w1 hown1 hgrow1 _;obtain ⟨a',l',c',rfl⟩:=owns_shape hown1)
  go_ret
  exact ⟨_,rfl,hown1,(Below.refl B w).grown hgrow1 hB (fun q hq=>(hown.lt q hq).1),(Lib.OthersKept.refl _ _ w).grown hgrow1 (own_kind hown)⟩
 | false =>
  go_enter Tryz.func74,Tryz.ntmps74
  go_wp2_with (refine Lib.wpList_append_own_string _ (by rfl) _ _ 50 9 (by rfl) B 5 i0 Tryz.underlying50 Tryz.underlying9 hi0 hz0 hz1 hz2 _ out.length (Lib.byteCells out) (by rfl) hown ⟨#[102,97,108,115,101]⟩ (by rfl) (by unfold maxLen;simp [ByteArray.size];omega) (by simp [ByteArray.size];omega) hB ?_;intro v' w1 hown1 hgrow1 _;obtain ⟨a',l',c',rfl⟩:=owns_shape hown1)
  go_ret
  exact ⟨_,rfl,hown1,(Below.refl B w).grown hgrow1 hB (fun q hq=>(hown.lt q hq).1),(Lib.OthersKept.refl _ _ w).grown hgrow1 (own_kind hown)⟩
theorem AppendBool_any {w:World}{B:Nat}{sv:Value}{out:Bys} (b:Bool) (hown:w.ownsRow B 5 1 sv out.length (Lib.byteCells out)) (hB:B≤w.heap.size) (ho:out.length≤10000000000) :
  Calls Tryz.prog 31 #[sv,.bool b] w fun e w'=>∃ v',e = .returned v'∧w'.ownsRow B 5 1 v' (out.length+(boolT b).length) (Lib.byteCells out ++ Lib.byteCells (boolT b))∧Below B w w'∧Lib.OthersKept 5 none w w':=by
 obtain ⟨oa,ol,oc,rfl⟩:=owns_shape hown
 go_enter Tryz.func31,Tryz.ntmps31
 go_wp2_with (go_at_call 74;refine (iAppendBool_any b hown hB ho).mono ?_;rintro e w1 ⟨v',rfl,hown1,k1,g1⟩;obtain ⟨a',l',c',rfl⟩:=owns_shape hown1)
 go_ret
 exact ⟨_,rfl,hown1,k1,g1⟩
theorem wbegin_bool {w:World}{B W:Nat}{out:Bys}{fs:List Fm} (b:Bool) (h:WS w B W out fs) (ho:out.length≤10000000000) :
  Calls Tryz.prog 13 #[.pointer (some ⟨W,0,none⟩),.iface 96 (.bool b)] w fun e w'=>e = .returned (.tuple #[])∧BegW B W out fs (boolT b) w w':=by
 obtain ⟨hlt,hle,⟨ov,pv,hb,hown,hpv⟩,hfs⟩:=h
 obtain ⟨c0,c1,c2,c3,c4⟩:=two_c0 hb
 obtain ⟨oa,ol,oc,rfl⟩:=owns_shape hown
 have m0:=missVNull;have m1:=missVNumber;have m2:=missVString;have m3:=missVArray;have m4:=missVObject;have m5:=hitVBool
 go_enter Tryz.func13,Tryz.ntmps13
 go_wp2_with (go_at_call 31;refine (AppendBool_any b hown hle ho).mono ?_;rintro e w1 ⟨v',rfl,hown1,k1,hok⟩;obtain ⟨a',l',c',rfl⟩:=owns_shape hown1;obtain ⟨d0,d1,d2,d3,d4⟩:=two_c0 ((k1.block W hlt).trans hb))
 go_end0
 exact ⟨rfl,BegW.leaf (w1:=w1) (WS.wrote hlt hle hb hpv hfs k1 hok hown1) (by cases b <;> simp [boolT])⟩
theorem wbegin_null {w:World}{B W:Nat}{out:Bys}{fs:List Fm} (h:WS w B W out fs) (ho:out.length≤10000000000) :
  Calls Tryz.prog 13 #[.pointer (some ⟨W,0,none⟩),.iface 95 (.agg #[])] w fun e w'=>e = .returned (.tuple #[])∧BegW B W out fs [110,117,108,108] w w':=by
 obtain ⟨i0,hi0,hz0,hz1,hz2⟩:=info_parts (show (Tryz.prog.info? 5).map (fun i=>(i.zero,i.size,i.bytes))=some (some (.int .u8 0),1,1) by kernel_rfl)
 obtain ⟨hlt,hle,⟨ov,pv,hb,hown,hpv⟩,hfs⟩:=h
 obtain ⟨c0,c1,c2,c3,c4⟩:=two_c0 hb
 obtain ⟨oa,ol,oc,rfl⟩:=owns_shape hown
 have m0:=hitVNull;have m1:=missVNumber;have m2:=missVString;have m3:=missVArray;have m4:=missVObject;have m5:=missVBool
 go_enter Tryz.func13,Tryz.ntmps13
 go_wp2_with (refine Lib.wpList_append_own_string _ (by rfl) _ _ 50 9 (by rfl) B 5 i0 Tryz.underlying50 Tryz.underlying9 hi0 hz0 hz1 hz2 _ out.length (Lib.byteCells out) (by rfl) (by first | exact hown | exact hown.alloc _) ⟨#[110,117,108,108]⟩ (by rfl) (by unfold maxLen;simp [ByteArray.size];omega) (by simp [ByteArray.size];omega) (by first | exact hle | (simp;omega)) ?_;intro v' w1 hown1 hgrow1 _;obtain ⟨a',l',c',rfl⟩:=owns_shape hown1;have k1:Below B w w1:=(by first | exact (Below.refl B w).grown hgrow1 hle (fun q hq=>(hown.lt q hq).1) | exact ((Below.refl B w).alloc hle _).grown hgrow1 (by simp;omega) (fun q hq=>(hown.lt q hq).1));have hok:Lib.OthersKept 5 none w w1:=(by first | exact (Lib.OthersKept.refl _ _ w).grown hgrow1 (own_kind hown) | exact ((Lib.OthersKept.refl _ _ w).alloc _).grown hgrow1 (own_kind (hown.alloc _)));obtain ⟨d0,d1,d2,d3,d4⟩:=two_c0 ((k1.block W hlt).trans hb))
 go_end0
 exact ⟨rfl,BegW.leaf (w1:=w1) (WS.wrote hlt hle hb hpv hfs k1 hok hown1) (by simp)⟩
end Go.Proofs.Tryz
namespace Go.Proofs.Tryz
set_option maxHeartbeats 16000000
open Go.RowKit
set_option maxRecDepth 10000
theorem wbegin_arr {w:World}{B W:Nat}{out:Bys}{fs:List Fm}{ra:Option Addr}{rl rc:Nat} (its:List (IV×Bys)) (hrow:w.ownsRow 0 32 1 (.slice ra rl rc) its.length (its.map itC)) (hrb:∀ g,(Value.slice ra rl rc).ownBlock=some g→g < W) (hvs:∀ x∈its,Vl w (· < W) x.1 x.2) (h:WS w B W out fs) (ho:out.length≤10000000000) (hf:fs.length≤10000000000) :
  Calls Tryz.prog 13 #[.pointer (some ⟨W,0,none⟩),.iface 86 (.slice ra rl rc)] w fun e w'=>e = .returned (.tuple #[])∧BegW B W out fs (arrT (its.map (·.2))) w w':=by
 obtain ⟨i0,hi0,hz0,hz1,hz2⟩:=info_parts (show (Tryz.prog.info? 5).map (fun i=>(i.zero,i.size,i.bytes))=some (some (.int .u8 0),1,1) by kernel_rfl)
 obtain ⟨j0,hj0,hy0,hy1,hy2⟩:=info_parts (show (Tryz.prog.info? 104).map (fun i=>(i.zero,i.size,i.bytes))=some (some (.agg #[.int .u8 0,.slice none 0 0,.slice none 0 0,.int .i64 0]),4,64) by kernel_rfl)
 obtain ⟨hlt,hle,⟨ov,pv,hb,hown,hpv⟩,hfs⟩:=h
 obtain ⟨c0,c1,c2,c3,c4⟩:=two_c0 hb
 obtain ⟨oa,ol,oc,rfl⟩:=owns_shape hown
 obtain ⟨pa,pl,pc,rfl⟩:=owns_shape2 hpv
 have HROW:Aside _:=hrow
 have HVS:Aside _:=hvs
 have HFS:Aside (∀ f∈fs,FOk w W f):=hfs
 have HRB:Aside _:=hrb
 clear hrow hvs hfs hrb
 have m0:=missVNull;have m1:=missVNumber;have m2:=missVString;have m3:=hitVArray;have m4:=missVObject;have m5:=missVBool
 go_enter Tryz.func13,Tryz.ntmps13
 go_wp2_with (first
  | (refine wpList_append_lies _ (by rfl) _ _ _ (by rfl) B 5 i0 _ 1 1 Tryz.underlying50 hi0 hz0 hz1 hz2 rfl (by omega) _ out.length (Lib.byteCells out) (by rfl) (hown.alloc _) ⟨w.heap.size,0,none⟩ 1 1 [.int .u8 91] (by rfl) (by rfl) (World.news_of_block (cs:=#[.int .u8 91]) (t:=5) (fr:=(0,0)) (heap_new w _)) (by simp [Value.oneCell']) (by omega) (by unfold maxLen;omega) (by omega) (by simp;omega) (w.heap.size+1) (by simp) ?_;intro g1 cap1 w1 hown1 hgrow1 hat1 hlt1;have k1:Below B w w1:=((Below.refl B w).alloc hle _).grown hgrow1 (by simp;omega) (fun q hq=>(hown.lt q hq).1);have hok1:Aside (Lib.OthersKept 5 none w w1):=((Lib.OthersKept.refl _ _ w).alloc _).grown hgrow1 (own_kind (hown.alloc _));have hb1:=(k1.block W hlt).trans hb;obtain ⟨d0,d1,d2,d3,d4⟩:=two_c0 hb1;have hp1:=others_row hok1.out hpv (by decide);have hpW:(w1.setCell ⟨W,0,none⟩ (.slice (some ⟨g1,0,none⟩) (out.length+1) cap1)).ownsRow B 104 4 (.slice pa pl pc) fs.length (fs.flatMap Fm.cells):=owns_same hp1 (fun k hk=>Below.heap_setCell _ _ _ _ (by have:=(hp1.lt k hk).1;simp;omega));have hsz1:=k1.size)
  | (refine wpList_append_lies _ (by rfl) _ _ _ (by rfl) B 104 j0 _ 4 64 Tryz.underlying51 hj0 hy0 hy1 hy2 rfl (by omega) _ fs.length (fs.flatMap Fm.cells) (by rfl) (hpW.alloc _) ⟨w1.heap.size,0,none⟩ 1 1 [.int .u8 93,.slice ra rl rc,.slice none 0 0,.int .i64 0] (by rfl) (by rfl) (World.news_of_block (cs:=#[.int .u8 93,.slice ra rl rc,.slice none 0 0,.int .i64 0]) (t:=104) (fr:=(0,0)) (heap_news _ _ (by simp))) (by simp [Value.oneCell']) (by omega) (by unfold maxLen;omega) (by omega) (by simp;omega) (w1.heap.size+1) (by simp) ?_;intro g2 cap2 w2 hown2 hgrow2 hat2 hlt2;have k2:Below B (w1.setCell ⟨W,0,none⟩ (.slice (some ⟨g1,0,none⟩) (out.length+1) cap1)) w2:=((Below.refl B _).alloc (by simp;omega) _).grown hgrow2 (by simp;omega) (fun q hq=>(hpW.lt q hq).1);have hb2:=(k2.block W hlt).trans (two_set0 (u:=.slice (some ⟨g1,0,none⟩) (out.length+1) cap1) hb1);obtain ⟨f0,f1,f2,f3,f4⟩:=two_c0 hb2))
 go_end0
 have hsz2:=k2.size
 simp at hsz2
 have hbW:∀ b,b < W→(w2.setCell ⟨W,1,none⟩ (.slice (some ⟨g2,0,none⟩) (fs.length+1) cap2)).heap[b]? = w.heap[b]?:=fun b hbl=>by
  rw [Below.heap_setCell _ _ _ _ (by simp;omega),k2.block b (by omega),Below.heap_setCell _ _ _ _ (by simp;omega)]
  exact k1.block b (by omega)
 have hf1:Fr (fun k=>k=W∨B≤k) w w2:=by
  have a1:Fr (fun k=>k=W∨B≤k) w w1:=⟨k1.os,k1.tape,k1.output,k1.size,fun k hk hd=>k1.block k (by omega)⟩
  exact (a1.setCell (b:=W) (o:=0) _ (.inl (.inl rfl))).trans (E:=fun k=>k=W∨B≤k) ⟨k2.os,k2.tape,k2.output,k2.size,fun k hk hd=>k2.block k (by omega)⟩ (fun _ _ e=>e)
 have hg12:(w1.setCell ⟨W,0,none⟩ (.slice (some ⟨g1,0,none⟩) (out.length+1) cap1)).ownsRow B 5 1 (.slice (some ⟨g1,0,none⟩) (out.length+1) cap1) (out.length+1) (Lib.byteCells out ++ [.int .u8 91]):=owns_off hown1 hlt
 have hne:∀ k,(Value.slice (some ⟨g1,0,none⟩) (out.length+1) cap1).ownBlock=some k→some k≠(Value.slice pa pl pc).ownBlock:=fun k hk e=>by
  obtain ⟨x1,y1,z1⟩:=own_kind hg12 k hk
  obtain ⟨x2,y2,z2⟩:=own_kind hpW k e.symm
  rw [z1] at z2
  simp at z2
 refine ⟨rfl,⟨⟨out ++ [91],[⟨false,.slice ra rl rc,0,its,[]⟩],⟨hlt,by simp;omega,⟨_,_,two_set1 hb2,?_,?_⟩,fun f hf=>?_⟩,?_,by simp⟩,hf1.setCell _ (.inl (.inl rfl))⟩⟩
 ·rw [List.length_append,byteCells_append]
  exact owns_off (owns_same hg12 (fun k hk=>(hgrow2.block k (by have:=(hg12.lt k hk).2;simp at this ⊢;omega) (hne k hk)).trans ((below_alloc _ _).block k (hg12.lt k hk).2))) hlt
 ·rw [List.length_append,List.flatMap_append]
  refine owns_same (w:=w2) ?_ (fun k hk=>Below.heap_setCell _ _ _ _ (by cases hk;have:=(hown2.lt g2 rfl).1;simp;omega))
  simpa [Fm.cells] using hown2
 ·rcases List.mem_append.1 hf with hf | hf
  ·exact (HFS.out f hf).keep hbW
  ·rw [List.mem_singleton] at hf
   subst hf
   refine ⟨?_,fun g hg=>HRB.out g hg,Nat.zero_le _⟩
   rw [if_neg (by simp)]
   exact ⟨owns_same HROW.out (fun k hk=>hbW k (HRB.out k hk)),fun x hx=>(HVS.out x hx).mono (fun g hg=>⟨hg,hbW g hg⟩)⟩
 ·rw [restAll_app]
  simp [Fm.rest,Fm.texts,arrT,join_rest]
theorem wbegin_obj {w:World}{B W:Nat}{out:Bys}{fs:List Fm}{ra:Option Addr}{rl rc:Nat} (ms:List El) (hrow:w.ownsRow 0 107 2 (.slice ra rl rc) ms.length (ms.flatMap elC)) (hrb:∀ g,(Value.slice ra rl rc).ownBlock=some g→g < W) (hvs:∀ x∈ms,Vl w (· < W) x.2.1 x.2.2) (h:WS w B W out fs) (ho:out.length≤10000000000) (hf:fs.length≤10000000000) :
  Calls Tryz.prog 13 #[.pointer (some ⟨W,0,none⟩),.iface 102 (.slice ra rl rc)] w fun e w'=>e = .returned (.tuple #[])∧BegW B W out fs (objT (ms.map fun x=>(elKey x,x.2.2))) w w':=by
 obtain ⟨i0,hi0,hz0,hz1,hz2⟩:=info_parts (show (Tryz.prog.info? 5).map (fun i=>(i.zero,i.size,i.bytes))=some (some (.int .u8 0),1,1) by kernel_rfl)
 obtain ⟨j0,hj0,hy0,hy1,hy2⟩:=info_parts (show (Tryz.prog.info? 104).map (fun i=>(i.zero,i.size,i.bytes))=some (some (.agg #[.int .u8 0,.slice none 0 0,.slice none 0 0,.int .i64 0]),4,64) by kernel_rfl)
 obtain ⟨hlt,hle,⟨ov,pv,hb,hown,hpv⟩,hfs⟩:=h
 obtain ⟨c0,c1,c2,c3,c4⟩:=two_c0 hb
 obtain ⟨oa,ol,oc,rfl⟩:=owns_shape hown
 obtain ⟨pa,pl,pc,rfl⟩:=owns_shape2 hpv
 have HROW:Aside _:=hrow
 have HVS:Aside _:=hvs
 have HFS:Aside (∀ f∈fs,FOk w W f):=hfs
 have HRB:Aside _:=hrb
 clear hrow hvs hfs hrb
 have m0:=missVNull;have m1:=missVNumber;have m2:=missVString;have m3:=missVArray;have m4:=hitVObject;have m5:=missVBool
 go_enter Tryz.func13,Tryz.ntmps13
 go_wp2_with (first
  | (refine wpList_append_lies _ (by rfl) _ _ _ (by rfl) B 5 i0 _ 1 1 Tryz.underlying50 hi0 hz0 hz1 hz2 rfl (by omega) _ out.length (Lib.byteCells out) (by rfl) (hown.alloc _) ⟨w.heap.size,0,none⟩ 1 1 [.int .u8 123] (by rfl) (by rfl) (World.news_of_block (cs:=#[.int .u8 123]) (t:=5) (fr:=(0,0)) (heap_new w _)) (by simp [Value.oneCell']) (by omega) (by unfold maxLen;omega) (by omega) (by simp;omega) (w.heap.size+1) (by simp) ?_;intro g1 cap1 w1 hown1 hgrow1 hat1 hlt1;have k1:Below B w w1:=((Below.refl B w).alloc hle _).grown hgrow1 (by simp;omega) (fun q hq=>(hown.lt q hq).1);have hok1:Aside (Lib.OthersKept 5 none w w1):=((Lib.OthersKept.refl _ _ w).alloc _).grown hgrow1 (own_kind (hown.alloc _));have hb1:=(k1.block W hlt).trans hb;obtain ⟨d0,d1,d2,d3,d4⟩:=two_c0 hb1;have hp1:=others_row hok1.out hpv (by decide);have hpW:(w1.setCell ⟨W,0,none⟩ (.slice (some ⟨g1,0,none⟩) (out.length+1) cap1)).ownsRow B 104 4 (.slice pa pl pc) fs.length (fs.flatMap Fm.cells):=owns_same hp1 (fun k hk=>Below.heap_setCell _ _ _ _ (by have:=(hp1.lt k hk).1;simp;omega));have hsz1:=k1.size)
  | (refine wpList_append_lies _ (by rfl) _ _ _ (by rfl) B 104 j0 _ 4 64 Tryz.underlying51 hj0 hy0 hy1 hy2 rfl (by omega) _ fs.length (fs.flatMap Fm.cells) (by rfl) (hpW.alloc _) ⟨w1.heap.size,0,none⟩ 1 1 [.int .u8 125,.slice none 0 0,.slice ra rl rc,.int .i64 0] (by rfl) (by rfl) (World.news_of_block (cs:=#[.int .u8 125,.slice none 0 0,.slice ra rl rc,.int .i64 0]) (t:=104) (fr:=(0,0)) (heap_news _ _ (by simp))) (by simp [Value.oneCell']) (by omega) (by unfold maxLen;omega) (by omega) (by simp;omega) (w1.heap.size+1) (by simp) ?_;intro g2 cap2 w2 hown2 hgrow2 hat2 hlt2;have k2:Below B (w1.setCell ⟨W,0,none⟩ (.slice (some ⟨g1,0,none⟩) (out.length+1) cap1)) w2:=((Below.refl B _).alloc (by simp;omega) _).grown hgrow2 (by simp;omega) (fun q hq=>(hpW.lt q hq).1);have hb2:=(k2.block W hlt).trans (two_set0 (u:=.slice (some ⟨g1,0,none⟩) (out.length+1) cap1) hb1);obtain ⟨f0,f1,f2,f3,f4⟩:=two_c0 hb2))
 go_end0
 have hsz2:=k2.size
 simp at hsz2
 have hbW:∀ b,b < W→(w2.setCell ⟨W,1,none⟩ (.slice (some ⟨g2,0,none⟩) (fs.length+1) cap2)).heap[b]? = w.heap[b]?:=fun b hbl=>by
  rw [Below.heap_setCell _ _ _ _ (by simp;omega),k2.block b (by omega),Below.heap_setCell _ _ _ _ (by simp;omega)]
  exact k1.block b (by omega)
 have hf1:Fr (fun k=>k=W∨B≤k) w w2:=by
  have a1:Fr (fun k=>k=W∨B≤k) w w1:=⟨k1.os,k1.tape,k1.output,k1.size,fun k hk hd=>k1.block k (by omega)⟩
  exact (a1.setCell (b:=W) (o:=0) _ (.inl (.inl rfl))).trans (E:=fun k=>k=W∨B≤k) ⟨k2.os,k2.tape,k2.output,k2.size,fun k hk hd=>k2.block k (by omega)⟩ (fun _ _ e=>e)
 have hg12:(w1.setCell ⟨W,0,none⟩ (.slice (some ⟨g1,0,none⟩) (out.length+1) cap1)).ownsRow B 5 1 (.slice (some ⟨g1,0,none⟩) (out.length+1) cap1) (out.length+1) (Lib.byteCells out ++ [.int .u8 123]):=owns_off hown1 hlt
 have hne:∀ k,(Value.slice (some ⟨g1,0,none⟩) (out.length+1) cap1).ownBlock=some k→some k≠(Value.slice pa pl pc).ownBlock:=fun k hk e=>by
  obtain ⟨x1,y1,z1⟩:=own_kind hg12 k hk
  obtain ⟨x2,y2,z2⟩:=own_kind hpW k e.symm
  rw [z1] at z2
  simp at z2
 refine ⟨rfl,⟨⟨out ++ [123],[⟨true,.slice ra rl rc,0,[],ms⟩],⟨hlt,by simp;omega,⟨_,_,two_set1 hb2,?_,?_⟩,fun f hf=>?_⟩,?_,by simp⟩,hf1.setCell _ (.inl (.inl rfl))⟩⟩
 ·rw [List.length_append,byteCells_append]
  exact owns_off (owns_same hg12 (fun k hk=>(hgrow2.block k (by have:=(hg12.lt k hk).2;simp at this ⊢;omega) (hne k hk)).trans ((below_alloc _ _).block k (hg12.lt k hk).2))) hlt
 ·rw [List.length_append,List.flatMap_append]
  refine owns_same (w:=w2) ?_ (fun k hk=>Below.heap_setCell _ _ _ _ (by cases hk;have:=(hown2.lt g2 rfl).1;simp;omega))
  simpa [Fm.cells] using hown2
 ·rcases List.mem_append.1 hf with hf | hf
  ·exact (HFS.out f hf).keep hbW
  ·rw [List.mem_singleton] at hf
   subst hf
   refine ⟨?_,fun g hg=>HRB.out g hg,Nat.zero_le _⟩
   rw [if_pos rfl]
   exact ⟨owns_same HROW.out (fun k hk=>hbW k (HRB.out k hk)),fun x hx=>(HVS.out x hx).mono (fun g hg=>⟨hg,hbW g hg⟩)⟩
 ·rw [restAll_app]
  simp [Fm.rest,Fm.texts,objT,join_rest,elP];rfl
end Go.Proofs.Tryz
