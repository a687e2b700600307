import Derived.Test.YtbhajhlhgbnhbaaGreatDoorFz1
import Derived.Lib.SlBuf
import Derived.Deep.AppendLies
set_option linter.all false
namespace Go.Proofs.Tryz
set_option maxHeartbeats 16000000
open Go.RowKit
set_option maxRecDepth 10000
theorem afind_ok {w:World}{p:Option Addr}{n c i:Nat} (hi:i < n) (hn:n≤1000000000) :
  Calls Tryz.prog 148 #[.slice p n c,.iface 98 (.int .i64 i)] w fun e w'=>e = .returned (.tuple #[.int .i64 i,.bool true])∧Below w.heap.size w w':=by
 have m1:=hitVNumber
 have z0:¬ (i:Int) < 0:=by omega
 have z1:(0:Int)≤(i:Int):=by omega
 have z2:(i:Int) < (n:Int):=by omega
 go_enter Tryz.func148,Tryz.ntmps148
 go_wp2_with fail
 exact bodyPost_ret (v:=.tuple #[.int .i64 i,.bool true]) (by simp [results,Tryz.results148,go_sem]) rfl ⟨rfl,Below.refl _ _⟩
theorem holds_arr {w:World}{r:Value}{i:Int}:Calls Tryz.prog 147 #[.iface 86 r,.iface 98 (.int .i64 i)] w fun e w'=>e = .returned (.bool true)∧Below w.heap.size w w':=by
 have m0:=missVNull;have m1:=hitVNumber;have m2:=missVString;have m3:=hitVArray;have m4:=missVObject;have m5:=missVBool
 go_enter Tryz.func147,Tryz.ntmps147
 go_wp2_with fail
 go_ret
 exact ⟨rfl,Below.refl _ _⟩
theorem At_arr {w:World}{a n c i:Nat}{T:Nat}{u:Value} (hi:i < n) (hn:n≤1000000000) (h:w.cell? ⟨a,i,none⟩=some (.iface T u)) :
  Calls Tryz.prog 95 #[.iface 86 (.slice (some ⟨a,0,none⟩) n c),.iface 98 (.int .i64 i)] w fun e w'=>e = .returned (.tuple #[.iface T u,.nilIface])∧Below w.heap.size w w':=by
 have m0:=missVNull;have m1:=hitVNumber;have m2:=missVString;have m3:=hitVArray;have m4:=missVObject;have m5:=missVBool
 have z2:(i:Int) < (n:Int):=by omega
 have z3:(0:Int)≤(i:Int):=by omega
 have hl:=lt_cell h
 go_enter Tryz.func95,Tryz.ntmps95
 go_wp2_with (first
  | (go_at_call 147;refine holds_arr.mono ?_;rintro e w1 ⟨rfl,k1⟩)
  | (go_at_call 148;refine (afind_ok hi hn).mono ?_;rintro e w2 ⟨rfl,k2⟩;have k12:=k1.trans (k2.mono k1.size);have f0:=(k12.cell (p:=⟨a,i,none⟩) hl).trans h))
 exact bodyPost_ret (v:=.tuple #[.iface T u,.nilIface]) (by simp [results,Tryz.results95,go_sem]) rfl ⟨rfl,k12⟩
theorem add_at (a j:Nat):(⟨a,0,none⟩:Addr).add j=⟨a,j,none⟩:=by
 unfold Addr.add
 split
 ·rename_i h0
  have:j=0:=by simpa using h0
  rw [this]
 ·simp
theorem iv_inj {x y:IV} (h:iv x=iv y):x=y:=by
 obtain ⟨T,u⟩:=x
 obtain ⟨T',u'⟩:=y
 simp only [iv,Value.iface.injEq] at h
 rw [h.1,h.2]
theorem row_one {w:World}{N N' e s n m g c:Nat}{xs ys:List Value} (h:w.ownsRow N e s (.slice (some ⟨g,0,none⟩) n c) m xs) (k:w.ownsRow N' e s (.slice (some ⟨g,0,none⟩) n c) m ys):xs=ys:=by
 rcases h.2 with ⟨e,_⟩ | ⟨g1,c1,cur1,e1,_,hb1,_,_,_,ht1⟩
 ·cases e
 ·rcases k.2 with ⟨e,_⟩ | ⟨g2,c2,cur2,e2,_,hb2,_,_,_,ht2⟩
  ·cases e
  ·cases e1
   cases e2
   rw [hb1] at hb2
   cases hb2
   rw [← ht1,← ht2]
end Go.Proofs.Tryz
namespace Go.Proofs.Tryz
set_option maxHeartbeats 16000000
open Go.RowKit Go.Shelf
set_option maxRecDepth 100000
attribute [local go_sem] Oper.semAt_some
end Go.Proofs.Tryz
namespace Go.Proofs.Tryz
set_option maxHeartbeats 16000000
open Go.RowKit Go.Shelf
set_option maxRecDepth 100000
attribute [local go_sem] Oper.semAt_some
end Go.Proofs.Tryz
namespace Go.Proofs.Tryz
set_option maxHeartbeats 16000000
open Go.RowKit Go.Shelf
set_option maxRecDepth 100000
theorem begun_at {W:World}{lB:Nat}{rc:Loop} (hl:W.heap[lB]? = some (.loop rc)) (hst:rc.state = .ready) :
  ∃ Wb,(Instr.beginRound lB).run Tryz.prog W = .ok () Wb∧(∀ k,k≠lB→Wb.heap[k]? = W.heap[k]?)∧Wb.heap.size=W.heap.size∧Wb.heap[lB]? = some (.loop { rc with state:=.busy })∧Wb.os=W.os∧Wb.tape=W.tape∧Wb.output=W.output :=
 ⟨_,run_beginRound hl hst,fun k hk=>World.putObj_heap_other hk,by simp [World.putObj],World.putObj_heap_same (lt_of_block hl),rfl,rfl,rfl⟩
end Go.Proofs.Tryz
namespace Go.Proofs.Tryz
set_option maxHeartbeats 16000000
open Go.RowKit
set_option maxRecDepth 10000
theorem append_drawn {P:Program} (w:World) (t ty:TypeId) (base:Nat) (e:TypeId) (i:TypeInfo) (z:Value) (size bytes:Nat) (ht:P.underlying t=some (.slice e)) (hi:P.info? e=some i) (hz:i.zero=some z)
  (hsize:i.size=size) (hby:i.bytes=bytes) (v:Value) (n:Nat) (xs:List Value) (hown:w.ownsRow base e size v n xs)
  (ad:Addr) (m c:Nat) (news:List Value) (hl:news.length=m * size) (hnews:∀ j u,news[j]? = some u→w.cell? (ad.add j)=some u) (h1:∀ u∈news,u.oneCell'=true)
  (hm:0 < m) (h63:n+m≤maxLen) (hbytes:(n+m) * bytes≤140737488355328) {v':Value}{w':World} (hr:(Builtin.append_ #[t,t] ty #[v,.slice (some ad) m c]).run P w = .ok v' w'):w.drawn≤w'.drawn:=by
 subst hsize
 subst hby
 have hsmall:n+m≤9223372036854775807:=by simp only [maxLen] at h63;omega
 rcases hown.2 with ⟨rfl,rfl⟩ | ⟨g,cap,cur,rfl,hbg,hg,hnc,hcm,hcs,htake⟩
 ·have h:=run_append_nil (P:=P) w t ty e i z ht hi hz ad m c news hl hnews hm (by omega) (by have hb:=hbytes;simp only [Nat.zero_add] at hb;omega)
  rw [h] at hr
  injection hr with _ hw
  rw [← hw]
  simp
 ·by_cases hroom:n+m≤cap
  ·have hfit:n * i.size+news.length≤cur.size:=by rw [hl,hcs,← Nat.add_mul];exact Nat.mul_le_mul_right _ hroom
   have h:=run_append_room (P:=P) w t ty e i ht hi g n cap cur hg ad m c news hl hnews h1 hroom hfit
   rw [h] at hr
   injection hr with _ hw
   rw [← hw]
   exact Nat.le_refl _
  ·have h:=run_append_grow (P:=P) w t ty e i z ht hi hz ⟨g,0,none⟩ n cap xs hown.1 (hown.cells (g:=g) rfl) ad m c news hl hnews (by omega) (by omega) (growslice_fits (by omega) hbytes)
   rw [h] at hr
   injection hr with _ hw
   rw [← hw]
   simp
theorem wpList_append_up {P:Program} (w:World) {ops:Array Oper}{rest:List Oper}{o:Oper}{a:Act}{Q:Exit→Act→World→Prop} (hgd:o.guard=none) (s x:Operand) (t:TypeId)
  (ho:o.op = .call { callee:=.builtin .append,args:=#[s,x],argTypes:=#[t,t] })
  (base:Nat) (e:TypeId) (i:TypeInfo) (z:Value) (size bytes:Nat) (ht:P.underlying t=some (.slice e)) (hi:P.info? e=some i) (hz:i.zero=some z)
  (hsize:i.size=size) (hby:i.bytes=bytes) (hzs:z.cells.size=size) (hsz:0 < size)
  (v:Value) (n:Nat) (xs:List Value) (hs:a.eval s=v) (hown:w.ownsRow base e size v n xs)
  (ad:Addr) (m c:Nat) (news:List Value) (hx:a.eval x = .slice (some ad) m c) (hl:news.length=m * size) (hnews:∀ j u,news[j]? = some u→w.cell? (ad.add j)=some u) (h1:∀ u∈news,u.oneCell'=true)
  (hm:0 < m) (h63:n+m≤maxLen) (hbytes:(n+m) * bytes≤140737488355328) (hbase:base≤w.heap.size) (H:Nat) (hH:w.heap.size=H)
  (h:∀ g cap w',w'.ownsRow base e size (.slice (some ⟨g,0,none⟩) (n+m) cap) (n+m) (xs ++ news)→w.grownBy w' v.ownBlock→w.drawn≤w'.drawn→(v.ownBlock=some g∨g=H)→g < w'.heap.size→wpList P ops Q rest (a.put o.dst (.slice (some ⟨g,0,none⟩) (n+m) cap)) w'):wpList P ops Q (o :: rest) a w:=by
 refine wpList_plain hgd fun _ hK=>?_
 obtain ⟨g,cap,w',hr,h2,h3,h4,h5⟩:=run_append_lies (P:=P) w t o.type base e i z size bytes ht hi hz hsize hby hzs hsz v n xs hown ad m c news hl hnews h1 hm h63 hbytes hbase H hH
 have hd:=append_drawn w t o.type base e i z size bytes ht hi hz hsize hby v n xs hown ad m c news hl hnews h1 hm h63 hbytes hr
 unfold Oper.wp execOp
 simp only [ho,resolve,invoke,builtin,Sem.run_bind,Sem.run_pure,Result.andThen_ok,List.map_toArray,List.map_cons,List.map_nil,hs,hx,hr]
 exact hK _ _ (h g cap w' h2 h3 hd h4 h5)
theorem wpList_make_up {P:Program} (w:World) {ops:Array Oper}{rest:List Oper}{o:Oper}{a:Act}{Q:Exit→Act→World→Prop}
  (hg:o.guard=none) (l c:Operand) (t:TypeId) (hop:o.op=Op.makeSlice t l c)
  (base:Nat) (e:TypeId) (i:TypeInfo) (z:Value) (size:Nat) (h1:P.underlying t=some (.slice e)) (h2:P.info? e=some i) (h3:i.zero=some z) (h4:i.size=size)
  (kl kc:IntKind) (L C:Int) (n:Nat) (hl:a.eval l = .int kl L) (hc:a.eval c = .int kc C) (hL:L=(n:Int)) (hC:C=(n:Int)) (b2:i.bytes * n≤281474976710656) (b3:n≤maxLen) (b4:base≤w.heap.size)
  (hK:∀ w',w'.ownsRow base e size (.slice (some ⟨w.heap.size,0,none⟩) n n) n (madeCells z.cells (n * size)).toList→w.grownBy w' none→w.drawn≤w'.drawn→wpList P ops Q rest (a.put o.dst (.slice (some ⟨w.heap.size,0,none⟩) n n)) w') :
  wpList P ops Q (o :: rest) a w:=by
 refine wpList_plain hg fun K hK'=>?_
 obtain ⟨w',hrun,r1,r2⟩:=run_make_full (P:=P) w base t e i z size h1 h2 h3 h4 kl kc n b2 b3 b4
 have hd:w.drawn≤w'.drawn:=by
  have h63':(n:Int)≤9223372036854775807:=by have h:=b3;simp [maxLen] at h;omega
  have hb':(i.bytes:Int) * (n:Int)≤281474976710656:=by
   have h:((i.bytes * n:Nat):Int)≤281474976710656:=by omega
   rwa [Int.natCast_mul] at h
  have hr:=run_make (P:=P) w t e i z h1 h2 h3 kl kc n n (by omega) (Int.le_refl _) hb' h63'
  rw [hr] at hrun
  injection hrun with _ hw
  rw [← hw]
  simp
 subst hL
 subst hC
 unfold Oper.wp
 simp [execOp,hop,hl,hc,hrun,Result.andThen]
 exact hK' _ _ (hK w' r1 r2 hd)
theorem Up.of_grown {w w':World} (h:w.grownBy w' none) (hd:w.drawn≤w'.drawn):Up w w':=⟨(Below.refl _ _).grown h (Nat.le_refl _) (fun q hq=>by cases hq),hd⟩
def PartsIs (w1:World) (x:IV) (xs:List IV):Prop:=Calls Tryz.prog 264 #[iv x] w1 fun e w2=>∃ v,e = .returned v∧Up w1 w2∧Sl w2 v xs
theorem parts_other {T:Nat} (h1:T≠86) (h2:T≠102) (v:Value) (w:World):Calls Tryz.prog 264 #[.iface T v] w fun e w'=>e = .returned (.slice none 0 0)∧w'=w:=by
 have m3:=fun v w=>missVArray T v w h1
 have m4:=fun v w=>missVObject T v w h2
 go_enter Tryz.func264,Tryz.ntmps264
 go_wp2
 go_ret
 exact ⟨rfl,rfl⟩
theorem parts_arrUp (p:Option Addr) (n c:Nat) (w:World):Calls Tryz.prog 264 #[.iface 86 (.slice p n c)] w fun e w'=>e = .returned (.slice p n c)∧w'=w:=by
 have m3:=hitVArray;have m4:=missVObject
 go_enter Tryz.func264,Tryz.ntmps264
 go_wp2
 go_ret
 exact ⟨rfl,rfl⟩
theorem parts_objUp {w:World}{a ca n C:Nat}{L:List El} (hM:Mem w a C L) (hn:L.length=n) (hmax:n≤1000000000) :
  Calls Tryz.prog 264 #[.iface 102 (.slice (some ⟨a,0,none⟩) n ca)] w fun e w'=>e = .returned (.slice (some ⟨w.heap.size,0,none⟩) n n)∧w'.ownsRow w.heap.size 32 1 (.slice (some ⟨w.heap.size,0,none⟩) n n) n (L.map fun x=>iv x.2.1)∧Up w w':=by
 have m3:=missVArray;have m4:=hitVObject
 obtain ⟨i0,hi0,hz0,hz1,hz2⟩:=info_parts (show (Tryz.prog.info? 32).map (fun i=>(i.zero,i.size,i.bytes))=some (some .nilIface,1,16) by kernel_rfl)
 have hla:=hM.lt
 go_enter Tryz.func264,Tryz.ntmps264
 go_wp2_with (refine wpList_make_up _ (by rfl) _ _ 85 (by rfl) w.heap.size 32 i0 .nilIface 1 Tryz.underlying85 hi0 hz0 hz1 .i64 .i64 n n n (by rfl) (by rfl) rfl rfl (by rw [hz2];omega) (by unfold maxLen;omega) (Nat.le_refl _) ?_;intro w1 ow1 gr1 dr1)
 have kw1:Up w w1:=Up.of_grown gr1 dr1
 have hl1:((madeCells (Value.cells .nilIface) (n * 1)).toList).length=n:=by have:=ow1.1;simpa using this
 go_loopg [22] n (fun k v wr=>∃ (i:Nat) (xs:List Value),i+k=n∧v = .int .i64 i∧Aside (xs.length=n∧(∀ j,j < i→xs[j]? = (L.map fun x=>iv x.2.1)[j]?)∧wr.ownsRow w.heap.size 32 1 (.slice (some ⟨w.heap.size,0,none⟩) n n) n xs∧Up w wr))
 case atStart=>exact ⟨0,_,by omega,rfl,hl1,fun j hj=>by omega,ow1,kw1⟩
 case round =>
  obtain ⟨i,xs,hi,rfl,HR⟩:=hrel
  match gk,hi with
  | 0,hi =>
   have hz:¬ (i:Int) < (n:Int):=by omega
   go_wp2_with fail
   go_ret
   obtain ⟨h1,h2,h3,h4⟩:=HR.out
   have hxs:xs=L.map fun x=>iv x.2.1:=by
    apply List.ext_getElem?
    intro j
    by_cases hj:j < i
    ·exact h2 j hj
    ·rw [List.getElem?_eq_none (by omega),List.getElem?_eq_none (by simp;omega)]
   exact ⟨rfl,hxs ▸ h3,h4⟩
  | k+1,hi =>
   have hz:(i:Int) < (n:Int):=by omega
   obtain ⟨h1,h2,h3,h4⟩:=HR.out
   obtain ⟨⟨kx,⟨Tx,ux⟩,tx⟩,hx⟩:∃ x,L[i]? = some x:=⟨_,List.getElem?_eq_getElem (by omega)⟩
   obtain ⟨x0,x1⟩:=hM.at hx
   simp only [iv] at x0 x1
   have f0:=(h4.1.cell (p:=⟨a,i * 2,none⟩) hla).trans x0
   have f1:=(h4.1.cell (p:=⟨a,i * 2+1,none⟩) hla).trans x1
   have hgl:=(h3.lt w.heap.size rfl).2
   obtain ⟨y,hy⟩:∃ y,xs[i]? = some y:=⟨_,List.getElem?_eq_getElem (by omega)⟩
   have c0:∀ o,(wr.alloc o).cell? ⟨w.heap.size,i,none⟩=some y:=fun o=>((below_alloc wr o).cell (p:=⟨w.heap.size,i,none⟩) hgl).trans ((h3.cellAt i (by omega)).trans hy)
   have c1:∀ o,(wr.alloc o).frozen? ⟨w.heap.size,i,none⟩=false:=fun o=>by
    rcases (h3.alloc o).2 with ⟨e,_⟩ | ⟨g',cap',cur,e,_,hb,_⟩
    ·cases e
    ·cases e;exact cells_free hb
   have HX:Hid _:=hx
   clear h1 h2 h3 hx x0 x1 hy
   go_wp2_with fail
   go_roundg k
   case measure=>omega
   case rel =>
    obtain ⟨h1,h2,h3,h4⟩:=HR.out
    refine ⟨i+1,xs.set i (.iface Tx ux),by omega,by simp,by simpa using h1,fun j hj=>?_,(h3.stored i (.iface Tx ux)).1.alloc _,(h4.1.setCell (p:=⟨w.heap.size,i,none⟩) (Nat.le_refl _) _).alloc (by simp;omega) _,by have:=h4.2;simpa using this⟩
    by_cases hji:j=i
    ·subst hji
     rw [List.getElem?_set_self (by omega),List.getElem?_map,HX.out]
     rfl
    ·rw [List.getElem?_set_ne (by omega)]
     exact h2 j (by omega)
theorem parts_objNilUp (p:Option Addr) (c:Nat) (w:World) :
  Calls Tryz.prog 264 #[.iface 102 (.slice p 0 c)] w fun e w'=>e = .returned (.slice (some ⟨w.heap.size,0,none⟩) 0 0)∧Up w w':=by
 have m3:=missVArray;have m4:=hitVObject
 obtain ⟨i0,hi0,hz0,hz1,hz2⟩:=info_parts (show (Tryz.prog.info? 32).map (fun i=>(i.zero,i.size,i.bytes))=some (some .nilIface,1,16) by kernel_rfl)
 go_enter Tryz.func264,Tryz.ntmps264
 go_wp2_with (refine wpList_make_up _ (by rfl) _ _ 85 (by rfl) w.heap.size 32 i0 .nilIface 1 Tryz.underlying85 hi0 hz0 hz1 .i64 .i64 0 0 0 (by rfl) (by rfl) rfl rfl (by rw [hz2];omega) (by unfold maxLen;omega) (Nat.le_refl _) ?_;intro w1 ow1 gr1 dr1)
 have kw1:Up w w1:=Up.of_grown gr1 dr1
 refine wp_loop_rounds 1 ?_
 rw [rounds_succ]
 go_wp2_with fail
 go_ret
 exact ⟨rfl,kw1⟩
end Go.Proofs.Tryz
