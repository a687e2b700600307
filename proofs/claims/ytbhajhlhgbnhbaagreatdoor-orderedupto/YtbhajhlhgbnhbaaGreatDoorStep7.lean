import Derived.Test.YtbhajhlhgbnhbaaGreatDoorTree
import Derived.Deep.LoopGhost
import Derived.Deep.RegionHeld3
import Derived.Deep.AppendLies
import Derived.StillTactics
import Derived.OwnWalk
import Derived.Laws.Pointers
import Derived.KernelRfl
import Derived.Handy
import Derived.Deep.RegionLaw
set_option linter.all false
namespace Go.Proofs.Tryz
set_option maxHeartbeats 16000000
open Go.RowKit
def pWordy (l:List Tok):Option (Tr×List Tok):=do
 let b ← sees ⟨#[110,117,108,108]⟩ l
 if b then
  let l1 ← eat ⟨#[110,117,108,108]⟩ l
  some (.null,l1)
 else
  let b ← sees ⟨#[102,97,108,115,101]⟩ l
  if b then
   let l1 ← eat ⟨#[102,97,108,115,101]⟩ l
   some (.bool false,l1)
  else
   let l1 ← eat ⟨#[116,114,117,101]⟩ l
   some (.bool true,l1)
theorem wordy_step {l:List Tok}{t:Tr}{l':List Tok}{w:World}{rb tb:Nat} (h:pWordy l=some (t,l')) (hr:Rd w rb tb l) :
  Calls Tryz.prog 282 #[.pointer (some ⟨rb,0,none⟩)] w (Gives rb tb l' t w):=by
 have hL:=Left.of_rd hr
 simp only [pWordy,Option.bind_eq_bind,Option.bind_eq_some_iff] at h
 obtain ⟨b,hb,h⟩:=h
 cases b with
 | true =>
  simp only [if_true,Option.bind_eq_some_iff,Option.some.injEq,Prod.mk.injEq] at h
  obtain ⟨l1,he,rfl,rfl⟩:=h
  go_enter Tryz.func282,Tryz.ntmps282
  go_wp2_with (go_at_call 37;refine (accept_eat (by assumption) (by assumption)).mono ?_;rintro e w1 ⟨rfl,h1⟩;have r1:=h1.rd;have hL:=hL.trans h1)
  go_ret
  exact ⟨_,_,rfl,hL.upto (below_alloc _ _),.null hL.kept.size (box_cell _ _ _ _)⟩
 | false =>
  simp only [Bool.false_eq_true,if_false,Option.bind_eq_some_iff] at h
  obtain ⟨b,hb2,h⟩:=h
  cases b with
  | true =>
   simp only [if_true,Option.bind_eq_some_iff,Option.some.injEq,Prod.mk.injEq] at h
   obtain ⟨l1,he,rfl,rfl⟩:=h
   go_enter Tryz.func282,Tryz.ntmps282
   go_wp2_with (first
    | (go_at_call 37;refine (accept_not (by assumption) (by assumption)).mono ?_;rintro e w1 ⟨rfl,h1⟩;have r1:=h1.rd;have hL:=hL.trans h1)
    | (go_at_call 37;refine (accept_eat (by assumption) (by assumption)).mono ?_;rintro e w1 ⟨rfl,h1⟩;have r1:=h1.rd;have hL:=hL.trans h1))
   go_ret
   exact ⟨_,_,rfl,hL.upto (below_alloc _ _),.bool hL.kept.size (box_cell _ _ _ _)⟩
  | false =>
   simp only [Bool.false_eq_true,if_false,Option.bind_eq_some_iff,Option.some.injEq,Prod.mk.injEq] at h
   obtain ⟨l1,he,rfl,rfl⟩:=h
   go_enter Tryz.func282,Tryz.ntmps282
   go_wp2_with (first
    | (go_at_call 37;refine (accept_not (by assumption) (by assumption)).mono ?_;rintro e w1 ⟨rfl,h1⟩;have r1:=h1.rd;have hL:=hL.trans h1)
    | (go_at_call 37;refine (accept_eat (by assumption) (by assumption)).mono ?_;rintro e w1 ⟨rfl,h1⟩;have r1:=h1.rd;have hL:=hL.trans h1))
   go_ret
   exact ⟨_,_,rfl,hL.upto (below_alloc _ _),.bool hL.kept.size (box_cell _ _ _ _)⟩
def pIf (P:Pars) (l:List Tok):Option (Tr×List Tok):=do
 let (c,l1) ← P .filter l
 let l2 ← eat ⟨#[116,104,101,110]⟩ l1
 let (a,l3) ← P .filter l2
 let l4 ← eat ⟨#[101,108,115,101]⟩ l3
 let (b,l5) ← P .filter l4
 let l6 ← eat ⟨#[101,110,100]⟩ l5
 some (.ite c a b,l6)
theorem condition_step {P:Pars} (hP:Sound P) {l:List Tok}{t:Tr}{l':List Tok}{w:World}{rb tb:Nat} (h:pIf P l=some (t,l')) (hr:Rd w rb tb l) :
  Calls Tryz.prog 197 #[.pointer (some ⟨rb,0,none⟩)] w (Gives rb tb l' t w):=by
 simp only [pIf,Option.bind_eq_bind,Option.bind_eq_some_iff,Prod.exists,Option.some.injEq,Prod.mk.injEq] at h
 obtain ⟨c,l1,hc,l2,e2,a,l3,ha,l4,e4,b,l5,hb,l6,e6,rfl,rfl⟩:=h
 have hrb:=hr.rbs
 have hn:=Nod.start hr #[.nilIface,.nilIface,.nilIface] 210
 go_enter Tryz.func197,Tryz.ntmps197
 go_wp2_with (first
  | (go_at_call 16;refine (hP.filter (by assumption) hn.rd).mono ?_;rintro e w1 ⟨T,b,rfl,h1,r1⟩;have hn:=hn.item h1 r1;have q1:=hn.cell;have q2:=hn.free;have q3:=hn.lt;simp at q1)
  | (go_at_call 84;refine (expect_eat (hn.set _ _).rd (by assumption)).mono ?_;rintro e w1 ⟨rfl,h1⟩;have hn:=(hn.set _ _).call h1;have q1:=hn.cell;have q2:=hn.free;have q3:=hn.lt;simp at q1))
 go_ret
 have i0:=hn.its _ (.head _)
 have i1:=hn.its _ (.tail _ (.head _))
 have i2:=hn.its _ (.tail _ (.tail _ (.head _)))
 have hz:=hn.new
 exact ⟨_,_,rfl,hn.left,.ite hz ((hn.cell 0).trans rfl) ((hn.cell 1).trans rfl) ((hn.cell 2).trans rfl) (i2.low (by omega)) (i1.low (by omega)) (i0.low (by omega))⟩
set_option maxRecDepth 10000
def pSource (P:Pars) (l:List Tok):Option (Tr×ByteArray×List Tok):=do
 let (f,l1) ← P .pfix l
 let l2 ← eat ⟨#[97,115]⟩ l1
 let (x,l3) ← eatKind 4 l2
 let l4 ← eat ⟨#[40]⟩ l3
 some (f,x.text,l4)
theorem source_step {P:Pars} (hP:Sound P) {l:List Tok}{t:Tr}{x:ByteArray}{l':List Tok}{w:World}{rb tb:Nat} (h:pSource P l=some (t,x,l')) (hr:Rd w rb tb l) :
  Calls Tryz.prog 247 #[.pointer (some ⟨rb,0,none⟩)] w fun e w'=>∃ T b,e = .returned (.tuple #[.iface T (.pointer (some ⟨b,0,none⟩)),.string x])∧Left w w' rb tb l'∧Rep (w.heap.size≤·) w' (.iface T (.pointer (some ⟨b,0,none⟩))) t:=by
 simp only [pSource,Option.bind_eq_bind,Option.bind_eq_some_iff,Prod.exists,Option.some.injEq,Prod.mk.injEq] at h
 obtain ⟨f,l1,hf,l2,e2,y,l3,e3,l4,e4,rfl,rfl,rfl⟩:=h
 have hrb:=hr.rbs
 have hfd:=field_text
 go_enter Tryz.func247,Tryz.ntmps247
 go_wp2_with (first
  | (go_at_call 198;refine (hP.pfix hf hr).mono ?_;rintro e w1 ⟨T,b,rfl,h1,r1⟩;have q:=h1.rd)
  | (go_at_call 84;refine (expect_eat (by assumption) (by assumption)).mono ?_;rintro e w2 ⟨rfl,h2⟩;have q:=h2.rd;have h1:=h1.trans h2;have r1:=r1.left h2 hrb)
  | (go_at_call 83;refine (expectKind_eat (by assumption) (by assumption)).mono ?_;rintro e w2 ⟨rfl,h2⟩;have q:=h2.rd;have h1:=h1.trans h2;have r1:=r1.left h2 hrb))
 go_ret2
 exact ⟨_,_,rfl,h1,r1⟩
def pReduce (P:Pars) (l:List Tok):Option (Tr×List Tok):=do
 let (f,x,l1) ← pSource P l
 let (s,l2) ← P .filter l1
 let l3 ← eat ⟨#[59]⟩ l2
 let (h,l4) ← P .filter l3
 let l5 ← eat ⟨#[41]⟩ l4
 some (.red f x s h,l5)
theorem reduce_step {P:Pars} (hP:Sound P) {l:List Tok}{t:Tr}{l':List Tok}{w:World}{rb tb:Nat} (h:pReduce P l=some (t,l')) (hr:Rd w rb tb l) :
  Calls Tryz.prog 195 #[.pointer (some ⟨rb,0,none⟩)] w (Gives rb tb l' t w):=by
 simp only [pReduce,Option.bind_eq_bind,Option.bind_eq_some_iff,Prod.exists,Option.some.injEq,Prod.mk.injEq] at h
 obtain ⟨f,x,l1,hf,s,l2,hs,l3,e3,g,l4,hg,l5,e5,rfl,rfl⟩:=h
 have hrb:=hr.rbs
 have hn:=Nod.start hr #[.nilIface,.string ⟨#[]⟩,.nilIface,.nilIface] 213
 go_enter Tryz.func195,Tryz.ntmps195
 go_wp2_with (first
  | (go_at_call 247;refine (source_step hP (by assumption) hn.rd).mono ?_;rintro e w1 ⟨T,b,rfl,h1,r1⟩;have hn:=((hn.item h1 r1).set 0 (.iface T (.pointer (some ⟨b,0,none⟩)))).set 1 (.string x);have q0:=(Nod.call (‹Nod _ _ _ _ _ _ _ _ _› : Nod _ _ rb tb _ _ _ _ []) h1);have q1:=q0.cell;have q2:=q0.free;have q3:=q0.lt;simp at q1)
  | (go_at_call 16;refine (hP.filter (by assumption) hn.rd).mono ?_;rintro e w1 ⟨T,b,rfl,h1,r1⟩;have hn:=hn.item h1 r1;have q1:=hn.cell;have q2:=hn.free;have q3:=hn.lt;simp at q1)
  | (go_at_call 84;refine (expect_eat (hn.set _ _).rd (by assumption)).mono ?_;rintro e w1 ⟨rfl,h1⟩;have hn:=(hn.set _ _).call h1;have q1:=hn.cell;have q2:=hn.free;have q3:=hn.lt;simp at q1))
 go_ret
 have i0:=hn.its _ (.head _)
 have i1:=hn.its _ (.tail _ (.head _))
 have i2:=hn.its _ (.tail _ (.tail _ (.head _)))
 have hz:=hn.new
 exact ⟨_,_,rfl,hn.left,.red hz ((hn.cell 0).trans rfl) ((hn.cell 1).trans rfl) ((hn.cell 2).trans rfl) ((hn.cell 3).trans rfl) (i2.low (by omega)) (i1.low (by omega)) (i0.low (by omega))⟩
def stepBound (P:Pars) (l:List Tok):Option (Tr×List Tok):=do
 let b ← sees ⟨#[108,97,98,101,108]⟩ l
 if b then none else
  let b ← sees ⟨#[116,114,121]⟩ l
  if b then
   let l1 ← eat ⟨#[116,114,121]⟩ l
   let (x,l2) ← P .minus l1
   let l3 ← eat ⟨#[99,97,116,99,104]⟩ l2
   let (y,l4) ← P .minus l3
   some (.tries x y,l4)
  else
   let b ← sees ⟨#[114,101,100,117,99,101]⟩ l
   if b then
    let l1 ← eat ⟨#[114,101,100,117,99,101]⟩ l
    pReduce P l1
   else
    let b ← sees ⟨#[102,111,114,101,97,99,104]⟩ l
    if b then none else
     let b ← sees ⟨#[105,102]⟩ l
     if b then
      let l1 ← eat ⟨#[105,102]⟩ l
      pIf P l1
     else
      let (f,l1) ← P .pfix l
      let b ← sees ⟨#[97,115]⟩ l1
      if b then
       let l2 ← eat ⟨#[97,115]⟩ l1
       let (x,l3) ← eatKind 4 l2
       let l4 ← eat ⟨#[124]⟩ l3
       let (g,l5) ← P (.oper 1) l4
       some (.bind f x.text g,l5)
      else some (f,l1)
theorem bound_step {P:Pars} (hP:Sound P) {l:List Tok}{t:Tr}{l':List Tok}{w:World}{rb tb:Nat} (h:stepBound P l=some (t,l')) (hr:Rd w rb tb l) :
  Calls Tryz.prog 138 #[.pointer (some ⟨rb,0,none⟩)] w (Gives rb tb l' t w):=by
 have hL:=Left.of_rd hr
 have hrb:=hr.rbs
 simp only [stepBound,Option.bind_eq_bind,Option.bind_eq_some_iff] at h
 obtain ⟨b,hb1,h⟩:=h
 cases b with
 | true=>simp at h
 | false =>
 simp only [Bool.false_eq_true,if_false,Option.bind_eq_some_iff] at h
 obtain ⟨b,hb2,h⟩:=h
 cases b with
 | true =>
  simp only [if_true,Option.bind_eq_some_iff,Prod.exists,Option.some.injEq,Prod.mk.injEq] at h
  obtain ⟨l1,e1,x,l2,hx,l3,e3,y,l4,hy,rfl,rfl⟩:=h
  go_enter Tryz.func138,Tryz.ntmps138
  go_wp2_with (first
   | (go_at_call 37;refine (accept_not (by assumption) (by assumption)).mono ?_;rintro e w1 ⟨rfl,h1⟩;have r1:=h1.rd;have hL:=hL.trans h1)
   | (go_at_call 37;refine (accept_eat (by assumption) (by assumption)).mono ?_;rintro e w1 ⟨rfl,h1⟩;have r1:=h1.rd;first | have hL:=hL.trans h1 | have hn:=hn.call h1)
   | (go_at_call 85;refine (hP.minus hx (by assumption)).mono ?_;rintro e w2 ⟨T,b,rfl,h2,r2⟩;have hL2:=hL.trans h2;have hn:=Nod.start h2.rd #[.iface T (.pointer (some ⟨b,0,none⟩)),.nilIface] 147;have hs2:=hL.kept.size;have hnr:=hn.rd)
   | (go_at_call 85;refine (hP.minus hy (by assumption)).mono ?_;rintro e w2 ⟨T,b,rfl,h4,r4⟩;have hn:=hn.item h4 r4;have q1:=hn.cell;have q2:=hn.free;have q3:=hn.lt;simp at q1))
  go_ret
  have hn2:=hn.set 1 (.iface T (.pointer (some ⟨b,0,none⟩)))
  have hz:=hn2.new
  have hs3:=hL2.kept.size
  exact ⟨_,_,rfl,hL2.trans hn2.left,.tries (by omega) ((hn2.cell 0).trans rfl) ((hn2.cell 1).trans rfl) ((r2.left hn2.left (by omega)).low hs2) ((hn2.its _ (.head _)).low (by omega))⟩
 | false =>
 simp only [Bool.false_eq_true,if_false,Option.bind_eq_some_iff] at h
 obtain ⟨b,hb3,h⟩:=h
 cases b with
 | true =>
  simp only [if_true,Option.bind_eq_some_iff] at h
  obtain ⟨l1,e1,h⟩:=h
  go_enter Tryz.func138,Tryz.ntmps138
  go_wp2_with (first
   | (go_at_call 37;refine (accept_not (by assumption) (by assumption)).mono ?_;rintro e w1 ⟨rfl,h1⟩;have r1:=h1.rd;have hL:=hL.trans h1)
   | (go_at_call 37;refine (accept_eat (by assumption) (by assumption)).mono ?_;rintro e w1 ⟨rfl,h1⟩;have r1:=h1.rd;have hL:=hL.trans h1)
   | (go_at_call 195;refine (reduce_step hP h (by assumption)).mono ?_;rintro e w2 ⟨T,b,rfl,h2,r2⟩;have hs2:=hL.kept.size;have hL:=hL.trans h2))
  go_ret
  exact ⟨_,_,rfl,hL,r2.low hs2⟩
 | false =>
 simp only [Bool.false_eq_true,if_false,Option.bind_eq_some_iff] at h
 obtain ⟨b,hb4,h⟩:=h
 cases b with
 | true=>simp at h
 | false =>
 simp only [Bool.false_eq_true,if_false,Option.bind_eq_some_iff] at h
 obtain ⟨b,hb5,h⟩:=h
 cases b with
 | true =>
  simp only [if_true,Option.bind_eq_some_iff] at h
  obtain ⟨l1,e1,h⟩:=h
  go_enter Tryz.func138,Tryz.ntmps138
  go_wp2_with (first
   | (go_at_call 37;refine (accept_not (by assumption) (by assumption)).mono ?_;rintro e w1 ⟨rfl,h1⟩;have r1:=h1.rd;have hL:=hL.trans h1)
   | (go_at_call 37;refine (accept_eat (by assumption) (by assumption)).mono ?_;rintro e w1 ⟨rfl,h1⟩;have r1:=h1.rd;have hL:=hL.trans h1)
   | (go_at_call 197;refine (condition_step hP h (by assumption)).mono ?_;rintro e w2 ⟨T,b,rfl,h2,r2⟩;have hs2:=hL.kept.size;have hL:=hL.trans h2))
  go_ret
  exact ⟨_,_,rfl,hL,r2.low hs2⟩
 | false =>
 simp only [Bool.false_eq_true,if_false,Option.bind_eq_some_iff,Prod.exists] at h
 obtain ⟨f,l1,hf,b,hb6,h⟩:=h
 cases b with
 | true =>
  simp only [if_true,Option.bind_eq_some_iff,Prod.exists,Option.some.injEq,Prod.mk.injEq] at h
  obtain ⟨l2,e2,x,l3,e3,l4,e4,g,l5,hg,rfl,rfl⟩:=h
  have hfd:=field_text
  go_enter Tryz.func138,Tryz.ntmps138
  go_wp2_with (first
   | (go_at_call 37;refine (accept_not (by assumption) (by assumption)).mono ?_;rintro e w1 ⟨rfl,h1⟩;have r1:=h1.rd;have hL:=hL.trans h1)
   | (go_at_call 37;refine (accept_eat (by assumption) (by assumption)).mono ?_;rintro e w1 ⟨rfl,h1⟩;have r1:=h1.rd;have hL:=hL.trans h1;have r2:=r2.left h1 (by omega))
   | (go_at_call 198;refine (hP.pfix hf (by assumption)).mono ?_;rintro e w2 ⟨T,b,rfl,h2,r2⟩;have r1:=h2.rd;have hs2:=hL.kept.size;have hL:=hL.trans h2)
   | (go_at_call 83;refine (expectKind_eat (by assumption) (by assumption)).mono ?_;rintro e w3 ⟨rfl,h3⟩;have r1:=h3.rd;have hL:=hL.trans h3;have r2:=r2.left h3 (by omega))
   | (go_at_call 84;refine (expect_eat (by assumption) (by assumption)).mono ?_;rintro e w4 ⟨rfl,h4⟩;have r1:=h4.rd;have hL:=hL.trans h4;have r2:=r2.left h4 (by omega))
   | (go_at_call 39;refine (hP.oper hg (by assumption)).mono ?_;rintro e w5 ⟨T',b',rfl,h5,r5⟩;have r1:=h5.rd;have hs5:=hL.kept.size;have hL:=hL.trans h5;have r2:=r2.left h5 (by omega)))
  go_ret
  have hs6:=hL.kept.size
  exact ⟨_,_,rfl,hL.upto (below_alloc _ _),.bind (by omega) (box_cell _ _ _ _) (box_cell _ _ _ _) (box_cell _ _ _ _) ((r2.upon (below_alloc _ _)).low hs2) ((r5.upon (below_alloc _ _)).low (by omega))⟩
 | false =>
 simp only [Bool.false_eq_true,if_false,Option.some.injEq,Prod.mk.injEq] at h
 obtain ⟨rfl,rfl⟩:=h
 go_enter Tryz.func138,Tryz.ntmps138
 go_wp2_with (first
  | (go_at_call 37;refine (accept_not (by assumption) (by assumption)).mono ?_;rintro e w1 ⟨rfl,h1⟩;have r1:=h1.rd;have hL:=hL.trans h1)
  | (go_at_call 198;refine (hP.pfix hf (by assumption)).mono ?_;rintro e w2 ⟨T,b,rfl,h2,r2⟩;have r1:=h2.rd;have hs2:=hL.kept.size;have hL:=hL.trans h2))
 go_ret
 exact ⟨_,_,rfl,hL,(r2.left h1 (by omega)).low hs2⟩
def postL (P:Pars):Nat→Tr→List Tok→Option (Tr×List Tok)
 | 0,_,_=>none
 | n+1,f,l=>do
  let b ← sees ⟨#[46]⟩ l
  if b then none else
   let b ← sees ⟨#[91]⟩ l
   if b then
    let l1 ← eat ⟨#[91]⟩ l
    let b ← sees ⟨#[93]⟩ l1
    if b then
     let l2 ← eat ⟨#[93]⟩ l1
     postL P n (.each f) l2
    else
     let (g,l2) ← P .filter l1
     let l3 ← eat ⟨#[93]⟩ l2
     postL P n (.index f g) l3
   else
    let b ← sees ⟨#[63]⟩ l
    if b then none else some (f,l)
def stepPostfix (P:Pars) (l:List Tok):Option (Tr×List Tok):=do
 let (f,l1) ← P .primary l
 postL P 20 f l1
theorem pfix_step {P:Pars} (hP:Sound P) {l:List Tok}{t:Tr}{l':List Tok}{w:World}{rb tb:Nat} (h:stepPostfix P l=some (t,l')) (hr:Rd w rb tb l) :
  Calls Tryz.prog 198 #[.pointer (some ⟨rb,0,none⟩)] w (Gives rb tb l' t w):=by
 have hrb:=hr.rbs
 simp only [stepPostfix,Option.bind_eq_bind,Option.bind_eq_some_iff,Prod.exists] at h
 obtain ⟨f,l1,hf,h⟩:=h
 go_enter Tryz.func198,Tryz.ntmps198
 go_wp2_with (go_at_call 248;refine (hP.primary hf hr).mono ?_;rintro e w1 ⟨T,b,rfl,h1,r1⟩)
 go_loopg [3] 20 (fun k v wr=>∃ T b m g,v = .iface T (.pointer (some ⟨b,0,none⟩))∧Left w wr rb tb m∧Rep (w.heap.size≤·) wr v g∧postL P k g m=some (t,l'))
 case atStart=>exact ⟨_,_,_,_,rfl,h1,r1,h⟩
 case round =>
  obtain ⟨T,b,m,g,rfl,hL,hR,h⟩:=hrel
  have hm:=hL.rd
  match gk,h with
  | k+1,h =>
  simp only [postL,Option.bind_eq_bind,Option.bind_eq_some_iff] at h
  obtain ⟨b1,hb1,h⟩:=h
  cases b1 with
  | true=>simp at h
  | false =>
  simp only [Bool.false_eq_true,if_false,Option.bind_eq_some_iff] at h
  obtain ⟨b2,hb2,h⟩:=h
  cases b2 with
  | true =>
   simp only [if_true,Option.bind_eq_some_iff] at h
   obtain ⟨l2,e2,b3,hb3,h⟩:=h
   cases b3 with
   | true =>
    simp only [if_true,Option.bind_eq_some_iff] at h
    obtain ⟨l3,e3,h⟩:=h
    go_wp2_with (first
     | (go_at_call 37;refine (accept_not (by assumption) (by assumption)).mono ?_;rintro e w1 ⟨rfl,h1⟩;have r1:=h1.rd;have hL:=hL.trans h1;have hR:=hR.left h1 hrb)
     | (go_at_call 37;refine (accept_eat (by assumption) (by assumption)).mono ?_;rintro e w1 ⟨rfl,h1⟩;have r1:=h1.rd;have hL:=hL.trans h1;have hR:=hR.left h1 hrb))
    go_roundg k
    case measure=>omega
    case rel=>exact ⟨_,_,_,_,rfl,hL.upto (below_alloc _ _),.each hL.kept.size (box_cell _ _ _ _) (hR.box _),h⟩
   | false =>
    simp only [Bool.false_eq_true,if_false,Option.bind_eq_some_iff,Prod.exists] at h
    obtain ⟨g2,l3,hg,l4,e4,h⟩:=h
    go_wp2_with (first
     | (go_at_call 37;refine (accept_not (by assumption) (by assumption)).mono ?_;rintro e w1 ⟨rfl,h1⟩;have r1:=h1.rd;have hL:=hL.trans h1;have hR:=hR.left h1 hrb)
     | (go_at_call 37;refine (accept_eat (by assumption) (by assumption)).mono ?_;rintro e w1 ⟨rfl,h1⟩;have r1:=h1.rd;have hL:=hL.trans h1;have hR:=hR.left h1 hrb)
     | (go_at_call 16;refine (hP.filter hg (by assumption)).mono ?_;rintro e w2 ⟨T2,b2,rfl,h2,r2⟩;have q2:=h2.rd;have hs:=hL.kept.size;have hL:=hL.trans h2;have hR:=hR.left h2 hrb;have r2:=r2.low hs)
     | (go_at_call 84;refine (expect_eat (q2.alloc _) (by assumption)).mono ?_;rintro e w3 ⟨rfl,h3⟩))
    go_roundg k
    case measure=>omega
    case rel =>
     have hs2:=hL.kept.size
     exact ⟨_,_,_,_,rfl,hL.trans (h3.from (below_alloc _ _)),.index hs2 (h3.cellNew (by omega) (box_cell _ _ _ _)) (h3.cellNew (by omega) (box_cell _ _ _ _)) ((hR.box _).left h3 hrb) ((r2.box _).left h3 hrb),h⟩
  | false =>
   simp only [Bool.false_eq_true,if_false,Option.bind_eq_some_iff] at h
   obtain ⟨b3,hb3,h⟩:=h
   cases b3 with
   | true=>simp at h
   | false =>
   simp only [Bool.false_eq_true,if_false,Option.some.injEq,Prod.mk.injEq] at h
   obtain ⟨rfl,rfl⟩:=h
   go_wp2_with (go_at_call 37;refine (accept_not (by assumption) (by assumption)).mono ?_;rintro e w1 ⟨rfl,h1⟩;have r1:=h1.rd;have hL:=hL.trans h1;have hR:=hR.left h1 hrb)
   go_ret
   exact ⟨_,_,rfl,hL,hR⟩
theorem info_filter:(Tryz.prog.info? 37).map (fun i=>(i.zero,i.size,i.bytes))=some (some .nilIface,1,16):=by kernel_rfl
theorem info_string:(Tryz.prog.info? 9).map (fun i=>(i.zero,i.size,i.bytes))=some (some (.string ⟨#[]⟩),1,16):=by kernel_rfl
theorem Below.of_grown {w w':World} (h:w.grownBy w' none):Below w.heap.size w w':=⟨h.os,h.tape,h.output,h.size,fun k hk=>h.block k hk (by simp)⟩
theorem Nod.upto {a w w':World}{rb tb:Nat}{l:List Tok}{N:Nat}{cs:Array Value}{T:Nat}{its:List (Value×Tr)} (h:Nod a w rb tb l N cs T its) (k:Below w.heap.size w w'):Nod a w' rb tb l N cs T its :=
 ⟨h.left.upto k,h.new,h.rbs,h.tbs,(k.block N h.lt).trans h.blk,fun x hx=>(h.its x hx).upon k⟩
theorem owns_cell {w:World}{base e g n cap:Nat}{xs:List Value} (h:w.ownsRow base e 1 (.slice (some ⟨g,0,none⟩) n cap) n xs) (i:Nat) (hi:i < n):w.cell? ⟨g,i,none⟩=xs[i]?:=by
 obtain ⟨hl,h | ⟨g',c',cur,hv,_,hb,_,_,_,ht⟩⟩:=h
 ·simp at h
 ·simp only [Value.slice.injEq,Option.some.injEq,Addr.mk.injEq,and_true,true_and] at hv
  obtain ⟨rfl,rfl⟩:=hv
  simp [World.cell?,hb,← ht,hi]
theorem set_far {w:World}{N o g i:Nat}{u v:Value} (hN:g≠N) (h:w.cell? ⟨g,i,none⟩=some v):(w.setCell ⟨N,o,none⟩ u).cell? ⟨g,i,none⟩=some v :=
 (World.cell?_of_block (w:=w) (Below.heap_setCell _ _ _ _ (by simpa using hN))).trans h
def pCall (P:Pars):List Tok→Option (Tr×List Tok)
 | t :: u :: m=>do
  let b ← sees ⟨#[40]⟩ (u :: m)
  if b then
   let l2 ← eat ⟨#[40]⟩ (u :: m)
   let (x,l3) ← P .filter l2
   let b ← sees ⟨#[59]⟩ l3
   if b then
    let l4 ← eat ⟨#[59]⟩ l3
    let (y,l5) ← P .filter l4
    let b ← sees ⟨#[59]⟩ l5
    if b then none else
     let l6 ← eat ⟨#[41]⟩ l5
     some (.call2 t.text x y t.pos,l6)
   else
    let l4 ← eat ⟨#[41]⟩ l3
    some (.call1 t.text x t.pos,l4)
  else some (.call0 t.text t.pos,u :: m)
 | _=>none
theorem call_step0 {t u:Tok}{m:List Tok}{w:World}{rb tb:Nat} (hb:sees ⟨#[40]⟩ (u :: m)=some false) (hr:Rd w rb tb (t :: u :: m)) :
  Calls Tryz.prog 281 #[.pointer (some ⟨rb,0,none⟩)] w (Gives rb tb (u :: m) (.call0 t.text t.pos) w):=by
 have hrb:=hr.rbs
 go_enter Tryz.func281,Tryz.ntmps281
 go_wp2_with (first
  | (go_at_call 82;refine (take_rd hr).mono ?_;rintro e w1 ⟨rfl,h1⟩;have r1:=h1.rd;have hn:=Nod.startAt (r1.alloc (.cells #[.int .u8 t.kind,.string t.text,.int .i64 t.pos] 62)) (w1.heap.size+1) (by simp) #[.string t.text,.slice none 0 0,.int .i64 t.pos] 219)
  | (go_at_call 37;refine (accept_not hn.rd (by assumption)).mono ?_;rintro e w2 ⟨rfl,h2⟩;have hn:=hn.call h2))
 go_ret
 have hz:=hn.new
 have hs:=h1.kept.size
 simp at hz
 exact ⟨_,_,rfl,h1.trans (hn.left.from (below_alloc _ _)),.call0 (by omega) ((hn.cell 0).trans rfl) ((hn.cell 1).trans rfl) ((hn.cell 2).trans rfl)⟩
theorem call_step1 {P:Pars} (hP:Sound P) {t u:Tok}{m l2 l3 l4:List Tok}{x:Tr}{w:World}{rb tb:Nat} (e1:eat ⟨#[40]⟩ (u :: m)=some l2) (hx:P .filter l2=some (x,l3)) (hb:sees ⟨#[59]⟩ l3=some false)
  (e4:eat ⟨#[41]⟩ l3=some l4) (hr:Rd w rb tb (t :: u :: m)) :
  Calls Tryz.prog 281 #[.pointer (some ⟨rb,0,none⟩)] w (Gives rb tb l4 (.call1 t.text x t.pos) w):=by
 have hrb:=hr.rbs
 obtain ⟨i0,hi0,hz0,hz1,hz2⟩:=info_parts info_filter
 go_enter Tryz.func281,Tryz.ntmps281
 go_wp2_with (first
  | (go_at_call 82;refine (take_rd hr).mono ?_;rintro e w1 ⟨rfl,h1⟩;have r1:=h1.rd;have hn:=Nod.startAt (r1.alloc (.cells #[.int .u8 t.kind,.string t.text,.int .i64 t.pos] 62)) (w1.heap.size+1) (by simp) #[.string t.text,.slice none 0 0,.int .i64 t.pos] 219)
  | (go_at_call 37;refine (accept_eat hn.rd (by assumption)).mono ?_;rintro e w2 ⟨rfl,h2⟩;have hn:=hn.call h2;have q1:=hn.cell;have q2:=hn.free;have q3:=hn.lt;simp at q1 q2 q3))
 go_region_law
  (first
   | (refine step_append_lies _ (by rfl) _ _ _ (by rfl) 0 37 i0 _ 1 16 Tryz.underlying195 hi0 hz0 hz1 hz2 rfl (by omega) (.slice none 0 0) 0 [] (by rfl) (World.ownsRow_nil _ _ _ _) ⟨w3.heap.size,0,none⟩ 1 1 [.iface T (.pointer (some ⟨b,0,none⟩))] (by rfl) (by rfl) (World.news_of_block (cs:=#[.iface T (.pointer (some ⟨b,0,none⟩))]) (t:=37) (fr:=(0,0)) (heap_alloc_new w3 _)) (by simp [Value.oneCell']) (by omega) (by decide) (by omega) (by omega) (w3.heap.size+1) (by simp) ?_;intro g cap w4 hown hgrow hat hlt;have hn:=(hn.upto (below_alloc _ _)).upto (Below.of_grown hgrow);have hS:w4.cell? ⟨w1.heap.size+1,1,none⟩=some (.slice none 0 0):=(hn.cell 1).trans rfl;have q2:=hn.free;have q3:=hn.lt)
   | (go_simp;go_at_call 16;refine (hP.filter hx (hn.upto (Below.refl _ _).drew).rd).mono ?_;rintro e w3 ⟨T,b,rfl,h3,r3⟩;have hn:=(hn.upto (Below.refl _ _).drew).item h3 r3;have hS:w3.cell? ⟨w1.heap.size+1,1,none⟩=some (.slice none 0 0):=(hn.cell 1).trans rfl;have q3:=hn.lt))
 all_goals
  have hn:=hn.set 1 (.slice (some ⟨g,0,none⟩) 1 cap)
  have hgx:(w4.setCell ⟨w1.heap.size+1,1,none⟩ (.slice (some ⟨g,0,none⟩) 1 cap)).cell? ⟨g,0,none⟩=some (.iface T (.pointer (some ⟨b,0,none⟩))):=by
   have hg:g=w3.heap.size+1:=by rcases hat with h | h;cases h;exact h
   exact set_far (by omega) (owns_cell hown 0 (by omega))
  go_wp2_with fail
  refine wp_loop_rounds 1 ?_
  rw [rounds_succ]
  go_wp2_with (first
   | (go_at_call 37;refine (accept_not hn.rd (by assumption)).mono ?_;rintro e w5 ⟨rfl,h5⟩;have hn:=hn.call h5)
   | (go_at_call 84;refine (expect_eat hn.rd (by assumption)).mono ?_;rintro e w6 ⟨rfl,h6⟩;have hn:=hn.call h6))
  go_ret
  have hg:g=w3.heap.size+1:=by rcases hat with h | h;cases h;exact h
  have hs1:=h1.kept.size
  exact ⟨_,_,rfl,h1.trans (hn.left.from (below_alloc _ _)),.call1 (d:=g) (o:=0) (by omega) (by omega) ((hn.cell 0).trans rfl) ((hn.cell 1).trans rfl) ((hn.cell 2).trans rfl) (h6.cellNew (by omega) (h5.cellNew (by omega) hgx)) ((hn.its _ (.head _)).low (by omega))⟩
theorem Rep.move {p:Nat→Prop}{w w':World} (hm:∀ k,p k→k < w.heap.size→w'.heap[k]? = w.heap[k]?) {v:Value}{t:Tr} (h:Rep p w v t):Rep p w' v t :=
 h.to fun b _ _ hb hv=>⟨hb,(World.cell?_of_block (w:=w) (hm b hb (cell_lt hv))).trans hv⟩
theorem owns_same {w w':World}{base e s n:Nat}{v:Value}{xs:List Value} (h:w.ownsRow base e s v n xs) (hb:∀ k,v.ownBlock=some k→w'.heap[k]? = w.heap[k]?):w'.ownsRow base e s v n xs:=by
 obtain ⟨hl,h | ⟨g',c',cur,rfl,a,b,c⟩⟩:=h
 ·exact ⟨hl,.inl h⟩
 ·exact ⟨hl,.inr ⟨g',c',cur,rfl,a,(hb g' rfl).trans b,c⟩⟩
theorem owns_left {w w':World}{base e s n g c rb tb:Nat}{xs:List Value}{l:List Tok} (h:w.ownsRow base e s (.slice (some ⟨g,0,none⟩) n c) n xs) (k:Left w w' rb tb l) (hg:g≠rb) (hlt:g < w.heap.size):w'.ownsRow base e s (.slice (some ⟨g,0,none⟩) n c) n xs :=
 owns_same h fun i hi=>by simp [Value.ownBlock] at hi;subst hi;exact k.kept.block _ hlt hg
theorem owns_below {w w':World}{base e s n g c:Nat}{xs:List Value} (h:w.ownsRow base e s (.slice (some ⟨g,0,none⟩) n c) n xs) (k:Below w.heap.size w w') (hlt:g < w.heap.size):w'.ownsRow base e s (.slice (some ⟨g,0,none⟩) n c) n xs :=
 owns_same h fun i hi=>by simp [Value.ownBlock] at hi;subst hi;exact k.block _ hlt
theorem Nod.grown {a w w':World}{rb tb:Nat}{l:List Tok}{N g:Nat}{cs:Array Value}{T:Nat} (h:Nod a w rb tb l N cs T []) (k:w.grownBy w' (some g)) (hN:N < g):Nod a w' rb tb l N cs T []:=by
 have hr:=h.rbs
 have ht:=h.tbs
 have hn:=h.new
 obtain ⟨hk,o,c,hR⟩:=h.left
 have hs:=hk.size
 refine ⟨⟨⟨k.os.trans hk.os,k.tape.trans hk.tape,k.output.trans hk.output,Nat.le_trans hs k.size,fun i hi hne=>(k.block i (by omega) (by simp;omega)).trans (hk.block i hi hne)⟩,o,c,?_⟩,hn,hr,ht,(k.block N h.lt (by simp;omega)).trans h.blk,by simp⟩
 have hbr:=k.block rb hR.rbs (by simp;omega)
 exact ⟨(World.cell?_of_block (w:=w) hbr).trans hR.cell,hR.cap,hR.max,(World.frozen?_of_block (w:=w) hbr).trans hR.free,hR.ne,Nat.lt_of_lt_of_le hR.tbs k.size,Toks.same (k.block tb hR.tbs (by simp;omega)) hR.toks⟩
theorem Nod.none {a w:World}{rb tb:Nat}{l:List Tok}{N:Nat}{cs:Array Value}{T:Nat}{its:List (Value×Tr)} (h:Nod a w rb tb l N cs T its):Nod a w rb tb l N cs T [] :=
 ⟨h.left,h.new,h.rbs,h.tbs,h.blk,by simp⟩
theorem call_step2 {P:Pars} (hP:Sound P) {t u:Tok}{m l2 l3 l4 l5 l6:List Tok}{x y:Tr}{w:World}{rb tb:Nat} (e1:eat ⟨#[40]⟩ (u :: m)=some l2) (hx:P .filter l2=some (x,l3))
  (e3:eat ⟨#[59]⟩ l3=some l4) (hy:P .filter l4=some (y,l5)) (hb:sees ⟨#[59]⟩ l5=some false)
  (e4:eat ⟨#[41]⟩ l5=some l6) (hr:Rd w rb tb (t :: u :: m)) :
  Calls Tryz.prog 281 #[.pointer (some ⟨rb,0,none⟩)] w (Gives rb tb l6 (.call2 t.text x y t.pos) w):=by
 have hrb:=hr.rbs
 obtain ⟨i0,hi0,hz0,hz1,hz2⟩:=info_parts info_filter
 go_enter Tryz.func281,Tryz.ntmps281
 go_wp2_with (first
  | (go_at_call 82;refine (take_rd hr).mono ?_;rintro e w1 ⟨rfl,h1⟩;have r1:=h1.rd;have hn:=Nod.startAt (r1.alloc (.cells #[.int .u8 t.kind,.string t.text,.int .i64 t.pos] 62)) (w1.heap.size+1) (by simp) #[.string t.text,.slice none 0 0,.int .i64 t.pos] 219)
  | (go_at_call 37;refine (accept_eat hn.rd (by assumption)).mono ?_;rintro e w2 ⟨rfl,h2⟩;have hn:=hn.call h2;have q1:=hn.cell;have q2:=hn.free;have q3:=hn.lt;simp at q1 q2 q3))
 go_region_law
  (first
   | (refine step_append_lies _ (by rfl) _ _ _ (by rfl) 0 37 i0 _ 1 16 Tryz.underlying195 hi0 hz0 hz1 hz2 rfl (by omega) (.slice none 0 0) 0 [] (by rfl) (World.ownsRow_nil _ _ _ _) ⟨w3.heap.size,0,none⟩ 1 1 [.iface T (.pointer (some ⟨b,0,none⟩))] (by rfl) (by rfl) (World.news_of_block (cs:=#[.iface T (.pointer (some ⟨b,0,none⟩))]) (t:=37) (fr:=(0,0)) (heap_alloc_new w3 _)) (by simp [Value.oneCell']) (by omega) (by decide) (by omega) (by omega) (w3.heap.size+1) (by simp) ?_;intro g cap w4 hown hgrow hat hlt;have hn:=(hn.upto (below_alloc _ _)).upto (Below.of_grown hgrow);have hS:w4.cell? ⟨w1.heap.size+1,1,none⟩=some (.slice none 0 0):=(hn.cell 1).trans rfl;have q2:=hn.free;have q4:=hn.lt)
   | (go_simp;go_at_call 16;refine (hP.filter hx (hn.upto (Below.refl _ _).drew).rd).mono ?_;rintro e w3 ⟨T,b,rfl,h3,r3⟩;have hn:=(hn.upto (Below.refl _ _).drew).call h3;have hS:w3.cell? ⟨w1.heap.size+1,1,none⟩=some (.slice none 0 0):=(hn.cell 1).trans rfl;have q5:=hn.lt))
 all_goals
  have hn:=hn.set 1 (.slice (some ⟨g,0,none⟩) 1 cap)
  have hz:Hid (g=w3.heap.size+1):=(by rcases hat with h | h;cases h;exact h:g=w3.heap.size+1)
  have hs3:w2.heap.size≤w3.heap.size:=h3.kept.size
  have hx0:Rep (fun c=>w2.heap.size≤c∧c < w3.heap.size) w3 (.iface T (.pointer (some ⟨b,0,none⟩))) x:=r3.to fun c _ _ hc hv=>⟨⟨hc,cell_lt hv⟩,hv⟩
  have hx1:Rep (fun c=>w2.heap.size≤c∧c < w3.heap.size) (w4.setCell ⟨w1.heap.size+1,1,none⟩ (.slice (some ⟨g,0,none⟩) 1 cap)) (.iface T (.pointer (some ⟨b,0,none⟩))) x :=
   hx0.move fun k hk hlt=>(Below.heap_setCell _ _ _ _ (by simp;omega)).trans (((Below.of_grown hgrow).block k (by simp;omega)).trans ((below_alloc _ _).block k hlt))
  have ho1:=owns_same (w':=w4.setCell ⟨w1.heap.size+1,1,none⟩ (.slice (some ⟨g,0,none⟩) 1 cap)) hown (fun k hk=>Below.heap_setCell _ _ _ _ (by have:=hz.out;simp [Value.ownBlock] at hk;simp;omega))
  have hgs:g < (w4.setCell ⟨w1.heap.size+1,1,none⟩ (.slice (some ⟨g,0,none⟩) 1 cap)).heap.size:=by simpa using hlt
  have hgr:g≠rb:=by have:=hz.out;have:=h1.kept.size;have:=hn.lt;have:=h2.kept.size;simp at this;omega
  have hn:=hn.none
  go_wp2_with fail
  refine wp_loop_rounds 2 ?_
  rw [rounds_succ]
  go_wp2_with (go_at_call 37;refine (accept_eat hn.rd e3).mono ?_;rintro e w5 ⟨rfl,h5⟩;have hn:=hn.call h5;have ho2:=owns_left ho1 h5 hgr hgs;have hx2:=hx1.move (fun k hk hlt=>h5.kept.block k hlt (by have:=h1.kept.size;have:=h2.kept.size;simp at this;omega));have hg5:=Nat.lt_of_lt_of_le hgs h5.kept.size;have q1:=hn.cell;have q2:=hn.free;have q3:=hn.lt;simp at q1)
  go_region_law
   (first
    | (go_simp;go_at_call 16;refine (hP.filter hy (hn.upto (Below.refl _ _).drew).rd).mono ?_;rintro e w6 ⟨T2,b2,rfl,h6,r6⟩;have hn:=(hn.upto (Below.refl _ _).drew).call h6;have hS:w6.cell? ⟨w1.heap.size+1,1,none⟩=some (.slice (some ⟨g,0,none⟩) 1 cap):=(hn.cell 1).trans rfl;have q5:=hn.lt;have ho3:=owns_left (owns_below ho2 (Below.refl _ _).drew hg5) h6 hgr hg5;have hg6:g < w6.heap.size:=Nat.lt_of_lt_of_le hg5 h6.kept.size)
    | (refine step_append_lies _ (by rfl) _ _ _ (by rfl) 0 37 i0 _ 1 16 Tryz.underlying195 hi0 hz0 hz1 hz2 rfl (by omega) (.slice (some ⟨g,0,none⟩) 1 cap) 1 _ (by rfl) (owns_below ho3 (below_alloc _ _) hg6) ⟨w6.heap.size,0,none⟩ 1 1 [.iface T2 (.pointer (some ⟨b2,0,none⟩))] (by rfl) (by rfl) (World.news_of_block (cs:=#[.iface T2 (.pointer (some ⟨b2,0,none⟩))]) (t:=37) (fr:=(0,0)) (heap_alloc_new w6 _)) (by simp [Value.oneCell']) (by omega) (by decide) (by omega) (by omega) (w6.heap.size+1) (by simp) ?_;intro g2 cap2 w7 hown2 hgrow2 hat2 hlt2;have hn:=(hn.upto (below_alloc _ _)).grown (g:=g) hgrow2 (by have:=hz.out;omega);have hS:w7.cell? ⟨w1.heap.size+1,1,none⟩=some (.slice (some ⟨g,0,none⟩) 1 cap):=(hn.cell 1).trans rfl;have q2:=hn.free;have q4:=hn.lt))
  all_goals
   have hn:=hn.set 1 (.slice (some ⟨g2,0,none⟩) 2 cap2)
   have zg:=hz.out
   have z1:=h1.kept.size
   have z2:=h2.kept.size
   have z5:=h5.kept.size
   have z6:=h6.kept.size
   have z7:=hgrow2.size
   have hg2:w1.heap.size+1 < g2∧g2≠rb:=by
    have hg2':g2=g∨g2=w6.heap.size+1:=by rcases hat2 with h | h;(left;simpa [Value.ownBlock] using h.symm);exact .inr h
    simp at z1 z2 z5 z6
    rcases hg2' with h | h <;> constructor <;> omega
   have hc0:=set_far (o:=1) (u:=.slice (some ⟨g2,0,none⟩) 2 cap2) (N:=w1.heap.size+1) (by omega) (owns_cell hown2 0 (by omega))
   have hc1:=set_far (o:=1) (u:=.slice (some ⟨g2,0,none⟩) 2 cap2) (N:=w1.heap.size+1) (by omega) (owns_cell hown2 1 (by omega))
   have hx3:=hx2.move (w':=w7.setCell ⟨w1.heap.size+1,1,none⟩ (.slice (some ⟨g2,0,none⟩) 2 cap2)) (fun k hk hlt=>by
    simp at z2 z6
    exact (Below.heap_setCell _ _ _ _ (by simp;omega)).trans ((hgrow2.block k (by simp;omega) (by simp [Value.ownBlock];omega)).trans (((below_alloc _ _).block k (by omega)).trans (h6.kept.block k (by simpa using hlt) (by omega)))))
   have hy3:=r6.move (w':=w7.setCell ⟨w1.heap.size+1,1,none⟩ (.slice (some ⟨g2,0,none⟩) 2 cap2)) (fun k hk hlt=>by
    simp at hk z2
    exact (Below.heap_setCell _ _ _ _ (by simp;omega)).trans ((hgrow2.block k (by simp;omega) (by simp [Value.ownBlock];omega)).trans ((below_alloc _ _).block k hlt)))
   clear zg
   go_wp2_with fail
   rw [rounds_succ]
   go_wp2_with (first
    | (go_at_call 37;refine (accept_not hn.rd hb).mono ?_;rintro e w8 ⟨rfl,h8⟩;have hn:=hn.call h8)
    | (go_at_call 84;refine (expect_eat hn.rd e4).mono ?_;rintro e w9 ⟨rfl,h9⟩;have hn:=hn.call h9))
   go_ret
   simp at z1 z2 z5 z6
   exact ⟨_,_,rfl,h1.trans (hn.left.from (below_alloc _ _)),.call2 (d:=g2) (o:=0) (by omega) (by omega) ((hn.cell 0).trans rfl) ((hn.cell 1).trans rfl) ((hn.cell 2).trans rfl) (h9.cellNew hg2.2 (h8.cellNew hg2.2 hc0)) (h9.cellNew hg2.2 (h8.cellNew hg2.2 hc1))
    (((hx3.to (fun c _ _ hc hv=>⟨(by omega:w.heap.size≤c),hv⟩)).left h8 hrb).left h9 hrb) (((hy3.to (fun c _ _ hc hv=>⟨(by simp at hc;omega:w.heap.size≤c),hv⟩)).left h8 hrb).left h9 hrb)⟩
end Go.Proofs.Tryz
