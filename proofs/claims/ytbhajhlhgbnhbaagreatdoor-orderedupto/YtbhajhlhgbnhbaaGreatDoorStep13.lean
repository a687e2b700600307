import Derived.Test.YtbhajhlhgbnhbaaGreatDoorStep7
import Derived.WalkSmall
set_option linter.all false
namespace Go.Proofs.Tryz
set_option maxHeartbeats 16000000
open Go.RowKit
set_option maxRecDepth 10000
def pDef (P:Pars) (l:List Tok):Option (Tr×List Tok):=do
 let (name,l1) ← eatKind 2 l
 let l2 ← eat ⟨#[40]⟩ l1
 let (p,l3) ← eatKind 2 l2
 let b ← sees ⟨#[59]⟩ l3
 if b then
  let l4 ← eat ⟨#[59]⟩ l3
  let (q,l5) ← eatKind 2 l4
  let b ← sees ⟨#[59]⟩ l5
  if b then none else
   let l6 ← eat ⟨#[41]⟩ l5
   let l7 ← eat ⟨#[58]⟩ l6
   let (x,l8) ← P .filter l7
   let l9 ← eat ⟨#[59]⟩ l8
   let (y,l10) ← P .filter l9
   some (.def2 name.text p.text q.text x y,l10)
 else
  let l6 ← eat ⟨#[41]⟩ l3
  let l7 ← eat ⟨#[58]⟩ l6
  let (x,l8) ← P .filter l7
  let l9 ← eat ⟨#[59]⟩ l8
  let (y,l10) ← P .filter l9
  some (.def1 name.text p.text x y,l10)
theorem def_step1 {P:Pars} (hP:Sound P) {l l1 l2 l3 l6 l7 l8 l9 l10:List Tok}{t p:Tok}{x y:Tr}{w:World}{rb tb:Nat} (e1:eatKind 2 l=some (t,l1)) (e2:eat ⟨#[40]⟩ l1=some l2) (e3:eatKind 2 l2=some (p,l3))
  (hb:sees ⟨#[59]⟩ l3=some false) (e6:eat ⟨#[41]⟩ l3=some l6) (e7:eat ⟨#[58]⟩ l6=some l7) (hx:P .filter l7=some (x,l8)) (e9:eat ⟨#[59]⟩ l8=some l9) (hy:P .filter l9=some (y,l10)) (hr:Rd w rb tb l) :
  Calls Tryz.prog 38 #[.pointer (some ⟨rb,0,none⟩)] w (Gives rb tb l10 (.def1 t.text p.text x y) w):=by
 have hrb:=hr.rbs
 have hfd:=field_text
 obtain ⟨i0,hi0,hz0,hz1,hz2⟩:=info_parts info_string
 go_enter Tryz.func38,Tryz.ntmps38
 go_wp2_with (first
  | (go_at_call 83;refine (expectKind_eat hr e1).mono ?_;rintro e w1 ⟨rfl,h1⟩;have hn:=Nod.start h1.rd #[.string t.text,.slice none 0 0,.nilIface,.nilIface] 124)
  | (go_at_call 37;refine (accept_eat hn.rd e2).mono ?_;rintro e w2 ⟨rfl,h2⟩;have hn:=hn.call h2;have q1:=hn.cell;have q2:=hn.free;have q3:=hn.lt;simp at q1 q2 q3))
 go_region_law
  (first
   | (go_simp;go_at_call 83;refine (expectKind_eat (hn.upto (Below.refl _ _).drew).rd e3).mono ?_;rintro e w3 ⟨rfl,h3⟩;have hn:=(hn.upto (Below.refl _ _).drew).call h3;have hS:w3.cell? ⟨w1.heap.size,1,none⟩=some (.slice none 0 0):=(hn.cell 1).trans rfl;have q5:=hn.lt)
   | (refine step_append_lies _ (by rfl) _ _ _ (by rfl) 0 9 i0 _ 1 16 Tryz.underlying27 hi0 hz0 hz1 hz2 rfl (by omega) (.slice none 0 0) 0 [] (by rfl) (World.ownsRow_nil _ _ _ _) ⟨w3.heap.size,0,none⟩ 1 1 [.string p.text] (by rfl) (by rfl) (World.news_of_block (cs:=#[.string p.text]) (t:=9) (fr:=(0,0)) (heap_alloc_new w3 _)) (by simp [Value.oneCell']) (by omega) (by decide) (by omega) (by omega) (w3.heap.size+1) (by simp) ?_;intro g cap w4 hown hgrow hat hlt;have hn:=(hn.upto (below_alloc _ _)).upto (Below.of_grown hgrow);have hS:w4.cell? ⟨w1.heap.size,1,none⟩=some (.slice none 0 0):=(hn.cell 1).trans rfl;have q2:=hn.free;have q4:=hn.lt))
 all_goals
  have hn:=hn.set 1 (.slice (some ⟨g,0,none⟩) 1 cap)
  have z1:=h1.kept.size
  have hz:Hid (g=w3.heap.size+1):=(by rcases hat with h | h;cases h;exact h:g=w3.heap.size+1)
  have hgr:g≠rb∧w1.heap.size < g:=by have:=hz.out;omega
  have hc:=set_far (o:=1) (u:=.slice (some ⟨g,0,none⟩) 1 cap) (N:=w1.heap.size) (by omega) (owns_cell hown 0 (by omega))
  go_wp2_with fail
  refine wp_loop_rounds 1 ?_
  rw [rounds_succ]
  go_wp2_with (first
   | (go_at_call 37;refine (accept_not hn.rd hb).mono ?_;rintro e w5 ⟨rfl,h5⟩;have hn:=hn.call h5;have hc:=h5.cellNew hgr.1 hc)
   | (go_at_call 84;refine (expect_eat hn.rd (by assumption)).mono ?_;rintro e w5 ⟨rfl,h5⟩;have hn:=hn.call h5;have hc:=h5.cellNew hgr.1 hc)
   | (go_at_call 16;refine (hP.filter (by assumption) hn.rd).mono ?_;rintro e w6 ⟨T,b,rfl,h6,r6⟩;have hn:=hn.item h6 r6;have hc:=h6.cellNew hgr.1 hc;have q1:=hn.cell;have q2:=hn.free;have q3:=hn.lt;simp at q1)
   | (go_at_call 84;refine (expect_eat (hn.set _ _).rd (by assumption)).mono ?_;rintro e w5 ⟨rfl,h5⟩;have hn:=(hn.set _ _).call h5;have hc:=h5.cellNew hgr.1 (set_far (by omega) hc)))
  go_ret
  have hn:=hn.set 3 (.iface T (.pointer (some ⟨b,0,none⟩)))
  have hc:=set_far (o:=3) (u:=.iface T (.pointer (some ⟨b,0,none⟩))) (N:=w1.heap.size) (by omega) hc
  exact ⟨_,_,rfl,h1.trans hn.left,.def1 (d:=g) (o:=0) z1 (by omega) ((hn.cell 0).trans rfl) ((hn.cell 1).trans rfl) hc ((hn.cell 2).trans rfl) ((hn.cell 3).trans rfl) ((hn.its _ (.tail _ (.head _))).low (by omega)) ((hn.its _ (.head _)).low (by omega))⟩
theorem def_step2 {P:Pars} (hP:Sound P) {l l1 l2 l3 l4 l5 l6 l7 l8 l9 l10:List Tok}{t p q:Tok}{x y:Tr}{w:World}{rb tb:Nat} (e1:eatKind 2 l=some (t,l1)) (e2:eat ⟨#[40]⟩ l1=some l2) (e3:eatKind 2 l2=some (p,l3))
  (e4:eat ⟨#[59]⟩ l3=some l4) (e5:eatKind 2 l4=some (q,l5))
  (hb:sees ⟨#[59]⟩ l5=some false) (e6:eat ⟨#[41]⟩ l5=some l6) (e7:eat ⟨#[58]⟩ l6=some l7) (hx:P .filter l7=some (x,l8)) (e9:eat ⟨#[59]⟩ l8=some l9) (hy:P .filter l9=some (y,l10)) (hr:Rd w rb tb l) :
  Calls Tryz.prog 38 #[.pointer (some ⟨rb,0,none⟩)] w (Gives rb tb l10 (.def2 t.text p.text q.text x y) w):=by
 have hrb:=hr.rbs
 have hfd:=field_text
 obtain ⟨i0,hi0,hz0,hz1,hz2⟩:=info_parts info_string
 go_enter Tryz.func38,Tryz.ntmps38
 go_wp2_with (first
  | (go_at_call 83;refine (expectKind_eat hr e1).mono ?_;rintro e w1 ⟨rfl,h1⟩;have hn:=Nod.start h1.rd #[.string t.text,.slice none 0 0,.nilIface,.nilIface] 124)
  | (go_at_call 37;refine (accept_eat hn.rd e2).mono ?_;rintro e w2 ⟨rfl,h2⟩;have hn:=hn.call h2;have q1:=hn.cell;have q2:=hn.free;have q3:=hn.lt;simp at q1 q2 q3))
 go_region_law
  (first
   | (go_simp;go_at_call 83;refine (expectKind_eat (hn.upto (Below.refl _ _).drew).rd e3).mono ?_;rintro e w3 ⟨rfl,h3⟩;have hn:=(hn.upto (Below.refl _ _).drew).call h3;have hS:w3.cell? ⟨w1.heap.size,1,none⟩=some (.slice none 0 0):=(hn.cell 1).trans rfl;have q5:=hn.lt)
   | (refine step_append_lies _ (by rfl) _ _ _ (by rfl) 0 9 i0 _ 1 16 Tryz.underlying27 hi0 hz0 hz1 hz2 rfl (by omega) (.slice none 0 0) 0 [] (by rfl) (World.ownsRow_nil _ _ _ _) ⟨w3.heap.size,0,none⟩ 1 1 [.string p.text] (by rfl) (by rfl) (World.news_of_block (cs:=#[.string p.text]) (t:=9) (fr:=(0,0)) (heap_alloc_new w3 _)) (by simp [Value.oneCell']) (by omega) (by decide) (by omega) (by omega) (w3.heap.size+1) (by simp) ?_;intro g cap w4 hown hgrow hat hlt;have hn:=(hn.upto (below_alloc _ _)).upto (Below.of_grown hgrow);have hS:w4.cell? ⟨w1.heap.size,1,none⟩=some (.slice none 0 0):=(hn.cell 1).trans rfl;have q2:=hn.free;have q4:=hn.lt))
 all_goals
  have hn:=hn.set 1 (.slice (some ⟨g,0,none⟩) 1 cap)
  have z1:=h1.kept.size
  have hz:Hid (g=w3.heap.size+1):=(by rcases hat with h | h;cases h;exact h:g=w3.heap.size+1)
  have hgr:g≠rb∧w1.heap.size < g:=by have:=hz.out;omega
  have ho1:=owns_same (w':=w4.setCell ⟨w1.heap.size,1,none⟩ (.slice (some ⟨g,0,none⟩) 1 cap)) hown (fun k hk=>Below.heap_setCell _ _ _ _ (by have:=hz.out;simp [Value.ownBlock] at hk;simp;omega))
  have hgs:g < (w4.setCell ⟨w1.heap.size,1,none⟩ (.slice (some ⟨g,0,none⟩) 1 cap)).heap.size:=by simpa using hlt
  go_wp2_with fail
  refine wp_loop_rounds 2 ?_
  rw [rounds_succ]
  go_wp2_with (go_at_call 37;refine (accept_eat hn.rd e4).mono ?_;rintro e w5 ⟨rfl,h5⟩;have hn:=hn.call h5;have ho2:=owns_left ho1 h5 hgr.1 hgs;have hg5:=Nat.lt_of_lt_of_le hgs h5.kept.size;have q1:=hn.cell;have q2:=hn.free;have q3:=hn.lt;simp at q1)
  go_region_law
   (first
    | (go_simp;go_at_call 83;refine (expectKind_eat (hn.upto (Below.refl _ _).drew).rd e5).mono ?_;rintro e w6 ⟨rfl,h6⟩;have hn:=(hn.upto (Below.refl _ _).drew).call h6;have hS:w6.cell? ⟨w1.heap.size,1,none⟩=some (.slice (some ⟨g,0,none⟩) 1 cap):=(hn.cell 1).trans rfl;have q5:=hn.lt;have ho3:=owns_left (owns_below ho2 (Below.refl _ _).drew hg5) h6 hgr.1 hg5;have hg6:g < w6.heap.size:=Nat.lt_of_lt_of_le hg5 h6.kept.size)
    | (refine step_append_lies _ (by rfl) _ _ _ (by rfl) 0 9 i0 _ 1 16 Tryz.underlying27 hi0 hz0 hz1 hz2 rfl (by omega) (.slice (some ⟨g,0,none⟩) 1 cap) 1 _ (by rfl) (owns_below ho3 (below_alloc _ _) hg6) ⟨w6.heap.size,0,none⟩ 1 1 [.string q.text] (by rfl) (by rfl) (World.news_of_block (cs:=#[.string q.text]) (t:=9) (fr:=(0,0)) (heap_alloc_new w6 _)) (by simp [Value.oneCell']) (by omega) (by decide) (by omega) (by omega) (w6.heap.size+1) (by simp) ?_;intro g2 cap2 w7 hown2 hgrow2 hat2 hlt2;have hn:=(hn.upto (below_alloc _ _)).grown (g:=g) hgrow2 (by omega);have hS:w7.cell? ⟨w1.heap.size,1,none⟩=some (.slice (some ⟨g,0,none⟩) 1 cap):=(hn.cell 1).trans rfl;have q2:=hn.free;have q4:=hn.lt))
  all_goals
   have hn:=hn.set 1 (.slice (some ⟨g2,0,none⟩) 2 cap2)
   have hg2:w1.heap.size < g2∧g2≠rb:=by
    have hg2':g2=g∨g2=w6.heap.size+1:=by rcases hat2 with h | h;(left;simpa [Value.ownBlock] using h.symm);exact .inr h
    rcases hg2' with h | h <;> constructor <;> omega
   have hc0:=set_far (o:=1) (u:=.slice (some ⟨g2,0,none⟩) 2 cap2) (N:=w1.heap.size) (by omega) (owns_cell hown2 0 (by omega))
   have hc1:=set_far (o:=1) (u:=.slice (some ⟨g2,0,none⟩) 2 cap2) (N:=w1.heap.size) (by omega) (owns_cell hown2 1 (by omega))
   go_wp2_with fail
   rw [rounds_succ]
   go_wp2_with (first
    | (go_at_call 37;refine (accept_not hn.rd hb).mono ?_;rintro e w5 ⟨rfl,h8⟩;have hn:=hn.call h8;have hc0:=h8.cellNew hg2.2 hc0;have hc1:=h8.cellNew hg2.2 hc1)
    | (go_at_call 84;refine (expect_eat hn.rd (by assumption)).mono ?_;rintro e w5 ⟨rfl,h8⟩;have hn:=hn.call h8;have hc0:=h8.cellNew hg2.2 hc0;have hc1:=h8.cellNew hg2.2 hc1)
    | (go_at_call 16;refine (hP.filter (by assumption) hn.rd).mono ?_;rintro e w6 ⟨T,b,rfl,h8,r8⟩;have hn:=hn.item h8 r8;have hc0:=h8.cellNew hg2.2 hc0;have hc1:=h8.cellNew hg2.2 hc1;have q1:=hn.cell;have q2:=hn.free;have q3:=hn.lt;simp at q1)
    | (go_at_call 84;refine (expect_eat (hn.set _ _).rd (by assumption)).mono ?_;rintro e w5 ⟨rfl,h8⟩;have hn:=(hn.set _ _).call h8;have hc0:=h8.cellNew hg2.2 (set_far (by omega) hc0);have hc1:=h8.cellNew hg2.2 (set_far (by omega) hc1)))
   go_ret
   have hn:=hn.set 3 (.iface T (.pointer (some ⟨b,0,none⟩)))
   have hc0:=set_far (o:=3) (u:=.iface T (.pointer (some ⟨b,0,none⟩))) (N:=w1.heap.size) (by omega) hc0
   have hc1:=set_far (o:=3) (u:=.iface T (.pointer (some ⟨b,0,none⟩))) (N:=w1.heap.size) (by omega) hc1
   exact ⟨_,_,rfl,h1.trans hn.left,.def2 (d:=g2) (o:=0) z1 (by omega) ((hn.cell 0).trans rfl) ((hn.cell 1).trans rfl) hc0 hc1 ((hn.cell 2).trans rfl) ((hn.cell 3).trans rfl) ((hn.its _ (.tail _ (.head _))).low (by omega)) ((hn.its _ (.head _)).low (by omega))⟩
theorem def_step {P:Pars} (hP:Sound P) {l l':List Tok}{t:Tr}{w:World}{rb tb:Nat} (h:pDef P l=some (t,l')) (hr:Rd w rb tb l) :
  Calls Tryz.prog 38 #[.pointer (some ⟨rb,0,none⟩)] w (Gives rb tb l' t w):=by
 simp only [pDef,Option.bind_eq_bind,Option.bind_eq_some_iff,Prod.exists] at h
 obtain ⟨a,l1,e1,l2,e2,p,l3,e3,b,hb,h⟩:=h
 cases b with
 | true =>
  simp only [if_true,Option.bind_eq_some_iff,Prod.exists] at h
  obtain ⟨l4,e4,q,l5,e5,b,hb2,h⟩:=h
  cases b with
  | true=>simp at h
  | false =>
   simp only [Bool.false_eq_true,if_false,Option.bind_eq_some_iff,Prod.exists,Option.some.injEq,Prod.mk.injEq] at h
   obtain ⟨l6,e6,l7,e7,x,l8,hx,l9,e9,y,l10,hy,rfl,rfl⟩:=h
   exact def_step2 hP e1 e2 e3 e4 e5 hb2 e6 e7 hx e9 hy hr
 | false =>
  simp only [Bool.false_eq_true,if_false,Option.bind_eq_some_iff,Prod.exists,Option.some.injEq,Prod.mk.injEq] at h
  obtain ⟨l6,e6,l7,e7,x,l8,hx,l9,e9,y,l10,hy,rfl,rfl⟩:=h
  exact def_step1 hP e1 e2 e3 hb e6 e7 hx e9 hy hr
def stepFilter (P:Pars) (l:List Tok):Option (Tr×List Tok):=do
 let b ← sees ⟨#[100,101,102]⟩ l
 if b then
  let l1 ← eat ⟨#[100,101,102]⟩ l
  pDef P l1
 else P (.oper 1) l
theorem filter_step {P:Pars} (hP:Sound P) {l:List Tok}{t:Tr}{l':List Tok}{w:World}{rb tb:Nat} (h:stepFilter P l=some (t,l')) (hr:Rd w rb tb l) :
  Calls Tryz.prog 16 #[.pointer (some ⟨rb,0,none⟩)] w (Gives rb tb l' t w):=by
 simp only [stepFilter,Option.bind_eq_bind,Option.bind_eq_some_iff] at h
 obtain ⟨b,hb,h⟩:=h
 cases b with
 | true =>
  simp only [if_true,Option.bind_eq_some_iff] at h
  obtain ⟨l1,e1,h⟩:=h
  go_enter Tryz.func16,Tryz.ntmps16
  go_wp2_with (first
   | (go_at_call 37;refine (accept_eat hr e1).mono ?_;rintro e w1 ⟨rfl,h1⟩)
   | (go_at_call 38;refine (def_step hP h h1.rd).mono ?_;rintro e w2 ⟨T,b,rfl,h2,r2⟩))
  go_ret
  exact ⟨_,_,rfl,h1.trans h2,r2.low h1.kept.size⟩
 | false =>
  simp only [Bool.false_eq_true,if_false] at h
  go_enter Tryz.func16,Tryz.ntmps16
  go_wp2_with (first
   | (go_at_call 37;refine (accept_not hr hb).mono ?_;rintro e w1 ⟨rfl,h1⟩)
   | (go_at_call 39;refine (hP.oper h h1.rd).mono ?_;rintro e w2 ⟨T,b,rfl,h2,r2⟩))
  go_ret
  exact ⟨_,_,rfl,h1.trans h2,r2.low h1.kept.size⟩
def digitsVal:List UInt8→Option Int
 | []=>none
 | l=>if l.length≤18∧l.all (fun c=>48≤c && c≤57) then some (l.foldl (fun a c=>a * 10+((c.toNat:Int) - 48)) 0) else none
def ParsesInt:Prop:=∀ (s:ByteArray) (n:Int) (w:World),digitsVal s.data.toList=some n→
 Calls Tryz.prog 130 #[.string s,.int .i64 10,.int .i64 64] w fun e w'=>e = .returned (.tuple #[.int .i64 n,.nilIface])∧Below w.heap.size w w'
theorem call_step {P:Pars} (hP:Sound P) {l l':List Tok}{t:Tr}{w:World}{rb tb:Nat} (h:pCall P l=some (t,l')) (hr:Rd w rb tb l) :
  Calls Tryz.prog 281 #[.pointer (some ⟨rb,0,none⟩)] w (Gives rb tb l' t w):=by
 match l,h with
 | a :: u :: m,h =>
  simp only [pCall,Option.bind_eq_bind,Option.bind_eq_some_iff] at h
  obtain ⟨b,hb,h⟩:=h
  cases b with
  | true =>
   simp only [if_true,Option.bind_eq_some_iff,Prod.exists] at h
   obtain ⟨l2,e2,x,l3,hx,b,hb2,h⟩:=h
   cases b with
   | true =>
    simp only [if_true,Option.bind_eq_some_iff,Prod.exists] at h
    obtain ⟨l4,e4,y,l5,hy,b,hb3,h⟩:=h
    cases b with
    | true=>simp at h
    | false =>
     simp only [Bool.false_eq_true,if_false,Option.bind_eq_some_iff,Option.some.injEq,Prod.mk.injEq] at h
     obtain ⟨l6,e6,rfl,rfl⟩:=h
     exact call_step2 hP e2 hx e4 hy hb3 e6 hr
   | false =>
    simp only [Bool.false_eq_true,if_false,Option.bind_eq_some_iff,Option.some.injEq,Prod.mk.injEq] at h
    obtain ⟨l4,e4,rfl,rfl⟩:=h
    exact call_step1 hP e2 hx hb2 e4 hr
  | false =>
   simp only [Bool.false_eq_true,if_false,Option.some.injEq,Prod.mk.injEq] at h
   obtain ⟨rfl,rfl⟩:=h
   exact call_step0 hb hr
def stepPrimary (P:Pars):List Tok→Option (Tr×List Tok)
 | t :: u :: m =>
  if t.kind == 2 then pCall P (t :: u :: m)
  else if t.kind == 4 then some (.var t.text t.pos,u :: m)
  else if t.kind == 5 then (digitsVal t.text.data.toList).map fun n=>(.num n,u :: m)
  else if t.kind == 6 then some (.str t.text,u :: m)
  else if t.kind == 3 then pWordy (t :: u :: m)
  else pSigned P (t :: u :: m)
 | _=>none
theorem primary_step {P:Pars} (hI:ParsesInt) (hP:Sound P) {l l':List Tok}{t:Tr}{w:World}{rb tb:Nat} (h:stepPrimary P l=some (t,l')) (hr:Rd w rb tb l) :
  Calls Tryz.prog 248 #[.pointer (some ⟨rb,0,none⟩)] w (Gives rb tb l' t w):=by
 match l,h with
 | a :: u :: m,h =>
  have hL:=Left.of_rd hr
  have hrb:=hr.rbs
  have hr':=hr
  obtain ⟨o,c,⟨c1,c2,c3,c4,c5,c6,⟨d0,d1,d2,d3⟩⟩⟩:=hr'
  simp only [List.length_cons] at c1 c2
  have hA:=hr.alloc (.cells #[.int .u8 a.kind,.string a.text,.int .i64 a.pos] 62)
  have hLA:=hL.upto (below_alloc _ (.cells #[.int .u8 a.kind,.string a.text,.int .i64 a.pos] 62))
  simp only [stepPrimary] at h
  by_cases k2:a.kind=2
  ·simp only [k2,BEq.rfl,if_true] at h
   rw [k2] at hA hLA
   go_enter Tryz.func248,Tryz.ntmps248
   go_wp2_with (go_at_call 281;refine (call_step hP h hA).mono ?_;rintro e w1 ⟨T,b,rfl,h1,r1⟩)
   go_ret
   exact ⟨_,_,rfl,hLA.trans h1,r1.low (by simp)⟩
  ·have k2':(a.kind == 2)=false:=by simpa using k2
   simp only [k2',Bool.false_eq_true,if_false] at h
   by_cases k4:a.kind=4
   ·simp only [k4,BEq.rfl,if_true,Option.some.injEq,Prod.mk.injEq] at h
    obtain ⟨rfl,rfl⟩:=h
    rw [k4] at hA hLA
    go_enter Tryz.func248,Tryz.ntmps248
    go_wp2_with (go_at_call 82;refine (take_rd hA).mono ?_;rintro e w1 ⟨rfl,h1⟩;obtain ⟨q1,q2⟩:=h1.kept.rules;have q3:=h1.kept.size;simp at q1 q3;have q4:¬ w.heap.size=rb:=by omega)
    go_ret
    exact ⟨_,_,rfl,(hLA.trans h1).upto (below_alloc _ _),.var (by omega) (box_cell _ _ _ _) (box_cell _ _ _ _)⟩
   ·have k4':(a.kind == 4)=false:=by simpa using k4
    simp only [k4',Bool.false_eq_true,if_false] at h
    by_cases k5:a.kind=5
    ·simp only [k5,BEq.rfl,if_true,Option.map_eq_some_iff,Prod.mk.injEq] at h
     obtain ⟨n,hn,rfl,rfl⟩:=h
     rw [k5] at hA hLA
     go_enter Tryz.func248,Tryz.ntmps248
     go_wp2_with (first
      | (go_at_call 82;refine (take_rd hA).mono ?_;rintro e w1 ⟨rfl,h1⟩;obtain ⟨q1,q2⟩:=h1.kept.rules;have q3:=h1.kept.size;simp at q1 q3;have q4:¬ w.heap.size=rb:=by omega)
      | (go_at_call 130;refine (hI _ _ _ hn).mono ?_;rintro e w2 ⟨rfl,h2⟩))
     go_ret
     have z1:=h1.kept.size
     have z2:=h2.size
     simp at z1
     exact ⟨_,_,rfl,((hLA.trans h1).upto h2).upto (below_alloc _ _),.num (by omega) (box_cell _ _ _ _)⟩
    ·have k5':(a.kind == 5)=false:=by simpa using k5
     simp only [k5',Bool.false_eq_true,if_false] at h
     by_cases k6:a.kind=6
     ·simp only [k6,BEq.rfl,if_true,Option.some.injEq,Prod.mk.injEq] at h
      obtain ⟨rfl,rfl⟩:=h
      rw [k6] at hA hLA
      go_enter Tryz.func248,Tryz.ntmps248
      go_wp2_with (go_at_call 82;refine (take_rd hA).mono ?_;rintro e w1 ⟨rfl,h1⟩;obtain ⟨q1,q2⟩:=h1.kept.rules;have q3:=h1.kept.size;simp at q1 q3;have q4:¬ w.heap.size=rb:=by omega)
      go_ret
      exact ⟨_,_,rfl,(hLA.trans h1).upto (below_alloc _ _),.str (by omega) (box_cell _ _ _ _)⟩
     ·have k6':(a.kind == 6)=false:=by simpa using k6
      simp only [k6',Bool.false_eq_true,if_false] at h
      by_cases k3:a.kind=3
      ·simp only [k3,BEq.rfl,if_true] at h
       rw [k3] at hA hLA
       go_enter Tryz.func248,Tryz.ntmps248
       go_wp2_with (go_at_call 282;refine (wordy_step h hA).mono ?_;rintro e w1 ⟨T,b,rfl,h1,r1⟩)
       go_ret
       exact ⟨_,_,rfl,hLA.trans h1,r1.low (by simp)⟩
      ·have k3':(a.kind == 3)=false:=by simpa using k3
       simp only [k3',Bool.false_eq_true,if_false] at h
       go_enter Tryz.func248,Tryz.ntmps248
       go_wp2_with (go_at_call 283;refine (signed_step hP h hA).mono ?_;rintro e w1 ⟨T,b,rfl,h1,r1⟩)
       go_ret
       exact ⟨_,_,rfl,hLA.trans h1,r1.low (by simp)⟩
structure Half where
 left:Tr
 op:ByteArray
 row:Int
def waits (row next:Int):Bool:=decide (row < next) || (row == next && (next == 1 || next == 3))
def once (r:Int):Bool:=r == 4 || r == 7
theorem fromRight_any (r:Int) (w:World):Calls Tryz.prog 140 #[.int .u8 r] w fun e w'=>e = .returned (.bool (r == 1 || r == 3))∧w'=w:=by
 go_enter Tryz.func140,Tryz.ntmps140
 by_cases h:r=1
 ·go_wp2
  go_ret
  simp_all
 ·have h':(r == 1)=false:=by simpa using h
  go_wp2
  go_ret
  simp_all
theorem once_any (r:Int) (w:World):Calls Tryz.prog 88 #[.int .u8 r] w fun e w'=>e = .returned (.bool (once r))∧w'=w:=by
 go_enter Tryz.func88,Tryz.ntmps88
 by_cases h:r=4
 ·go_wp2
  go_ret
  simp_all [once]
 ·have h':(r == 4)=false:=by simpa using h
  go_wp2
  go_ret
  simp_all [once]
theorem waits_any (v:Value) (T b:Nat) (op:ByteArray) (row next:Int) (w:World) (hv:v = .iface T (.pointer (some ⟨b,0,none⟩))) :
  Calls Tryz.prog 87 #[.agg #[v,.string op,.int .u8 row],.int .u8 next] w fun e w'=>e = .returned (.bool (waits row next))∧Below w.heap.size w w':=by
 subst hv
 go_enter Tryz.func87,Tryz.ntmps87
 by_cases h:row < next
 ·go_wp2_with (go_at_call 140;refine (fromRight_any _ _).mono ?_;rintro e w1 ⟨rfl,rfl⟩)
  go_ret
  exact ⟨by simp [waits,h],below_alloc _ _⟩
 ·by_cases h2:row=next
  ·subst h2
   go_wp2_with (go_at_call 140;refine (fromRight_any _ _).mono ?_;rintro e w1 ⟨rfl,rfl⟩)
   go_ret
   exact ⟨by simp [waits],below_alloc _ _⟩
  ·have h2':(row == next)=false:=by simpa using h2
   go_wp2_with (go_at_call 140;refine (fromRight_any _ _).mono ?_;rintro e w1 ⟨rfl,rfl⟩)
   go_ret
   exact ⟨by simp [waits,h,h2],below_alloc _ _⟩
theorem info_half:(Tryz.prog.info? 189).map (fun i=>(i.zero,i.size,i.bytes))=some (some (.agg #[.nilIface,.string ⟨#[]⟩,.int .u8 0]),3,40):=by kernel_rfl
def hcells (p:Value×Half):List Value:=[p.1,.string p.2.op,.int .u8 p.2.row]
def scells:List (Value×Half)→List Value
 | []=>[]
 | p :: hv=>scells hv ++ hcells p
theorem scells_length:∀ hv,(scells hv).length=hv.length * 3
 | []=>rfl
 | p :: hv=>by simp [scells,hcells,scells_length hv,Nat.add_mul]
structure Stack (B:Nat) (w:World) (v:Value) (hv:List (Value×Half)):Prop where
 own:w.ownsRow B 189 3 v hv.length (scells hv)
 its:∀ p∈hv,∃ T b,p.1 = .iface T (.pointer (some ⟨b,0,none⟩))
 rep:∀ p∈hv,Rep (fun b=>B≤b∧v.ownBlock≠some b) w p.1 p.2.left
theorem Stack.start (B:Nat) (w:World):Stack B w (.slice none 0 0) []:=⟨World.ownsRow_nil _ _ _ _,by simp,by simp⟩
theorem Stack.kept {B r:Nat}{w w':World}{v:Value}{hv:List (Value×Half)} (h:Stack B w v hv) (k:Kept r w w') (hr:r < B):Stack B w' v hv :=
 ⟨owns_same h.own fun i hi=>by have:=h.own.lt i hi;exact k.block i this.2 (by omega),h.its,
  fun p hp=>(h.rep p hp).move fun i hi hlt=>k.block i hlt (by omega)⟩
theorem Stack.upto {B:Nat}{w w':World}{v:Value}{hv:List (Value×Half)} (h:Stack B w v hv) (k:Below w.heap.size w w'):Stack B w' v hv :=
 ⟨owns_same h.own fun i hi=>k.block i (h.own.lt i hi).2,h.its,fun p hp=>(h.rep p hp).move fun i _ hlt=>k.block i hlt⟩
theorem Stack.ownAt {B n:Nat}{w:World}{v:Value}{hv:List (Value×Half)} (h:Stack B w v hv) (hn:hv.length=n):w.ownsRow B 189 3 v n (scells hv):=hn ▸ h.own
theorem Stack.form {B:Nat}{w:World}{v:Value}{p:Value×Half}{hv:List (Value×Half)} (h:Stack B w v (p :: hv)) :
  ∃ g cap,v = .slice (some ⟨g,0,none⟩) (hv.length+1) cap∧B≤g∧g < w.heap.size:=h.own.form (by simp)
theorem Stack.pop {B g cap:Nat}{w:World}{p:Value×Half}{hv:List (Value×Half)} (h:Stack B w (.slice (some ⟨g,0,none⟩) (hv.length+1) cap) (p :: hv)) :
  Stack B w (.slice (some ⟨g,0,none⟩) hv.length cap) hv :=
 ⟨ownsRow_pop (scells_length hv) h.own,fun q hq=>h.its q (.tail _ hq),fun q hq=>h.rep q (.tail _ hq)⟩
theorem Stack.cells {B g cap:Nat}{w:World}{p:Value×Half}{hv:List (Value×Half)} (h:Stack B w (.slice (some ⟨g,0,none⟩) (hv.length+1) cap) (p :: hv)) (i:Nat) (hi:i < 3) :
  w.cell? ⟨g,hv.length * 3+i,none⟩=(hcells p)[i]?:=by
 obtain ⟨hl,h | ⟨g',c',cur,e,_,hb,_,_,_,ht⟩⟩:=h.own
 ·simp at h
 ·simp only [Value.slice.injEq,Option.some.injEq,Addr.mk.injEq,and_true] at e
  obtain ⟨rfl,_,rfl⟩:=e
  have e1:cur[hv.length * 3+i]? = (scells (p :: hv))[hv.length * 3+i]?:=by rw [← ht];simp [List.getElem?_take];omega
  simp only [World.cell?,hb,Option.isSome_none,Bool.false_eq_true,if_false,e1,scells]
  rw [List.getElem?_append_right (by rw [scells_length];omega),scells_length]
  congr 1;omega
theorem Stack.push {B g cap H:Nat}{w w':World}{v:Value}{hv:List (Value×Half)}{p:Value×Half} (h:Stack B w v hv) (hT:∃ T b,p.1 = .iface T (.pointer (some ⟨b,0,none⟩))) (hp:Rep (fun b=>B≤b∧v.ownBlock≠some b∧b < H) w p.1 p.2.left)
  (hH:∀ q∈hv,Rep (fun b=>B≤b∧v.ownBlock≠some b∧b < H) w q.1 q.2.left)
  (hown:w'.ownsRow B 189 3 (.slice (some ⟨g,0,none⟩) (hv.length+1) cap) (hv.length+1) (scells hv ++ hcells p)) (hg:w.grownBy w' v.ownBlock) (hat:v.ownBlock=some g∨g=H) :
  Stack B w' (.slice (some ⟨g,0,none⟩) (hv.length+1) cap) (p :: hv):=by
 have key:∀ {x:Value}{t:Tr},Rep (fun b=>B≤b∧v.ownBlock≠some b∧b < H) w x t→Rep (fun b=>B≤b∧Value.ownBlock (.slice (some ⟨g,0,none⟩) (hv.length+1) cap)≠some b) w' x t:=fun hr =>
  hr.to fun b o u hb hu=>⟨⟨hb.1,by
   simp only [Value.ownBlock,ne_eq,Option.some.injEq]
   rcases hat with e | e
   ·intro e';subst e';exact hb.2.1 e
   ·have:=hb.2.2;omega⟩,hg.cell hu (fun e=>hb.2.1 e.symm)⟩
 refine ⟨hown,fun q hq=>?_,fun q hq=>?_⟩
 ·rcases List.mem_cons.1 hq with rfl | hq
  ·exact hT
  ·exact h.its q hq
 ·rcases List.mem_cons.1 hq with rfl | hq
  ·exact key hp
  ·exact key (hH q hq)
theorem Left.grown {a w w':World}{rb tb:Nat}{l:List Tok}{row:Option Nat} (h:Left a w rb tb l) (k:w.grownBy w' row) (hrow:∀ i,row=some i→a.heap.size≤i) (hr:rb < a.heap.size) (ht:tb < a.heap.size):Left a w' rb tb l:=by
 obtain ⟨hk,o,c,hR⟩:=h
 have hs:=hk.size
 have key:∀ i,i < a.heap.size→w'.heap[i]? = w.heap[i]?:=fun i hi=>k.block i (by omega) (fun e=>by have:=hrow i e.symm;omega)
 refine ⟨⟨k.os.trans hk.os,k.tape.trans hk.tape,k.output.trans hk.output,Nat.le_trans hs k.size,fun i hi hne=>(key i hi).trans (hk.block i hi hne)⟩,o,c,?_⟩
 exact ⟨(World.cell?_of_block (w:=w) (key rb hr)).trans hR.cell,hR.cap,hR.max,(World.frozen?_of_block (w:=w) (key rb hr)).trans hR.free,hR.ne,Nat.lt_of_lt_of_le hR.tbs k.size,Toks.same (key tb ht) hR.toks⟩
theorem Stack.pushed {B rb tb g cap:Nat}{w wr w5 w6:World}{v x:Value}{hv:List (Value×Half)}{side:Tr}{op:ByteArray}{row:Int}{T b:Nat}{l l5:List Tok}{o:Obj} (hB:w.heap.size=B) (hrb:rb < B) (htb:tb < B) (hL:Left w wr rb tb l) (hS:Stack B wr v hv) (hx:x = .iface T (.pointer (some ⟨b,0,none⟩)))
  (hrep:Rep (fun c=>B≤c∧v.ownBlock≠some c) wr x side) (h5:Left wr w5 rb tb l5)
  (hown:w6.ownsRow B 189 3 (.slice (some ⟨g,0,none⟩) (hv.length+1) cap) (hv.length+1) (scells hv ++ [x,.string op,.int .u8 row])) (hgrow:(w5.alloc o).grownBy w6 v.ownBlock) (hat:v.ownBlock=some g∨g=w5.heap.size+1) :
  Left w w6 rb tb l5∧Stack B w6 (.slice (some ⟨g,0,none⟩) (hv.length+1) cap) ((x,⟨side,op,row⟩) :: hv):=by
 subst hB
 have hS5:=(hS.kept h5.kept hrb).upto (below_alloc w5 o)
 refine ⟨((hL.trans h5).upto (below_alloc _ o)).grown hgrow (fun i hi=>(hS.own.lt i hi).1) hrb htb,?_⟩
 refine Stack.push (H:=w5.heap.size+1) hS5 ⟨T,b,hx⟩ ?_ (fun q hq=>?_) hown hgrow hat
 ·have h1:=hrep.move (w':=w5) fun k hk hlt=>h5.kept.block k hlt (by omega)
  exact (h1.box o).to fun c _ _ hc hv=>⟨⟨hc.1,hc.2,by have:=cell_lt hv;simpa using this⟩,hv⟩
 ·exact (hS5.rep q hq).to fun c _ _ hc hv=>⟨⟨hc.1,hc.2,by have:=cell_lt hv;simpa using this⟩,hv⟩
def foldL (loosest:Int):List Half→Tr→Int→Tr ⊕ (List Half×Tr×Int)
 | [],side,next=>if next < loosest then .inl side else .inr ([],side,next)
 | h :: hs,side,next=>if waits h.row next then .inr (h :: hs,side,next) else foldL loosest hs (.bin h.left h.op side) (if h.row == next && once next then 0 else next)
def opL (P:Pars) (loosest:Int):Nat→List Half→List Tok→Option (Tr×List Tok)
 | 0,_,_=>none
 | k+1,hs,l=>(P .minus l).bind fun (side,l1) =>
  match l1 with
  | t :: m=>match foldL loosest hs side (opOf t) with
   | .inl r=>some (r,t :: m)
   | .inr (hs',side',next)=>match m with
    | u :: m'=>opL P loosest k (⟨side',t.text,next⟩ :: hs') (u :: m')
    | []=>none
  | []=>none
end Go.Proofs.Tryz
