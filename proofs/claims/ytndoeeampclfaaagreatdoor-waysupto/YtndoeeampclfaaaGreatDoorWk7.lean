import Derived.Test.YtndoeeampclfaaaGreatDoorWk6
import Derived.Test.YtndoeeampclfaaaGreatDoorNames7
import Derived.Test.YtndoeeampclfaaaGreatDoorStep13
import Derived.WalkMore
set_option linter.all false
namespace Go.Proofs.Tryz
set_option maxHeartbeats 16000000
open Go.RowKit
set_option maxRecDepth 10000
def stepOper (P:Pars) (r:Int) (l:List Tok):Option (Tr×List Tok):=opL P r 100 [] l
theorem oper_step {P:Pars}(hP:Sound P) {r:Int}{l l':List Tok}{t:Tr}{w:World}{rb tb:Nat}(h:stepOper P r l=some (t,l')) (hr:Rd w rb tb l) :
  Calls Tryz.prog 39 #[.pointer (some ⟨rb,0,none⟩),.int .u8 r] w (Gives rb tb l' t w):=by
 have hrb:=hr.rbs
 have htb:=hr.tbs
 have hfd:=field_text
 obtain ⟨i0,hi0,hz0,hz1,hz2⟩:=info_parts info_half
 unfold stepOper at h
 go_enter Tryz.func39,Tryz.ntmps39
 go_wp2_with fail
 go_step3
 go_wp2_with fail
 go_step3
 go_wp2_with fail
 go_loopg [5] 100 (fun k v wr=>∃ hv m,Left w wr rb tb m∧Stack w.heap.size wr v hv∧hv.length+k≤100∧opL P r k (hv.map (·.2)) m=some (t,l'))
 case atStart=>exact ⟨[],l,.of_rd hr,.start _ _,by simp,h⟩
 case round =>
  obtain ⟨hv,m,hL,hS,hk,h⟩:=hrel
  match gk,h,hk with
  | k+1,h,hk =>
  simp only [opL,Option.bind_eq_some_iff,Prod.exists] at h
  obtain ⟨side,l1,hm,h⟩:=h
  match l1,hm,h with
  | t0 :: m0,hm,h =>
  have hmr:=hL.rd
  go_wp2_with (first
   | (go_at_call 85;refine (hP.minus hm hmr).mono ?_;rintro e w2 ⟨T,b,rfl,h2,r2⟩;have hr2:=h2.rd)
   | (go_at_call 86;refine (operator_any hr2).mono ?_;rintro e w3 ⟨rfl,h3⟩))
  obtain ⟨R,hR⟩:∃ R,foldL r (hv.map (·.2)) side (opOf t0)=R:=⟨_,rfl⟩
  rw [hR] at h
  have hB:=hL.kept.size
  have hs2:=h2.kept.size
  have hL3:=(hL.trans h2).trans h3
  have hS3:=(hS.kept h2.kept hrb).kept h3.kept hrb
  have hr3:Rep (fun c=>w.heap.size≤c∧Value.ownBlock u5≠some c) w3 (.iface T (.pointer (some ⟨b,0,none⟩))) side :=
   (r2.left h3 (by omega)).to fun c _ _ hc hv=>⟨⟨by omega,fun e=>by have:=hS.own.lt c e;omega⟩,hv⟩
  go_loopg [5,6,7] hv.length (fun j v s n wr=>∃ hv' side' T b nx,j=hv'.length∧s = .iface T (.pointer (some ⟨b,0,none⟩))∧n = .int .u8 nx∧Left w wr rb tb (t0 :: m0)∧Stack w.heap.size wr v hv'∧
   Rep (fun c=>w.heap.size≤c∧v.ownBlock≠some c) wr s side'∧hv'.length+k+1≤100∧foldL r (hv'.map (·.2)) side' nx=R)
  case atStart=>exact ⟨hv,side,T,b,_,rfl,rfl,rfl,hL3,hS3,hr3,by omega,hR⟩
  case round =>
   clear hr3 hS3 hL3 h3 r2 h2 hS hL hR
   obtain ⟨hv',side',T',b',nx,hj,rfl,rfl,hL,hS,hrep,hlen,hR⟩:=hrel
   have hw:=hL.rd
   cases hv' with
   | nil =>
    simp only [List.map_nil,foldL] at hR
    by_cases hlt:nx < r
    ·rw [if_pos hlt] at hR
     subst hR
     simp only [Option.some.injEq,Prod.mk.injEq] at h
     obtain ⟨rfl,rfl⟩:=h
     rcases hS.own.2 with ⟨rfl,_⟩ | ⟨g,cap,cur,rfl,_⟩
     all_goals
      simp only [List.length_nil] at *
      go_wp2_with fail
      go_ret
      exact ⟨_,_,rfl,hL,hrep.to fun c _ _ hc hv=>⟨hc.1,hv⟩⟩
    ·rw [if_neg hlt] at hR
     subst hR
     match m0,h,hL,hw with
     | u :: m1,h,hL,hw =>
     rcases hS.own.2 with ⟨rfl,_⟩ | ⟨g,cap,cur,rfl,_⟩
     ·simp only [List.length_nil] at *
      go_wp2_with (first
      | (go_at_call 82;refine (take_rd hw).mono ?_;rintro e w5 ⟨rfl,h5⟩)
      | (refine wpList_append_lies _ (by rfl) _ _ _ (by rfl) w.heap.size 189 i0 _ 3 40 Tryz.underlying186 hi0 hz0 hz1 hz2 rfl (by omega) (.slice none 0 0) 0 [] (by rfl) ((hS.kept h5.kept hrb).upto (below_alloc _ _)).own ⟨w5.heap.size,0,none⟩ 1 1 [.iface T' (.pointer (some ⟨b',0,none⟩)),.string t0.text,.int .u8 nx] (by rfl) (by rfl) (World.news_of_block (cs:=#[.iface T' (.pointer (some ⟨b',0,none⟩)),.string t0.text,.int .u8 nx]) (t:=189) (fr:=(0,0)) (heap_alloc_new w5 _)) (by simp [Value.oneCell']) (by omega) (by decide) (by omega) (by have:=hL.kept.size;have:=h5.kept.size;simp;omega) (w5.heap.size+1) (by simp) ?_;intro g2 cap2 w6 hown hgrow hat hlt2))
      go_roundg k
      case measure=>omega
      case rel =>
       obtain ⟨hLn,hSn⟩:=Stack.pushed rfl hrb htb hL hS rfl hrep h5 hown hgrow hat
       exact ⟨_,_,hLn,hSn,by simp only [List.length_cons,List.length_nil] at *;omega,h⟩
     ·simp only [List.length_nil] at *
      go_wp2_with (first
      | (go_at_call 82;refine (take_rd hw).mono ?_;rintro e w5 ⟨rfl,h5⟩)
      | (refine wpList_append_lies _ (by rfl) _ _ _ (by rfl) w.heap.size 189 i0 _ 3 40 Tryz.underlying186 hi0 hz0 hz1 hz2 rfl (by omega) (.slice (some ⟨g,0,none⟩) 0 cap) 0 [] (by rfl) ((hS.kept h5.kept hrb).upto (below_alloc _ _)).own ⟨w5.heap.size,0,none⟩ 1 1 [.iface T' (.pointer (some ⟨b',0,none⟩)),.string t0.text,.int .u8 nx] (by rfl) (by rfl) (World.news_of_block (cs:=#[.iface T' (.pointer (some ⟨b',0,none⟩)),.string t0.text,.int .u8 nx]) (t:=189) (fr:=(0,0)) (heap_alloc_new w5 _)) (by simp [Value.oneCell']) (by omega) (by decide) (by omega) (by have:=hL.kept.size;have:=h5.kept.size;simp;omega) (w5.heap.size+1) (by simp) ?_;intro g2 cap2 w6 hown hgrow hat hlt2))
      go_roundg k
      case measure=>omega
      case rel =>
       obtain ⟨hLn,hSn⟩:=Stack.pushed rfl hrb htb hL hS rfl hrep h5 hown hgrow hat
       exact ⟨_,_,hLn,hSn,by simp only [List.length_cons,List.length_nil] at *;omega,h⟩
   | cons p hv' =>
    obtain ⟨g,cap,rfl,hgB,hgs⟩:=hS.form
    obtain ⟨x,ph⟩:=p
    obtain ⟨Tp,bp,hx⟩:=hS.its _ (.head _)
    simp only at hx
    subst hx
    obtain ⟨n,hn⟩:∃ n,hv'.length=n:=⟨_,rfl⟩
    have c0:wr.cell? ⟨g,n * 3,none⟩=some (.iface Tp (.pointer (some ⟨bp,0,none⟩))):=by rw [← hn];exact hS.cells 0 (by omega)
    have c1:wr.cell? ⟨g,n * 3+1,none⟩=some (.string ph.op):=by rw [← hn];exact hS.cells 1 (by omega)
    have c2:wr.cell? ⟨g,n * 3+2,none⟩=some (.int .u8 ph.row):=by rw [← hn];exact hS.cells 2 (by omega)
    simp only [List.map_cons,foldL] at hR
    simp only [List.length_cons] at hlen hj
    have hcap:hv'.length+1≤cap:=by
     rcases hS.own.2 with ⟨h,_⟩ | ⟨_,_,_,e,_,_,hc,_⟩
     ·cases h
     ·cases e;simpa using hc
    rw [hn] at hcap hlen ⊢
    have n0:(0:Int)≤(n:Int):=Int.natCast_nonneg _
    have n1:(n:Int) < ((n+1:Nat):Int):=by omega
    have n2:n≤100:=by omega
    by_cases hwt:waits ph.row nx=true
    ·rw [if_pos hwt] at hR
     subst hR
     match m0,h,hL,hw with
     | u :: m1,h,hL,hw =>
     rw [hn] at hS
     go_wp2_with (first
      | (go_at_call 87;refine (waits_any _ Tp bp _ _ _ _ rfl).mono ?_;rintro e w4 ⟨rfl,h4⟩;rw [hwt];have hL:=hL.upto h4;have hS:=hS.upto h4;have hrep:=hrep.upon h4;have hw:=hw.below h4;have z4:=h4.size)
      | (go_at_call 82;refine (take_rd hw).mono ?_;rintro e w5 ⟨rfl,h5⟩)
      | (refine wpList_append_lies _ (by rfl) _ _ _ (by rfl) w.heap.size 189 i0 _ 3 40 Tryz.underlying186 hi0 hz0 hz1 hz2 rfl (by omega) (.slice (some ⟨g,0,none⟩) (n+1) cap) (n+1) (scells ((.iface Tp (.pointer (some ⟨bp,0,none⟩)),ph) :: hv')) (by rfl) (((hS.kept h5.kept hrb).upto (below_alloc _ _)).ownAt (by rw [List.length_cons,hn])) ⟨w5.heap.size,0,none⟩ 1 1 [.iface T' (.pointer (some ⟨b',0,none⟩)),.string t0.text,.int .u8 nx] (by rfl) (by rfl) (World.news_of_block (cs:=#[.iface T' (.pointer (some ⟨b',0,none⟩)),.string t0.text,.int .u8 nx]) (t:=189) (fr:=(0,0)) (heap_alloc_new w5 _)) (by simp [Value.oneCell']) (by omega) (by unfold maxLen;omega) (by omega) (by have:=hL.kept.size;have:=h5.kept.size;simp;omega) (w5.heap.size+1) (by simp) ?_;intro g2 cap2 w6 hown hgrow hat hlt2))
     go_roundg k
     case measure=>omega
     case rel =>
      rw [← hn] at hown hgrow hat hS
      obtain ⟨hLn,hSn⟩:=Stack.pushed (hv:=(_,ph) :: hv') rfl hrb htb hL hS rfl hrep h5 hown hgrow hat
      rw [List.length_cons,hn] at hSn
      exact ⟨_,_,hLn,hSn,by simp only [List.length_cons] at *;omega,h⟩
    ·have hwt:waits ph.row nx=false:=by simpa using hwt
     rw [hwt] at hR
     simp only [Bool.false_eq_true,if_false] at hR
     have hpop:=hS.pop
     rw [hn] at hpop
     have hpr:=hS.rep _ (.head _)
     simp only at hpr
     have n3:(n:Int) < (n:Int)+1:=by omega
     by_cases hrow:ph.row=nx
     ·subst hrow
      by_cases ho:once ph.row=true
      ·have hcl:(ph.row == ph.row && once ph.row)=true:=by simpa using ho
       rw [hcl] at hR
       simp only [if_true] at hR
       go_wp2_with (first
        | (go_at_call 87;refine (waits_any _ Tp bp _ _ _ _ rfl).mono ?_;rintro e w4 ⟨rfl,h4⟩;rw [hwt];have hL:=hL.upto h4;have hpop:=hpop.upto h4;have hrep:=hrep.upon h4;have hpr:=hpr.upon h4;have d0:=(h4.cell (p:=⟨g,n * 3,none⟩) hgs).trans c0;have d1:=(h4.cell (p:=⟨g,n * 3+1,none⟩) hgs).trans c1;have d2:=(h4.cell (p:=⟨g,n * 3+2,none⟩) hgs).trans c2)
        | (go_at_call 88;refine (once_any _ _).mono ?_;rintro e w9 ⟨rfl,h9⟩;subst w9;rw [ho]))
       have z4:g < w4.heap.size:=Nat.lt_of_lt_of_le hgs h4.size
       go_region_held3 (fun w'=>w'.cell? ⟨g,n * 3,none⟩=some (.iface Tp (.pointer (some ⟨bp,0,none⟩)))∧w'.cell? ⟨g,n * 3+1,none⟩=some (.string ph.op)) (go_keep) (fail)
       all_goals
        go_wp2_with fail
        go_roundg n
        case measure=>omega
        case rel =>
         have hb4:Below w4.heap.size w4 ((w4.alloc (.cells #[.iface Tp (.pointer (some ⟨bp,0,none⟩)),.string ph.op,.iface T' (.pointer (some ⟨b',0,none⟩))] 192)).drew):=(below_alloc _ _).drew
         have z5:=hL.kept.size
         exact ⟨hv',.bin ph.left ph.op side',_,_,_,hn.symm,rfl,rfl,hL.upto hb4,hpop.upto hb4,.bin ⟨z5,by simp [Value.ownBlock];omega⟩ (box_cell _ _ _ _) (box_cell _ _ _ _) (box_cell _ _ _ _) (hpr.upon hb4) (hrep.upon hb4),by omega,hR⟩
      ·have ho:once ph.row=false:=by simpa using ho
       have hcl:(ph.row == ph.row && once ph.row)=false:=by simpa using ho
       rw [hcl] at hR
       simp only [Bool.false_eq_true,if_false] at hR
       go_wp2_with (first
        | (go_at_call 87;refine (waits_any _ Tp bp _ _ _ _ rfl).mono ?_;rintro e w4 ⟨rfl,h4⟩;rw [hwt];have hL:=hL.upto h4;have hpop:=hpop.upto h4;have hrep:=hrep.upon h4;have hpr:=hpr.upon h4;have d0:=(h4.cell (p:=⟨g,n * 3,none⟩) hgs).trans c0;have d1:=(h4.cell (p:=⟨g,n * 3+1,none⟩) hgs).trans c1;have d2:=(h4.cell (p:=⟨g,n * 3+2,none⟩) hgs).trans c2)
        | (go_at_call 88;refine (once_any _ _).mono ?_;rintro e w9 ⟨rfl,h9⟩;subst w9;rw [ho]))
       have z4:g < w4.heap.size:=Nat.lt_of_lt_of_le hgs h4.size
       go_region_held3 (fun w'=>w'.cell? ⟨g,n * 3,none⟩=some (.iface Tp (.pointer (some ⟨bp,0,none⟩)))∧w'.cell? ⟨g,n * 3+1,none⟩=some (.string ph.op)) (go_keep) (fail)
       all_goals
        go_wp2_with fail
        go_roundg n
        case measure=>omega
        case rel =>
         have hb4:Below w4.heap.size w4 ((w4.alloc (.cells #[.iface Tp (.pointer (some ⟨bp,0,none⟩)),.string ph.op,.iface T' (.pointer (some ⟨b',0,none⟩))] 192)).drew):=(below_alloc _ _).drew
         have z5:=hL.kept.size
         exact ⟨hv',.bin ph.left ph.op side',_,_,_,hn.symm,rfl,rfl,hL.upto hb4,hpop.upto hb4,.bin ⟨z5,by simp [Value.ownBlock];omega⟩ (box_cell _ _ _ _) (box_cell _ _ _ _) (box_cell _ _ _ _) (hpr.upon hb4) (hrep.upon hb4),by omega,hR⟩
     ·have hcl:(ph.row == nx && once nx)=false:=by simp [hrow]
      rw [hcl] at hR
      simp only [Bool.false_eq_true,if_false] at hR
      have hne:(ph.row == nx)=false:=by simpa using hrow
      have ho:True:=trivial
      ·go_wp2_with (first
        | (go_at_call 87;refine (waits_any _ Tp bp _ _ _ _ rfl).mono ?_;rintro e w4 ⟨rfl,h4⟩;rw [hwt];have hL:=hL.upto h4;have hpop:=hpop.upto h4;have hrep:=hrep.upon h4;have hpr:=hpr.upon h4;have d0:=(h4.cell (p:=⟨g,n * 3,none⟩) hgs).trans c0;have d1:=(h4.cell (p:=⟨g,n * 3+1,none⟩) hgs).trans c1;have d2:=(h4.cell (p:=⟨g,n * 3+2,none⟩) hgs).trans c2)
        | (go_at_call 88;refine (once_any _ _).mono ?_;rintro e w9 ⟨rfl,h9⟩;subst w9;rw [ho]))
       have z4:g < w4.heap.size:=Nat.lt_of_lt_of_le hgs h4.size
       go_region_held3 (fun w'=>w'.cell? ⟨g,n * 3,none⟩=some (.iface Tp (.pointer (some ⟨bp,0,none⟩)))∧w'.cell? ⟨g,n * 3+1,none⟩=some (.string ph.op)) (go_keep) (fail)
       all_goals
        go_wp2_with fail
        go_roundg n
        case measure=>omega
        case rel =>
         have hb4:Below w4.heap.size w4 ((w4.alloc (.cells #[.iface Tp (.pointer (some ⟨bp,0,none⟩)),.string ph.op,.iface T' (.pointer (some ⟨b',0,none⟩))] 192)).drew):=(below_alloc _ _).drew
         have z5:=hL.kept.size
         exact ⟨hv',.bin ph.left ph.op side',_,_,_,hn.symm,rfl,rfl,hL.upto hb4,hpop.upto hb4,.bin ⟨z5,by simp [Value.ownBlock];omega⟩ (box_cell _ _ _ _) (box_cell _ _ _ _) (box_cell _ _ _ _) (hpr.upon hb4) (hrep.upon hb4),by omega,hR⟩
end Go.Proofs.Tryz
namespace Go.Proofs.Tryz
set_option maxHeartbeats 16000000
open Go.RowKit
def step (P:Pars):Pars
 | .ok none,l=>stepFilter P l
 | .error r,l=>stepOper P r l
 | .ok (some none),l=>stepMinus P l
 | .ok (some (some none)),l=>stepBound P l
 | .ok (some (some (some false))),l=>stepPostfix P l
 | .ok (some (some (some true))),l=>stepPrimary P l
def parse:Nat→Pars
 | 0=>fun _ _=>none
 | n+1=>step (parse n)
theorem parse_sound (hI:ParsesInt):∀ n,Sound (parse n)
 | 0=>fun _ _ _ _ _ _ _ h _=>by cases h
 | n+1=>fun c l t l' w rb tb h hr=>by
  have hP:=parse_sound hI n
  match c,h with
  | .ok none,h=>exact filter_step hP h hr
  | .error r,h=>exact oper_step hP h hr
  | .ok (some none),h=>exact minus_step hP h hr
  | .ok (some (some none)),h=>exact bound_step hP h hr
  | .ok (some (some (some false))),h=>exact pfix_step hP h hr
  | .ok (some (some (some true))),h=>exact primary_step hI hP h hr
end Go.Proofs.Tryz
namespace Go.Proofs.Tryz
set_option maxHeartbeats 16000000
open Go.RowKit
set_option maxRecDepth 10000
theorem firstUnknown_ok {p:Nat→Prop}{w:World}{v:Value}{t:Tr}(h:Rep p w v t) (ho:okT [] t=true) :
  Calls Tryz.prog 17 #[v] w fun e w'=>e = .returned (.tuple #[.int .i64 0,.bool false])∧Below w.heap.size w w':=by
 obtain ⟨T,b,rfl⟩:=h.shape
 go_enter Tryz.func17,Tryz.ntmps17
 go_wp2_with (go_at_call 40;refine (check1 (by exact heap_new2 w _ _) ⟨_,_,rfl⟩ (by exact (fine_all t (p:=p) (env:=[]) ho (h.upon ((below_alloc _ _).alloc (by simp) _)) rfl))).mono ?_;rintro e w1 ⟨rfl,k1⟩;have q0:=(k1.cell (p:=⟨w.heap.size,0,none⟩) (by simp;omega));have q1:=(k1.cell (p:=⟨w.heap.size,1,none⟩) (by simp;omega));simp at q0 q1;have hB:Below w.heap.size w w1:=((below_alloc _ _).alloc (by simp) _).trans (k1.mono (by simp;omega)))
 go_quiet (fail)
 go_wp2_with fail
 go_ret2
 exact ⟨rfl,hB.trans ((below_drewN _ _).mono hB.size)⟩
theorem rd_start {w:World}{g cap T:Nat}{toks:List Tok}(htk:Toks w g 0 toks) (hg:g < w.heap.size) (hc:toks.length≤cap) (hc2:cap≤maxLen):Rd (w.alloc (.cells #[.slice (some ⟨g,0,none⟩) toks.length cap] T)) w.heap.size g toks :=
 ⟨0,cap,box_cell _ _ _ _,hc,hc2,by simp,by omega,by simp;omega,Toks.same ((below_alloc w _).block g hg) htk⟩
theorem Left.belowOf {w w1 w2:World}{g T:Nat}{cs:Array Value}{l:List Tok}(h:Left (w1.alloc (.cells cs T)) w2 w1.heap.size g l) (hw:w.heap.size≤w1.heap.size):Below w.heap.size w1 w2 :=
 ⟨h.kept.os,h.kept.tape,h.kept.output,by have:=h.kept.size;simp at this;omega,fun k hk=>(h.kept.block k (by simp;omega) (by omega)).trans ((below_alloc w1 _).block k (by omega))⟩
theorem read_ok (hI:ParsesInt) (s:ByteArray) (n m:Nat) (toks:List Tok) (z:Tok) (t:Tr) (w:World) (hs:s.size≤2000) (hm:m≤3000) (hS:SignsIn w) (hl:lexL s m 0=some toks) (hp:parse n .filter toks=some (t,[z])) (hz:z.kind=0) (ho:okT [] t=true) :
  Calls Tryz.prog 9 #[.string s] w fun e w'=>∃ T b,e = .returned (.tuple #[.iface T (.pointer (some ⟨b,0,none⟩)),.int .i64 0,.int .i64 0])∧Below w.heap.size w w'∧Rep (w.heap.size≤·) w' (.iface T (.pointer (some ⟨b,0,none⟩))) t:=by
 have hs':¬ (2000:Int) < (s.size:Int):=by omega
 go_enter Tryz.func9,Tryz.ntmps9
 go_wp2_with (first
  | (go_at_call 15;refine (readTokens_ok s m toks _ hs hm hS hl).mono ?_;rintro e w1 ⟨g,cap,rfl,hg1,hg2,htk,hc1,hc2,k1⟩)
  | (go_at_call 16;refine ((parse_sound hI n).filter hp (rd_start htk hg2 hc1 hc2)).mono ?_;rintro e w2 ⟨T,b,rfl,h2,r2⟩;have hr2:=h2.rd;obtain ⟨o,c,⟨d1,d2,d3,d4,d5,d6,⟨d7,d8,d9,_⟩⟩⟩:=hr2;have q1:=h2.kept.size;simp only [List.length_singleton,hz] at d1 d2 d7;have hB2:Below w.heap.size w w2:=k1.trans (Left.belowOf h2 k1.size)))
 have hb2:w1.heap.size < w2.heap.size:=by simp at q1;omega
 go_wp2_with (first
  | (go_at_call 17;refine (firstUnknown_ok (r2.upon (below_alloc _ _)) ho).mono ?_;rintro e w3 ⟨rfl,k3⟩))
 go_ret3
 have hs1:=k1.size
 exact ⟨_,_,rfl,(hB2.alloc hB2.size _).trans (k3.mono (by have:=hB2.size;simp;omega)),(((r2.low (by simp;omega)).upon (below_alloc _ _)).upon k3)⟩
end Go.Proofs.Tryz
namespace Go.Proofs.Tryz
set_option maxHeartbeats 16000000
open Go.RowKit
set_option maxRecDepth 100000
def readAs (s:ByteArray):Option Tr :=
 match lexL s 1000 0 with
 | none=>none
 | some l=>match parse 60 .filter l with
  | some (t,[z])=>if z.kind=0∧okT [] t=true then some t else none
  | _=>none
theorem readAs_ok (hI:ParsesInt) {s:ByteArray}{t:Tr}(h:readAs s=some t) (w:World) (hs:s.size≤2000) (hS:SignsIn w) :
  Calls Tryz.prog 9 #[.string s] w fun e w'=>∃ T b,e = .returned (.tuple #[.iface T (.pointer (some ⟨b,0,none⟩)),.int .i64 0,.int .i64 0])∧Below w.heap.size w w'∧Rep (w.heap.size≤·) w' (.iface T (.pointer (some ⟨b,0,none⟩))) t:=by
 unfold readAs at h
 split at h
 ·cases h
 ·rename_i l hl
  split at h
  ·rename_i t' z hp
   split at h
   ·rename_i hz
    cases h
    exact read_ok hI s 60 1000 l z t w hs (by omega) hS hl hp hz.1 hz.2
   ·cases h
  ·cases h
def cmp (op:ByteArray):Tr:=.bin (.index .ident (.num 0)) op (.index .ident (.num 1))
def fDefs:ByteArray:=⟨#[10,100,101,102,32,109,97,112,40,102,41,58,32,91,46,91,93,32,124,32,102,93,59,10,100,101,102,32,115,101,108,101,99,116,40,102,41,58,32,105,102,32,102,32,116,104,101,110,32,46,32,101,108,115,101,32,101,109,112,116,121,32,101,110,100,59,10,100,101,102,32,114,101,99,117,114,115,101,40,102,41,58,32,46,44,32,40,102,32,124,32,114,101,99,117,114,115,101,40,102,41,41,59,10,100,101,102,32,117,110,116,105,108,40,99,59,32,102,41,58,32,105,102,32,99,32,116,104,101,110,32,46,32,101,108,115,101,32,40,102,32,124,32,117,110,116,105,108,40,99,59,32,102,41,41,32,101,110,100,59,10,100,101,102,32,114,101,112,101,97,116,40,102,41,58,32,46,44,32,40,102,32,124,32,114,101,112,101,97,116,40,102,41,41,59,10,100,101,102,32,119,104,105,108,101,40,99,59,32,102,41,58,32,105,102,32,99,32,116,104,101,110,32,46,44,32,40,102,32,124,32,119,104,105,108,101,40,99,59,32,102,41,41,32,101,108,115,101,32,101,109,112,116,121,32,101,110,100,59,10,100,101,102,32,105,115,118,97,108,105,100,40,102,41,58,32,116,114,121,32,40,102,32,124,32,116,114,117,101,41,32,99,97,116,99,104,32,102,97,108,115,101,59,10,100,101,102,32,108,97,115,116,40,102,41,58,32,114,101,100,117,99,101,32,102,32,97,115,32,36,120,32,40,110,117,108,108,59,32,36,120,41,59,10,46]⟩
end Go.Proofs.Tryz
namespace Go.Proofs.Tryz
set_option maxHeartbeats 16000000
open Go.RowKit
set_option maxRecDepth 100000
def chainB:Tr→Nat→Bool
 | .done _,_=>false
 | .ask _ kind k,n=>match kind,n with
  | 0,0=>true
  | 15,n+1=>chainB (k 2) n
  | 16,n+1=>chainB (k 2) n
  | _,_=>false
def defOk (o:Option Tr) (n:Nat):Bool:=match o with
 | some t=>chainB t n
 | none=>false
theorem chain_of {o:Option Tr}{n:Nat}(h:defOk o n=true):∃ t,o=some t∧chainB t n=true:=by
 cases o with
 | none=>cases h
 | some t=>exact ⟨t,rfl,h⟩
theorem defsRead:defOk (readAs fDefs) 8=true:=by kernel_rfl
theorem defs_chain:∃ t,readAs fDefs=some t∧chainB t 8=true:=chain_of defsRead
theorem chain_end {p:Nat→Prop}{w:World}{v:Value}{t:Tr}(h:Rep p w v t) (hc:chainB t 0=true):∃ b,v = .iface 125 (.pointer (some ⟨b,0,none⟩)):=by
 cases t with
 | done y=>cases hc
 | ask s0 kind k =>
  match kind,h,hc with
  | 0,h,hc=>exact h
  | 1,_,hc=>cases hc
  | 2,_,hc=>cases hc
  | 3,_,hc=>cases hc
  | 4,_,hc=>cases hc
  | 5,_,hc=>cases hc
  | 6,_,hc=>cases hc
  | 7,_,hc=>cases hc
  | 8,_,hc=>cases hc
  | 9,_,hc=>cases hc
  | 10,_,hc=>cases hc
  | 11,_,hc=>cases hc
  | 12,_,hc=>cases hc
  | 13,_,hc=>cases hc
  | 14,_,hc=>cases hc
  | 15,_,hc=>cases hc
  | 16,_,hc=>cases hc
  | 17,_,hc=>cases hc
  | 18,_,hc=>cases hc
  | _+19,h,_=>exact h.elim
end Go.Proofs.Tryz
namespace Go.Proofs.Tryz
set_option maxHeartbeats 16000000
open Go.RowKit
set_option maxRecDepth 10000
theorem SignsIn.same {B:Nat}{w w':World}(h:SignsIn w) (hs:SameOn (· < B) w w') (hg:0 < B) (hl:B≤w'.heap.size):SignsIn w' :=
 ⟨fun j v hv=>(World.cell?_of_block (w:=w) (hs _ hg)).trans (h.1 j v hv),Nat.lt_of_lt_of_le hg hl⟩
theorem PlaceBox.facts {w:World}{b:Nat}{kn:Option Addr}{d:Int}(h:PlaceBox w b kn d):w.cell? ⟨b,0,none⟩=some (.pointer kn)∧w.cell? ⟨b,1,none⟩=some (.int .i64 d)∧w.frozen? ⟨b,0,none⟩=false∧w.frozen? ⟨b,1,none⟩=false∧b < w.heap.size :=
 ⟨h.c0,h.c1,by simp [World.frozen?,PlaceBox] at *;simp [h],by simp [World.frozen?,PlaceBox] at *;simp [h],h.lt⟩
theorem keep2 {w1:World}{db n:Nat}{a1 a2 v:Value}(h:db < n) (e:w1.cell? ⟨db,0,none⟩=some v):((w1.setCell ⟨n,0,none⟩ a1).setCell ⟨n,1,none⟩ a2).cell? ⟨db,0,none⟩=some v:=by
 rw [World.cell?_setCell_far _ _ _ _ (by simp;omega),World.cell?_setCell_far _ _ _ _ (by simp;omega)]
 exact e
theorem enters_start1:Enters Tryz.prog 20:=enters_of Tryz.func20 (by kernel_rfl) rfl
end Go.Proofs.Tryz
namespace Go.Proofs.Tryz
set_option maxHeartbeats 16000000
open Go.RowKit
set_option maxRecDepth 10000
abbrev Kd:=Sum (List IV×Fin1) (List IV)
abbrev Kd.arr (l:List IV):Kd:=.inr l
def SK (κ:Kd) (F D:Nat→Prop) (w:World) (f:Value):Prop:=match κ with
 | .inl (l,E)=>Str l E F D w f
 | .inr l=>StrArr l F D w f
def Kd.ok (κ:Kd):Prop:=match κ with
 | .inl (l,E)=>SomeOrThrown l E
 | .inr _=>True
theorem SK.shape {κ:Kd}{F D:Nat→Prop}{w:World}{f:Value}(h:SK κ F D w f):∃ K cap,f = .func (.func K) #[] cap:=by
 match κ,h with
 | .inl (l,E),h=>exact Str.shape h
 | .inr l,h=>exact StrArr.shape h
theorem SK.lt {κ:Kd}{F D:Nat→Prop}{w:World}{f:Value}(h:SK κ F D w f):∀ k,F k→k < w.heap.size:=by
 match κ,h with
 | .inl (l,E),h=>exact Str.lt h
 | .inr l,h=>exact StrArr.lt h
theorem SK.sub {κ:Kd}{F D:Nat→Prop}{w:World}{f:Value}(h:SK κ F D w f):∀ k,D k→F k:=by
 match κ,h with
 | .inl (l,E),h=>exact Str.sub h
 | .inr l,h=>obtain ⟨_,_,_,_,_,h,_⟩:=h;exact h
theorem SK.move {κ:Kd}{F D:Nat→Prop}{w w1:World}{f:Value}(h:SK κ F D w f) (hs:SameOn F w w1) (hl:w.heap.size≤w1.heap.size):SK κ F D w1 f:=by
 match κ,h with
 | .inl (l,E),h=>exact Str.move h hs hl
 | .inr l,h=>exact StrArr.move h hs hl
end Go.Proofs.Tryz
namespace Go.Proofs.Tryz
set_option maxHeartbeats 16000000
open Go.RowKit
set_option maxRecDepth 10000
theorem enters_made1:Enters Tryz.prog 123:=enters_of Tryz.func123 (by kernel_rfl) rfl
end Go.Proofs.Tryz
namespace Go.Proofs.Tryz
set_option maxHeartbeats 16000000
open Go.RowKit
set_option maxRecDepth 10000
theorem out_collectg {C:Nat→Prop}{pb fb sb b T1 b1:Nat}{w0 w:World}{kn:Option Addr}{d:Int}{x:IV}{Ls:List SP}(hp:PlaceBox w pb kn d) (hf:Box w fb (.pointer (some ⟨b,0,none⟩)) 230) (hx:SpotB w sb (x,none)) (hb:C b) (c0:w0.cell? ⟨b,0,none⟩=some (.iface T1 (.pointer (some ⟨b1,0,none⟩)))) (hO:OpensG C w0 (.iface T1 (.pointer (some ⟨b1,0,none⟩))) kn d (x,none) Ls) (hs:SameOn C w0 w) (hl:w0.heap.size≤w.heap.size) (hL2:Ls.length≤1000) :
  OutG (fun k=>C k∨k=pb∨k=fb∨k=sb) w (.func (.func 123) #[] #[.pointer (some ⟨pb,0,none⟩),.pointer (some ⟨fb,0,none⟩),.pointer (some ⟨sb,0,none⟩)]) (ArrOf Ls):=by
 have hC:=hO.1
 have hpl:=hp.lt
 have hfl:=hf.lt
 have hxl:=hx.lt
 refine ⟨_,_,rfl,enters_made1,by grind,?_⟩
 intro w' hs' hl'
 have hs0:SameOn C w0 w':=hs.trans (hs'.mono (fun _ h=>.inl h))
 have hc:=fun w1 (k:Below w'.heap.size w' w1)=>collect_okg hO (hs0.trans (fun j hj=>k.block j (by have:=hC j hj;omega))) (by have:=k.size;omega) hL2
 have n0:=hs0.cell hb c0
 have n2:b < w'.heap.size:=by have:=hC b hb;omega
 obtain ⟨p0,p1,_,_,p4⟩:=PlaceBox.facts (hp.same (hs' pb (by simp)))
 have hf':=hf.same (hs' fb (by simp))
 have f0:=hf'.cell
 have f2:=hf'.lt
 obtain ⟨T,u⟩:=x
 obtain ⟨x0,x1,_,_,x4⟩:=(hx.same (hs' sb (by simp))).facts
 simp only [iv] at hc ⊢
 clear hO
 go_enter Tryz.func123,Tryz.ntmps123
 have s0:=six ((Below.refl _ w').drew) p0 p1 f0 n0 x0 x1
 go_wp2_with fail
 go_region_held3 (fun w1=>w1.cell? ⟨pb,0,none⟩=some (.pointer kn)∧w1.cell? ⟨pb,1,none⟩=some (.int .i64 d)∧w1.cell? ⟨fb,0,none⟩=some (.pointer (some ⟨b,0,none⟩))∧w1.cell? ⟨b,0,none⟩=some (.iface T1 (.pointer (some ⟨b1,0,none⟩)))∧w1.cell? ⟨sb,0,none⟩=some (.iface T u)∧w1.cell? ⟨sb,1,none⟩=some (.pointer none)) (first | exact s0 | exact e4 | go_keep)
  (first | (go_at_call 124;refine (hc _ (Below.refl _ _).drew).mono ?_;rintro e w1 ⟨k1,⟨Ty,uy⟩,G,rfl,ha,hG⟩;have kX:Below w'.heap.size w' w1:=(Below.refl _ _).drew.trans (k1.mono (by simp));have e4:=six kX p0 p1 f0 n0 x0 x1;have hG':∀ k,G k→C k∨w'.heap.size≤k:=hG))
 all_goals
  go_wp2_with fail
  go_ret
  exact ⟨kX,(Ty,uy),G,rfl,ha,by grind⟩
theorem opensG_collect {C:Nat→Prop}{b T1 b1:Nat}{w0:World}{kn:Option Addr}{d:Int}{x:IV}{Ls:List SP}(hb:C b) (c0:w0.cell? ⟨b,0,none⟩=some (.iface T1 (.pointer (some ⟨b1,0,none⟩)))) (hO:OpensG C w0 (.iface T1 (.pointer (some ⟨b1,0,none⟩))) kn d (x,none) Ls) (hL2:Ls.length≤1000):OpensG C w0 (.iface 230 (.pointer (some ⟨b,0,none⟩))) kn d (x,none) [ArrOf Ls]:=by
 have hC:=hO.1
 refine ⟨hC,fun w0' hs0 hl0=>open_defg (.inr (.inl rfl)) (fun w k=>?_)⟩
 have hs:SameOn C w0 w:=hs0.trans (fun j hj=>k.block j (Nat.lt_of_lt_of_le (hC j hj) hl0))
 have hl:w0.heap.size≤w.heap.size:=Nat.le_trans hl0 k.size
 have n0:=hs.cell hb c0
 have n2:b < w.heap.size:=by have:=hC b hb;omega
 have m0:=missLiteral
 have m1:=missVariable
 have m2:=hitCollect
 obtain ⟨wA,hA,kW,wp,wf,wx,wl⟩:=three_boxes2 w kn d (.pointer (some ⟨b,0,none⟩)) 230 (x,none)
 have hw:=worked_okg (out_collectg wp wf wx hb c0 hO (hs.trans (fun j hj=>kW.block j (by have:=hC j hj;omega))) (by have:=kW.size;omega) hL2) (C':=fun k=>C k∨w.heap.size≤k) (by grind)
 obtain ⟨T,u⟩:=x
 simp only [iv] at hA ⊢
 rw [hA] at hw
 clear hO wp wf wx kW wl hA
 go_enter Tryz.func66,Tryz.ntmps66
 go_wp2_with (go_at_call 122;refine hw.mono ?_;rintro e w1 ⟨k1,K,cap,rfl,hM⟩)
 go_ret
 exact (MadeC.under (L:=[ArrOf Ls]) (C:=fun k=>C k∨w.heap.size≤k) ⟨k1,K,cap,rfl,hM⟩ (below_alloc3 w _ _ _)).more (by grind)
end Go.Proofs.Tryz
namespace Go.Proofs.Tryz
set_option maxHeartbeats 16000000
open Go.RowKit
set_option maxRecDepth 10000
def NotNamed (name:ByteArray):Prop:=(name.toList == [101,109,112,116,121])=false∧(name.toList == [101,114,114,111,114])=false∧(name.toList == [102,105,114,115,116])=false∧(name.toList == [108,105,109,105,116])=false∧(name.toList == [103,101,116,112,97,116,104])=false
theorem named_g {C:Nat→Prop}{Ls:List SP}{w0 w:World}{kn:Option Addr}{d:Int}{b n na c:Nat}{p:Option Addr}{name:ByteArray}{x:IV}(hC:∀ k,C k→k < w0.heap.size) (hb:C b) (c0:w0.cell? ⟨b,0,none⟩=some (.string name)) (c1:w0.cell? ⟨b,1,none⟩=some (.slice p na c)) (hF:FindIs C w0 2 name na n kn none) (hN:NotNamed name) (hs:SameOn C w0 w) (hl:w0.heap.size≤w.heap.size)
  (h:∀ w1,Below w.heap.size w w1→Calls Tryz.prog 117 #[.agg #[.pointer kn,.int .i64 d],.pointer (some ⟨b,0,none⟩),.agg #[iv x,.pointer none]] w1 (MadeC Ls C w1)) :
  Calls Tryz.prog 63 #[.agg #[.pointer kn,.int .i64 d],.pointer (some ⟨b,0,none⟩),.agg #[iv x,.pointer none]] w (MadeC Ls C w):=by
 obtain ⟨o1,o2,o3,o4,o5⟩:=hN
 have n0:=hs.cell hb c0
 have n1:=hs.cell hb c1
 have n3:b < w.heap.size:=by have:=hC b hb;omega
 have hf:∀ w1,Below w.heap.size w w1→Calls Tryz.prog 55 #[.pointer kn,.int .u8 2,.string name,.int .i64 na] w1 fun e w'=>e = .returned (.pointer none)∧Below w1.heap.size w1 w':=fun w1 k=>kfind_ok (hF.move (C':=C) (hs.trans (fun j hj=>k.block j (by have:=hC j hj;omega))) (fun _ h=>h))
 obtain ⟨T,u⟩:=x
 simp only [iv] at h ⊢
 have wn0:=((below_alloc3 w (.cells #[.pointer kn,.int .i64 d] 71) (.cells #[.pointer (some ⟨b,0,none⟩)] 169) (.cells #[.iface T u,.pointer none] 75)).cell (p:=⟨b,0,none⟩) n3).trans n0
 have wn1:=((below_alloc3 w (.cells #[.pointer kn,.int .i64 d] 71) (.cells #[.pointer (some ⟨b,0,none⟩)] 169) (.cells #[.iface T u,.pointer none] 75)).cell (p:=⟨b,1,none⟩) n3).trans n1
 go_enter Tryz.func63,Tryz.ntmps63
 go_wp2_with fail
 obtain ⟨wA,hA,kW,wp,wf,wx,wl⟩:=three_boxes w kn d (.pointer (some ⟨b,0,none⟩)) 169 ((T,u),none)
 simp only [iv] at hA
 obtain ⟨x0,x1,_,_,x4⟩:=wx.facts
 have a0:=wp.c0
 have a1:=wp.c1
 have a2:=wf.cell
 have a3:=(kW.cell (p:=⟨b,0,none⟩) n3).trans n0
 have a4:=(kW.cell (p:=⟨b,1,none⟩) n3).trans n1
 have s0:=eight ((Below.refl _ wA).drew) a0 a1 a2 a3 a4 x0 x1 x0
 clear wn0 wn1
 rw [← hA]
 clear hA
 go_region_held3 (fun w'=>w'.cell? ⟨w.heap.size,0,none⟩=some (.pointer kn)∧w'.cell? ⟨w.heap.size,1,none⟩=some (.int .i64 d)∧w'.cell? ⟨w.heap.size+1,0,none⟩=some (.pointer (some ⟨b,0,none⟩))∧w'.cell? ⟨b,0,none⟩=some (.string name)∧w'.cell? ⟨b,1,none⟩=some (.slice p na c)∧w'.cell? ⟨w.heap.size+2,0,none⟩=some (.iface T u)∧w'.cell? ⟨w.heap.size+2,1,none⟩=some (.pointer none)∧w'.cell? ⟨w.heap.size+2,0,none⟩=some (.iface T u)) (first | exact s0 | exact e4 | go_keep)
  (first | (go_at_call 55;refine (hf _ kW.drew).mono ?_;rintro e w1 ⟨rfl,k1⟩;have kX:Below wA.heap.size wA w1:=(Below.refl _ _).drew.trans (k1.mono (by simp));have e4:=eight kX a0 a1 a2 a3 a4 x0 x1 x0))
 all_goals
  obtain ⟨b0,b1,b2,b3,b4,b5,b6,-⟩:=e4
  have hXs:=kX.size
  have hWs:=kW.size
  have hl1:w.heap.size+2 < w1.heap.size:=by omega
  have hl2:b < w1.heap.size:=by omega
  go_wp2_with fail
  have t0:=six ((Below.refl _ w1).drew) b0 b1 b2 b3 b5 b6
  have kA:=kW.trans (kX.mono kW.size)
  go_region_held3 (fun w'=>w'.cell? ⟨w.heap.size,0,none⟩=some (.pointer kn)∧w'.cell? ⟨w.heap.size,1,none⟩=some (.int .i64 d)∧w'.cell? ⟨w.heap.size+1,0,none⟩=some (.pointer (some ⟨b,0,none⟩))∧w'.cell? ⟨b,0,none⟩=some (.string name)∧w'.cell? ⟨w.heap.size+2,0,none⟩=some (.iface T u)∧w'.cell? ⟨w.heap.size+2,1,none⟩=some (.pointer none)) (first | exact t0 | exact f4 | exact g4 | exact h4 | go_keep)
   (first
    | (go_at_call 50;refine plain_ok.mono ?_;rintro e w2 ⟨rfl,k2⟩;have kY:Below w1.heap.size w1 w2:=(Below.refl _ _).drew.trans (k2.mono (by simp));have f4:=six kY b0 b1 b2 b3 b5 b6;have kB:=kA.trans (kY.mono kA.size))
    | (go_at_call 117;refine (h _ kB).mono ?_;rintro e w3 ⟨k3,K,cap,rfl,hM⟩;have kZ:=kY.trans (k3.mono kY.size);have g4:=six kZ b0 b1 b2 b3 b5 b6)
    | (go_at_call 65;refine pathless_ok.mono ?_;rintro e w4 ⟨rfl,k4⟩;have h4:=six (kZ.trans (k4.mono kZ.size)) b0 b1 b2 b3 b5 b6))
  all_goals
   go_wp2_with fail
   go_ret
   exact (MadeC.under (L:=Ls) (C:=C) ⟨k3,K,cap,rfl,hM⟩ kB).same k4
theorem named_empty {C:Nat→Prop}{w0 w:World}{kn:Option Addr}{d:Int}{b n na c:Nat}{p:Option Addr}{name:ByteArray}{x:IV}(hC:∀ k,C k→k < w0.heap.size) (hb:C b) (c0:w0.cell? ⟨b,0,none⟩=some (.string name)) (c1:w0.cell? ⟨b,1,none⟩=some (.slice p na c)) (hF:FindIs C w0 2 name na n kn none) (hN:(name.toList == [101,109,112,116,121])=true) (hs:SameOn C w0 w) (hl:w0.heap.size≤w.heap.size) :
  Calls Tryz.prog 63 #[.agg #[.pointer kn,.int .i64 d],.pointer (some ⟨b,0,none⟩),.agg #[iv x,.pointer none]] w (MadeC [] C w):=by
 have n0:=hs.cell hb c0
 have n1:=hs.cell hb c1
 have n3:b < w.heap.size:=by have:=hC b hb;omega
 have hf:∀ w1,Below w.heap.size w w1→Calls Tryz.prog 55 #[.pointer kn,.int .u8 2,.string name,.int .i64 na] w1 fun e w'=>e = .returned (.pointer none)∧Below w1.heap.size w1 w':=fun w1 k=>kfind_ok (hF.move (C':=C) (hs.trans (fun j hj=>k.block j (by have:=hC j hj;omega))) (fun _ h=>h))
 obtain ⟨T,u⟩:=x
 simp only [iv]
 have wn0:=((below_alloc3 w (.cells #[.pointer kn,.int .i64 d] 71) (.cells #[.pointer (some ⟨b,0,none⟩)] 169) (.cells #[.iface T u,.pointer none] 75)).cell (p:=⟨b,0,none⟩) n3).trans n0
 have wn1:=((below_alloc3 w (.cells #[.pointer kn,.int .i64 d] 71) (.cells #[.pointer (some ⟨b,0,none⟩)] 169) (.cells #[.iface T u,.pointer none] 75)).cell (p:=⟨b,1,none⟩) n3).trans n1
 go_enter Tryz.func63,Tryz.ntmps63
 go_wp2_with fail
 obtain ⟨wA,hA,kW,wp,wf,wx,wl⟩:=three_boxes w kn d (.pointer (some ⟨b,0,none⟩)) 169 ((T,u),none)
 simp only [iv] at hA
 obtain ⟨x0,x1,_,_,x4⟩:=wx.facts
 have a0:=wp.c0
 have a1:=wp.c1
 have a2:=wf.cell
 have a3:=(kW.cell (p:=⟨b,0,none⟩) n3).trans n0
 have a4:=(kW.cell (p:=⟨b,1,none⟩) n3).trans n1
 have s0:=eight ((Below.refl _ wA).drew) a0 a1 a2 a3 a4 x0 x1 x0
 clear wn0 wn1
 rw [← hA]
 clear hA
 go_region_held3 (fun w'=>w'.cell? ⟨w.heap.size,0,none⟩=some (.pointer kn)∧w'.cell? ⟨w.heap.size,1,none⟩=some (.int .i64 d)∧w'.cell? ⟨w.heap.size+1,0,none⟩=some (.pointer (some ⟨b,0,none⟩))∧w'.cell? ⟨b,0,none⟩=some (.string name)∧w'.cell? ⟨b,1,none⟩=some (.slice p na c)∧w'.cell? ⟨w.heap.size+2,0,none⟩=some (.iface T u)∧w'.cell? ⟨w.heap.size+2,1,none⟩=some (.pointer none)∧w'.cell? ⟨w.heap.size+2,0,none⟩=some (.iface T u)) (first | exact s0 | exact e4 | go_keep)
  (first | (go_at_call 55;refine (hf _ kW.drew).mono ?_;rintro e w1 ⟨rfl,k1⟩;have kX:Below wA.heap.size wA w1:=(Below.refl _ _).drew.trans (k1.mono (by simp));have e4:=eight kX a0 a1 a2 a3 a4 x0 x1 x0))
 all_goals
  obtain ⟨b0,b1,b2,b3,b4,b5,b6,-⟩:=e4
  have hXs:=kX.size
  have hWs:=kW.size
  have hl1:w.heap.size+2 < w1.heap.size:=by omega
  have hl2:b < w1.heap.size:=by omega
  go_wp2_with fail
  go_ret
  exact .mk' (kW.trans (kX.mono kW.size)) (.ofNone (none_str w1)) (fun _ h=>h.elim) (fun _ h=>h.elim)
end Go.Proofs.Tryz
