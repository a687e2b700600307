import Derived.Test.YtbhajhlhgbnhbaaGreatDoorStep13
import Derived.WalkMore
set_option linter.all false
namespace Go.Proofs.Tryz
set_option maxHeartbeats 16000000
open Go.RowKit
set_option maxRecDepth 10000
def stepOper (P:Pars) (r:Int) (l:List Tok):Option (Tr×List Tok):=opL P r 100 [] l
theorem oper_step {P:Pars} (hP:Sound P) {r:Int}{l l':List Tok}{t:Tr}{w:World}{rb tb:Nat} (h:stepOper P r l=some (t,l')) (hr:Rd w rb tb l) :
  Calls Tryz.prog 39 #[.pointer (some ⟨rb,0,none⟩),.int .u8 r] w (Gives rb tb l' t w):=by
 have hrb:=hr.rbs
 have htb:=hr.tbs
 have hfd:=field_text
 obtain ⟨i0,hi0,hz0,hz1,hz2⟩:=info_parts info_half
 unfold stepOper at h
 go_enter Tryz.func39,Tryz.ntmps39
 go_wp2_with fail
 go_step3
 go_wp2_with fail
 go_step3
 go_wp2_with fail
 go_loopg [5] 100 (fun k v wr=>∃ hv m,Left w wr rb tb m∧Stack w.heap.size wr v hv∧hv.length+k≤100∧opL P r k (hv.map (·.2)) m=some (t,l'))
 case atStart=>exact ⟨[],l,.of_rd hr,.start _ _,by simp,h⟩
 case round =>
  obtain ⟨hv,m,hL,hS,hk,h⟩:=hrel
  match gk,h,hk with
  | k+1,h,hk =>
  simp only [opL,Option.bind_eq_some_iff,Prod.exists] at h
  obtain ⟨side,l1,hm,h⟩:=h
  match l1,hm,h with
  | t0 :: m0,hm,h =>
  have hmr:=hL.rd
  go_wp2_with (first
   | (go_at_call 85;refine (hP.minus hm hmr).mono ?_;rintro e w2 ⟨T,b,rfl,h2,r2⟩;have hr2:=h2.rd)
   | (go_at_call 86;refine (operator_any hr2).mono ?_;rintro e w3 ⟨rfl,h3⟩))
  obtain ⟨R,hR⟩:∃ R,foldL r (hv.map (·.2)) side (opOf t0)=R:=⟨_,rfl⟩
  rw [hR] at h
  have hB:=hL.kept.size
  have hs2:=h2.kept.size
  have hL3:=(hL.trans h2).trans h3
  have hS3:=(hS.kept h2.kept hrb).kept h3.kept hrb
  have hr3:Rep (fun c=>w.heap.size≤c∧Value.ownBlock u5≠some c) w3 (.iface T (.pointer (some ⟨b,0,none⟩))) side :=
   (r2.left h3 (by omega)).to fun c _ _ hc hv=>⟨⟨by omega,fun e=>by have:=hS.own.lt c e;omega⟩,hv⟩
  go_loopg [5,6,7] hv.length (fun j v s n wr=>∃ hv' side' T b nx,j=hv'.length∧s = .iface T (.pointer (some ⟨b,0,none⟩))∧n = .int .u8 nx∧Left w wr rb tb (t0 :: m0)∧Stack w.heap.size wr v hv'∧
   Rep (fun c=>w.heap.size≤c∧v.ownBlock≠some c) wr s side'∧hv'.length+k+1≤100∧foldL r (hv'.map (·.2)) side' nx=R)
  case atStart=>exact ⟨hv,side,T,b,_,rfl,rfl,rfl,hL3,hS3,hr3,by omega,hR⟩
  case round =>
   clear hr3 hS3 hL3 h3 r2 h2 hS hL hR
   obtain ⟨hv',side',T',b',nx,hj,rfl,rfl,hL,hS,hrep,hlen,hR⟩:=hrel
   have hw:=hL.rd
   cases hv' with
   | nil =>
    simp only [List.map_nil,foldL] at hR
    by_cases hlt:nx < r
    ·rw [if_pos hlt] at hR
     subst hR
     simp only [Option.some.injEq,Prod.mk.injEq] at h
     obtain ⟨rfl,rfl⟩:=h
     rcases hS.own.2 with ⟨rfl,_⟩ | ⟨g,cap,cur,rfl,_⟩
     all_goals
      simp only [List.length_nil] at *
      go_wp2_with fail
      go_ret
      exact ⟨_,_,rfl,hL,hrep.to fun c _ _ hc hv=>⟨hc.1,hv⟩⟩
    ·rw [if_neg hlt] at hR
     subst hR
     match m0,h,hL,hw with
     | u :: m1,h,hL,hw =>
     rcases hS.own.2 with ⟨rfl,_⟩ | ⟨g,cap,cur,rfl,_⟩
     ·simp only [List.length_nil] at *
      go_wp2_with (first
      | (go_at_call 82;refine (take_rd hw).mono ?_;rintro e w5 ⟨rfl,h5⟩)
      | (refine wpList_append_lies _ (by rfl) _ _ _ (by rfl) w.heap.size 189 i0 _ 3 40 Tryz.underlying186 hi0 hz0 hz1 hz2 rfl (by omega) (.slice none 0 0) 0 [] (by rfl) ((hS.kept h5.kept hrb).upto (below_alloc _ _)).own ⟨w5.heap.size,0,none⟩ 1 1 [.iface T' (.pointer (some ⟨b',0,none⟩)),.string t0.text,.int .u8 nx] (by rfl) (by rfl) (World.news_of_block (cs:=#[.iface T' (.pointer (some ⟨b',0,none⟩)),.string t0.text,.int .u8 nx]) (t:=189) (fr:=(0,0)) (heap_alloc_new w5 _)) (by simp [Value.oneCell']) (by omega) (by decide) (by omega) (by have:=hL.kept.size;have:=h5.kept.size;simp;omega) (w5.heap.size+1) (by simp) ?_;intro g2 cap2 w6 hown hgrow hat hlt2))
      go_roundg k
      case measure=>omega
      case rel =>
       obtain ⟨hLn,hSn⟩:=Stack.pushed rfl hrb htb hL hS rfl hrep h5 hown hgrow hat
       exact ⟨_,_,hLn,hSn,by simp only [List.length_cons,List.length_nil] at *;omega,h⟩
     ·simp only [List.length_nil] at *
      go_wp2_with (first
      | (go_at_call 82;refine (take_rd hw).mono ?_;rintro e w5 ⟨rfl,h5⟩)
      | (refine wpList_append_lies _ (by rfl) _ _ _ (by rfl) w.heap.size 189 i0 _ 3 40 Tryz.underlying186 hi0 hz0 hz1 hz2 rfl (by omega) (.slice (some ⟨g,0,none⟩) 0 cap) 0 [] (by rfl) ((hS.kept h5.kept hrb).upto (below_alloc _ _)).own ⟨w5.heap.size,0,none⟩ 1 1 [.iface T' (.pointer (some ⟨b',0,none⟩)),.string t0.text,.int .u8 nx] (by rfl) (by rfl) (World.news_of_block (cs:=#[.iface T' (.pointer (some ⟨b',0,none⟩)),.string t0.text,.int .u8 nx]) (t:=189) (fr:=(0,0)) (heap_alloc_new w5 _)) (by simp [Value.oneCell']) (by omega) (by decide) (by omega) (by have:=hL.kept.size;have:=h5.kept.size;simp;omega) (w5.heap.size+1) (by simp) ?_;intro g2 cap2 w6 hown hgrow hat hlt2))
      go_roundg k
      case measure=>omega
      case rel =>
       obtain ⟨hLn,hSn⟩:=Stack.pushed rfl hrb htb hL hS rfl hrep h5 hown hgrow hat
       exact ⟨_,_,hLn,hSn,by simp only [List.length_cons,List.length_nil] at *;omega,h⟩
   | cons p hv' =>
    obtain ⟨g,cap,rfl,hgB,hgs⟩:=hS.form
    obtain ⟨x,ph⟩:=p
    obtain ⟨Tp,bp,hx⟩:=hS.its _ (.head _)
    simp only at hx
    subst hx
    obtain ⟨n,hn⟩:∃ n,hv'.length=n:=⟨_,rfl⟩
    have c0:wr.cell? ⟨g,n * 3,none⟩=some (.iface Tp (.pointer (some ⟨bp,0,none⟩))):=by rw [← hn];exact hS.cells 0 (by omega)
    have c1:wr.cell? ⟨g,n * 3+1,none⟩=some (.string ph.op):=by rw [← hn];exact hS.cells 1 (by omega)
    have c2:wr.cell? ⟨g,n * 3+2,none⟩=some (.int .u8 ph.row):=by rw [← hn];exact hS.cells 2 (by omega)
    simp only [List.map_cons,foldL] at hR
    simp only [List.length_cons] at hlen hj
    have hcap:hv'.length+1≤cap:=by
     rcases hS.own.2 with ⟨h,_⟩ | ⟨_,_,_,e,_,_,hc,_⟩
     ·cases h
     ·cases e;simpa using hc
    rw [hn] at hcap hlen ⊢
    have n0:(0:Int)≤(n:Int):=Int.natCast_nonneg _
    have n1:(n:Int) < ((n+1:Nat):Int):=by omega
    have n2:n≤100:=by omega
    by_cases hwt:waits ph.row nx=true
    ·rw [if_pos hwt] at hR
     subst hR
     match m0,h,hL,hw with
     | u :: m1,h,hL,hw =>
     rw [hn] at hS
     go_wp2_with (first
      | (go_at_call 87;refine (waits_any _ Tp bp _ _ _ _ rfl).mono ?_;rintro e w4 ⟨rfl,h4⟩;rw [hwt];have hL:=hL.upto h4;have hS:=hS.upto h4;have hrep:=hrep.upon h4;have hw:=hw.below h4;have z4:=h4.size)
      | (go_at_call 82;refine (take_rd hw).mono ?_;rintro e w5 ⟨rfl,h5⟩)
      | (refine wpList_append_lies _ (by rfl) _ _ _ (by rfl) w.heap.size 189 i0 _ 3 40 Tryz.underlying186 hi0 hz0 hz1 hz2 rfl (by omega) (.slice (some ⟨g,0,none⟩) (n+1) cap) (n+1) (scells ((.iface Tp (.pointer (some ⟨bp,0,none⟩)),ph) :: hv')) (by rfl) (((hS.kept h5.kept hrb).upto (below_alloc _ _)).ownAt (by rw [List.length_cons,hn])) ⟨w5.heap.size,0,none⟩ 1 1 [.iface T' (.pointer (some ⟨b',0,none⟩)),.string t0.text,.int .u8 nx] (by rfl) (by rfl) (World.news_of_block (cs:=#[.iface T' (.pointer (some ⟨b',0,none⟩)),.string t0.text,.int .u8 nx]) (t:=189) (fr:=(0,0)) (heap_alloc_new w5 _)) (by simp [Value.oneCell']) (by omega) (by unfold maxLen;omega) (by omega) (by have:=hL.kept.size;have:=h5.kept.size;simp;omega) (w5.heap.size+1) (by simp) ?_;intro g2 cap2 w6 hown hgrow hat hlt2))
     go_roundg k
     case measure=>omega
     case rel =>
      rw [← hn] at hown hgrow hat hS
      obtain ⟨hLn,hSn⟩:=Stack.pushed (hv:=(_,ph) :: hv') rfl hrb htb hL hS rfl hrep h5 hown hgrow hat
      rw [List.length_cons,hn] at hSn
      exact ⟨_,_,hLn,hSn,by simp only [List.length_cons] at *;omega,h⟩
    ·have hwt:waits ph.row nx=false:=by simpa using hwt
     rw [hwt] at hR
     simp only [Bool.false_eq_true,if_false] at hR
     have hpop:=hS.pop
     rw [hn] at hpop
     have hpr:=hS.rep _ (.head _)
     simp only at hpr
     have n3:(n:Int) < (n:Int)+1:=by omega
     by_cases hrow:ph.row=nx
     ·subst hrow
      by_cases ho:once ph.row=true
      ·have hcl:(ph.row == ph.row && once ph.row)=true:=by simpa using ho
       rw [hcl] at hR
       simp only [if_true] at hR
       go_wp2_with (first
        | (go_at_call 87;refine (waits_any _ Tp bp _ _ _ _ rfl).mono ?_;rintro e w4 ⟨rfl,h4⟩;rw [hwt];have hL:=hL.upto h4;have hpop:=hpop.upto h4;have hrep:=hrep.upon h4;have hpr:=hpr.upon h4;have d0:=(h4.cell (p:=⟨g,n * 3,none⟩) hgs).trans c0;have d1:=(h4.cell (p:=⟨g,n * 3+1,none⟩) hgs).trans c1;have d2:=(h4.cell (p:=⟨g,n * 3+2,none⟩) hgs).trans c2)
        | (go_at_call 88;refine (once_any _ _).mono ?_;rintro e w9 ⟨rfl,h9⟩;subst w9;rw [ho]))
       have z4:g < w4.heap.size:=Nat.lt_of_lt_of_le hgs h4.size
       go_region_held3 (fun w'=>w'.cell? ⟨g,n * 3,none⟩=some (.iface Tp (.pointer (some ⟨bp,0,none⟩)))∧w'.cell? ⟨g,n * 3+1,none⟩=some (.string ph.op)) (go_keep) (fail)
       all_goals
        go_wp2_with fail
        go_roundg n
        case measure=>omega
        case rel =>
         have hb4:Below w4.heap.size w4 ((w4.alloc (.cells #[.iface Tp (.pointer (some ⟨bp,0,none⟩)),.string ph.op,.iface T' (.pointer (some ⟨b',0,none⟩))] 192)).drew):=(below_alloc _ _).drew
         have z5:=hL.kept.size
         exact ⟨hv',.bin ph.left ph.op side',_,_,_,hn.symm,rfl,rfl,hL.upto hb4,hpop.upto hb4,.bin ⟨z5,by simp [Value.ownBlock];omega⟩ (box_cell _ _ _ _) (box_cell _ _ _ _) (box_cell _ _ _ _) (hpr.upon hb4) (hrep.upon hb4),by omega,hR⟩
      ·have ho:once ph.row=false:=by simpa using ho
       have hcl:(ph.row == ph.row && once ph.row)=false:=by simpa using ho
       rw [hcl] at hR
       simp only [Bool.false_eq_true,if_false] at hR
       go_wp2_with (first
        | (go_at_call 87;refine (waits_any _ Tp bp _ _ _ _ rfl).mono ?_;rintro e w4 ⟨rfl,h4⟩;rw [hwt];have hL:=hL.upto h4;have hpop:=hpop.upto h4;have hrep:=hrep.upon h4;have hpr:=hpr.upon h4;have d0:=(h4.cell (p:=⟨g,n * 3,none⟩) hgs).trans c0;have d1:=(h4.cell (p:=⟨g,n * 3+1,none⟩) hgs).trans c1;have d2:=(h4.cell (p:=⟨g,n * 3+2,none⟩) hgs).trans c2)
        | (go_at_call 88;refine (once_any _ _).mono ?_;rintro e w9 ⟨rfl,h9⟩;subst w9;rw [ho]))
       have z4:g < w4.heap.size:=Nat.lt_of_lt_of_le hgs h4.size
       go_region_held3 (fun w'=>w'.cell? ⟨g,n * 3,none⟩=some (.iface Tp (.pointer (some ⟨bp,0,none⟩)))∧w'.cell? ⟨g,n * 3+1,none⟩=some (.string ph.op)) (go_keep) (fail)
       all_goals
        go_wp2_with fail
        go_roundg n
        case measure=>omega
        case rel =>
         have hb4:Below w4.heap.size w4 ((w4.alloc (.cells #[.iface Tp (.pointer (some ⟨bp,0,none⟩)),.string ph.op,.iface T' (.pointer (some ⟨b',0,none⟩))] 192)).drew):=(below_alloc _ _).drew
         have z5:=hL.kept.size
         exact ⟨hv',.bin ph.left ph.op side',_,_,_,hn.symm,rfl,rfl,hL.upto hb4,hpop.upto hb4,.bin ⟨z5,by simp [Value.ownBlock];omega⟩ (box_cell _ _ _ _) (box_cell _ _ _ _) (box_cell _ _ _ _) (hpr.upon hb4) (hrep.upon hb4),by omega,hR⟩
     ·have hcl:(ph.row == nx && once nx)=false:=by simp [hrow]
      rw [hcl] at hR
      simp only [Bool.false_eq_true,if_false] at hR
      have hne:(ph.row == nx)=false:=by simpa using hrow
      have ho:True:=trivial
      ·go_wp2_with (first
        | (go_at_call 87;refine (waits_any _ Tp bp _ _ _ _ rfl).mono ?_;rintro e w4 ⟨rfl,h4⟩;rw [hwt];have hL:=hL.upto h4;have hpop:=hpop.upto h4;have hrep:=hrep.upon h4;have hpr:=hpr.upon h4;have d0:=(h4.cell (p:=⟨g,n * 3,none⟩) hgs).trans c0;have d1:=(h4.cell (p:=⟨g,n * 3+1,none⟩) hgs).trans c1;have d2:=(h4.cell (p:=⟨g,n * 3+2,none⟩) hgs).trans c2)
        | (go_at_call 88;refine (once_any _ _).mono ?_;rintro e w9 ⟨rfl,h9⟩;subst w9;rw [ho]))
       have z4:g < w4.heap.size:=Nat.lt_of_lt_of_le hgs h4.size
       go_region_held3 (fun w'=>w'.cell? ⟨g,n * 3,none⟩=some (.iface Tp (.pointer (some ⟨bp,0,none⟩)))∧w'.cell? ⟨g,n * 3+1,none⟩=some (.string ph.op)) (go_keep) (fail)
       all_goals
        go_wp2_with fail
        go_roundg n
        case measure=>omega
        case rel =>
         have hb4:Below w4.heap.size w4 ((w4.alloc (.cells #[.iface Tp (.pointer (some ⟨bp,0,none⟩)),.string ph.op,.iface T' (.pointer (some ⟨b',0,none⟩))] 192)).drew):=(below_alloc _ _).drew
         have z5:=hL.kept.size
         exact ⟨hv',.bin ph.left ph.op side',_,_,_,hn.symm,rfl,rfl,hL.upto hb4,hpop.upto hb4,.bin ⟨z5,by simp [Value.ownBlock];omega⟩ (box_cell _ _ _ _) (box_cell _ _ _ _) (box_cell _ _ _ _) (hpr.upon hb4) (hrep.upon hb4),by omega,hR⟩
end Go.Proofs.Tryz
