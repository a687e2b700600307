import Derived.Test.YtbhajhlhgbnhbaaGreatDoorNames7
import Derived.Test.YtbhajhlhgbnhbaaGreatDoorLex4
import Derived.Lib.Bytealg
import Derived.Sort.Statements
import Derived.Lib.AppendStr
import Derived.Deep.RegionLaw
import Derived.Lib.ParseIntB
import Derived.Deep.LoopGhost
import Derived.Lib.ItoaMem
import Derived.WalkMore
import Derived.Lib.RuneBytes
import Derived.Shelf.RegionOpenPlain
import Derived.Deep.RegionHeld3
set_option linter.all false
namespace Go.Proofs.Tryz
set_option maxHeartbeats 16000000
def lexC:List Int→List Int→Int
 | [],[]=>0
 | [],_ :: _=>-1
 | _ :: _,[]=>1
 | a :: l,b :: m=>if a < b then -1 else if b < a then 1 else lexC l m
theorem lexC_self:∀ l,lexC l l=0
 | []=>rfl
 | a :: l=>by rw [lexC,if_neg (by omega),if_neg (by omega),lexC_self l]
theorem lexC_cons (a:Int) (l m:List Int):lexC (a :: l) (a :: m)=lexC l m:=by rw [lexC,if_neg (by omega),if_neg (by omega)]
theorem lexC_append:∀ (p l m:List Int),lexC (p ++ l) (p ++ m)=lexC l m
 | [],_,_=>rfl
 | a :: p,l,m=>by rw [List.cons_append,List.cons_append,lexC_cons,lexC_append p]
theorem lexC_neg:∀ l m,lexC l m = - lexC m l
 | [],[]=>rfl
 | [],_ :: _=>rfl
 | _ :: _,[]=>rfl
 | a :: l,b :: m=>by
  rcases Int.lt_trichotomy a b with h | rfl | h
  ·rw [lexC,lexC,if_pos h,if_neg (by omega),if_pos h]
  ·rw [lexC_cons,lexC_cons,lexC_neg l m]
  ·rw [lexC,lexC,if_neg (by omega),if_pos h,if_pos h];rfl
theorem lexC_zero:∀ {l m},lexC l m=0→l=m
 | [],[],_=>rfl
 | [],_ :: _,h=>by simp [lexC] at h
 | _ :: _,[],h=>by simp [lexC] at h
 | a :: l,b :: m,h=>by
  rcases Int.lt_trichotomy a b with k | rfl | k
  ·rw [lexC,if_pos k] at h;omega
  ·rw [lexC_cons] at h;rw [lexC_zero h]
  ·rw [lexC,if_neg (by omega),if_pos k] at h;omega
theorem lexC_three:∀ l m,lexC l m = -1∨lexC l m=0∨lexC l m=1
 | [],[]=>.inr (.inl rfl)
 | [],_ :: _=>.inl rfl
 | _ :: _,[]=>.inr (.inr rfl)
 | a :: l,b :: m=>by
  rw [lexC]
  split
  ·exact .inl rfl
  ·split
   ·exact .inr (.inr rfl)
   ·exact lexC_three l m
theorem lexC_le_trans:∀ {a b c},lexC a b≤0→lexC b c≤0→lexC a c≤0
 | [],_,[],_,_=>by simp [lexC]
 | [],_,_ :: _,_,_=>by simp [lexC]
 | _ :: _,[],_,h,_=>by simp [lexC] at h
 | _ :: _,_ :: _,[],_,h=>by simp [lexC] at h
 | x :: a,y :: b,z :: c,h,k=>by
  rw [lexC] at h k ⊢
  split at h
  ·split at k
   ·rw [if_pos (by omega)];omega
   ·split at k
    ·omega
    ·rw [if_pos (by omega)];omega
  ·split at h
   ·omega
   ·split at k
    ·rw [if_pos (by omega)];omega
    ·split at k
     ·omega
     ·rw [if_neg (by omega),if_neg (by omega)]
      exact lexC_le_trans h k
theorem lexC_lt_trans {a b c:List Int} (h:lexC a b < 0) (k:lexC b c < 0):lexC a c < 0:=by
 have t:=lexC_le_trans (Int.le_of_lt h) (Int.le_of_lt k)
 rcases Int.lt_or_eq_of_le t with q | q
 ·exact q
 ·have e:=lexC_zero q
  subst e
  have n1:=lexC_neg a b
  omega
def strC (t:List UInt8):List Int:=t.map (fun b=>(b.toNat:Int)+1) ++ [0]
theorem strC_cmp:∀ (s t:List UInt8) (l m:List Int),lexC (strC s ++ l) (strC t ++ m)=if s=t then lexC l m else Lib.compareBytes s t
 | [],[],l,m=>by simp [strC,lexC_cons]
 | [],b :: t,l,m=>by simp [strC,lexC,Lib.compareBytes]
 | a :: s,[],l,m=>by simp [strC,lexC,Lib.compareBytes];omega
 | a :: s,b :: t,l,m=>by
  have ih:=strC_cmp s t l m
  simp only [strC,List.map_cons,List.cons_append] at ih ⊢
  rw [lexC,Lib.compareBytes]
  by_cases h1:a < b
  ·have:a.toNat < b.toNat:=by simpa [UInt8.lt_iff_toNat_lt] using h1
   rw [if_pos (by omega),if_pos h1,if_neg (by rintro h;injection h with h h';subst h;omega)]
  ·have g1:¬ a.toNat < b.toNat:=by simpa [UInt8.lt_iff_toNat_lt] using h1
   rw [if_neg (by omega),if_neg h1]
   by_cases h2:b < a
   ·have:b.toNat < a.toNat:=by simpa [UInt8.lt_iff_toNat_lt] using h2
    rw [if_pos (by omega),if_pos h2,if_neg (by rintro h;injection h with h h';subst h;omega)]
   ·have g2:¬ b.toNat < a.toNat:=by simpa [UInt8.lt_iff_toNat_lt] using h2
    have e:a=b:=UInt8.toNat_inj.1 (by omega)
    subst e
    rw [if_neg (by omega),if_neg h2,ih]
    simp
end Go.Proofs.Tryz
namespace Go.Proofs.Tryz
set_option maxHeartbeats 16000000
open Go.RowKit
set_option maxRecDepth 10000
theorem Fr.of_grownBy {w w':World}{r:Option Nat}{D:Nat→Prop} (h:w.grownBy w' r) (hD:∀ k,some k=r→D k):Fr D w w' :=
 ⟨h.os,h.tape,h.output,h.size,fun k hk hd=>h.block k hk (fun e=>hd (hD k e))⟩
theorem heap_news (a:World) (o:Obj) {n:Nat} (h:a.heap.size=n):(a.alloc o).heap[n]? = some o:=by subst h;exact heap_new a o
theorem cells_set {w:World}{g k:Nat}{cs:Array Value}{t:TypeId}{u:Value} (h:w.heap[g]? = some (.cells cs t (0,0))):(w.setCell ⟨g,k,none⟩ u).heap[g]? = some (.cells (cs.setIfInBounds k u) t (0,0)):=by
 have hlt:=lt_of_block h
 have h':w.heap[g] = .cells cs t (0,0):=by simpa [Array.getElem?_eq_getElem hlt] using h
 show (w.heap.modify g _)[g]? = _
 rw [Array.getElem?_eq_getElem (by simpa using hlt),Array.getElem_modify_self,h']
 rfl
theorem cells_cell {w:World}{g k:Nat}{cs:Array Value}{t:TypeId}{v:Value} (h:w.heap[g]? = some (.cells cs t (0,0))) (hv:cs[k]? = some v):w.cell? ⟨g,k,none⟩=some v:=by simp [World.cell?,h,hv]
theorem cells_free {w:World}{g k:Nat}{cs:Array Value}{t:TypeId} (h:w.heap[g]? = some (.cells cs t (0,0))):w.frozen? ⟨g,k,none⟩=false:=by simp [World.frozen?,h]
def VBlk (w:World) (vb:Nat) (s:ByteArray) (a:Nat) (ov:Value):Prop:=w.heap[vb]? = some (.cells #[.string s,.int .i64 a,ov] 47 (0,0))
theorem three_facts' {w:World}{b:Nat}{x y z:Value}{t:TypeId} (h:w.heap[b]? = some (.cells #[x,y,z] t (0,0))):w.cell? ⟨b,0,none⟩=some x∧w.cell? ⟨b,1,none⟩=some y∧w.cell? ⟨b,2,none⟩=some z∧w.frozen? ⟨b,0,none⟩=false∧w.frozen? ⟨b,1,none⟩=false∧w.frozen? ⟨b,2,none⟩=false∧b < w.heap.size:=by
 refine ⟨?_,?_,?_,?_,?_,?_,lt_of_block h⟩ <;> simp [World.cell?,World.frozen?,h]
theorem VBlk.set {w:World}{vb a b:Nat}{s:ByteArray}{ov:Value} (h:VBlk w vb s a ov):VBlk (w.setCell ⟨vb,1,none⟩ (.int .i64 b)) vb s b ov:=cells_set h
theorem VBlk.drewN {w:World}{vb a:Nat}{s:ByteArray}{ov:Value} (h:VBlk w vb s a ov) (n:Nat):VBlk (w.drewN n) vb s a ov:=h
theorem VBlk.same {w w':World}{vb a:Nat}{s:ByteArray}{ov:Value} (h:VBlk w vb s a ov) (e:w'.heap[vb]? = w.heap[vb]?):VBlk w' vb s a ov:=e.trans h
theorem dec_small {u:Nat} (h:u < 10):Lib.decDigits u=[UInt8.ofNat (48+u)]:=by rw [Lib.decDigits,dif_pos h]
theorem dec_big {u:Nat} (h:¬ u < 10):Lib.decDigits u=Lib.decDigits (u / 10) ++ [UInt8.ofNat (48+u % 10)]:=by rw [Lib.decDigits,dif_neg h]
theorem ofNat_dig {k:Nat} (h:k < 10):(UInt8.ofNat (48+k)).toNat=48+k:=by
 simp [UInt8.toNat_ofNat'];omega
theorem dec_ne (u:Nat):Lib.decDigits u≠[]:=by
 by_cases h:u < 10
 ·rw [dec_small h];simp
 ·rw [dec_big h];simp
theorem dec_all (u:Nat):∀ c∈Lib.decDigits u,48≤c.toNat∧c.toNat≤57:=by
 induction u using Nat.strongRecOn with
 | _ u ih =>
  intro c hc
  by_cases h:u < 10
  ·rw [dec_small h] at hc
   simp only [List.mem_singleton] at hc
   subst hc
   rw [ofNat_dig h];omega
  ·rw [dec_big h,List.mem_append] at hc
   rcases hc with hc | hc
   ·exact ih (u / 10) (by omega) c hc
   ·simp only [List.mem_singleton] at hc
    subst hc
    rw [ofNat_dig (Nat.mod_lt _ (by omega))];omega
theorem dec_lead (u:Nat) (h:1≤u):∀ c r,Lib.decDigits u=c :: r→c.toNat≠48:=by
 induction u using Nat.strongRecOn with
 | _ u ih =>
  intro c r hc
  by_cases h10:u < 10
  ·rw [dec_small h10] at hc
   simp only [List.cons.injEq] at hc
   rw [← hc.1,ofNat_dig h10];omega
  ·rw [dec_big h10] at hc
   cases e:Lib.decDigits (u / 10) with
   | nil=>exact absurd e (dec_ne _)
   | cons c' r' =>
    rw [e,List.cons_append] at hc
    simp only [List.cons.injEq] at hc
    rw [← hc.1]
    exact ih (u / 10) (by omega) (by omega) c' r' e
theorem dec_nought:Lib.decDigits 0=[48]:=by rw [dec_small (by omega)];rfl
theorem parseM_snoc (M:Nat):∀ (l:List UInt8) (acc v:Nat) (c:UInt8),Lib.parseUintM M acc l = .ok v→Lib.parseUintM M acc (l ++ [c])=Lib.parseUintM M v [c]
 | [],acc,v,c,h=>by
  simp only [Lib.parseUintM] at h
  cases h
  rfl
 | d :: l,acc,v,c,h=>by
  simp only [List.cons_append]
  rw [Lib.parseUintM] at h ⊢
  split
  ·rename_i hd
   rw [if_pos hd] at h
   split
   ·rename_i h1;rw [if_pos h1] at h;cases h
   ·rename_i h1
    rw [if_neg h1] at h
    split
    ·rename_i h2;rw [if_pos h2] at h;cases h
    ·rename_i h2
     rw [if_neg h2] at h
     exact parseM_snoc M l _ v c h
  ·rename_i hd
   rw [if_neg hd] at h
   cases h
theorem parse_dec (u:Nat):u≤18446744073709551615→Lib.parseUintM 18446744073709551615 0 (Lib.decDigits u) = .ok u:=by
 induction u using Nat.strongRecOn with
 | _ u ih =>
  intro hu
  by_cases h:u < 10
  ·rw [dec_small h,Lib.parseUintM,if_pos (by rw [ofNat_dig h];omega),if_neg (by omega),if_neg (by rw [ofNat_dig h];omega),Lib.parseUintM,ofNat_dig h]
   congr 1;omega
  ·have hd:=ofNat_dig (Nat.mod_lt u (show 0 < 10 by omega))
   rw [dec_big h,parseM_snoc _ _ _ _ _ (ih (u / 10) (by omega) (by omega)),Lib.parseUintM,if_pos (by rw [hd];omega),if_neg (by omega),if_neg (by rw [hd];omega),Lib.parseUintM,hd]
   congr 1;omega
theorem parse_itoa (n:Int) (h0 : -9223372036854775808≤n) (h1:n≤9223372036854775807):Lib.parseIntB 64 (Lib.itoa n) = .ok n:=by
 by_cases hn:n < 0
 ·have e:Lib.itoa n=45 :: Lib.decDigits n.natAbs:=by unfold Lib.itoa;rw [if_pos hn]
  rw [e]
  have hp:=parse_dec n.natAbs (by omega)
  simp only [Lib.parseIntB,Lib.parseUintB]
  simp [dec_ne,hp]
  rw [if_neg (by omega)]
  congr 1;omega
 ·have e:Lib.itoa n=Lib.decDigits n.toNat:=by unfold Lib.itoa;rw [if_neg hn]
  rw [e]
  have hp:=parse_dec n.toNat (by omega)
  cases hd:Lib.decDigits n.toNat with
  | nil=>exact absurd hd (dec_ne _)
  | cons c r =>
   have hc:=dec_all n.toNat c (by rw [hd];simp)
   rw [hd] at hp
   have q:¬ (c.toNat=43∨c.toNat=45):=by omega
   simp only [Lib.parseIntB,Lib.parseUintB,if_neg q]
   simp [hp]
   rw [if_neg (by omega),if_neg (by omega),if_neg (by omega)]
   congr 1;omega
def tailL (s:ByteArray):Nat→Nat→Int→Int→Nat×Bool
 | 0,a,_,_=>(a,true)
 | k+1,a,lo,hi=>if a=s.size then (a,false) else if byteAt s a < lo then (a,false) else if hi < byteAt s a then (a,false) else tailL s k (a+1) 128 191
def strL (s:ByteArray):Nat→Nat→List UInt8→List UInt8×Int×Bool
 | 0,a,_=>([],a,false)
 | k+1,a,cs =>
  if s.size≤a then ([],a,false)
  else if byteAt s a=34 then (cs,a+1,true)
  else if byteAt s a < 32 then ([],a,false)
  else if byteAt s a=92 then (if (escV s a).2.2 then strL s k (escV s a).2.1.toNat (cs ++ Lib.encodeRune (escV s a).1) else ([],(escV s a).2.1,false))
  else if (followV (byteAt s a)).2.2 < 0 then ([],a,false)
  else if (tailL s (followV (byteAt s a)).2.2.toNat (a+1) (followV (byteAt s a)).1 (followV (byteAt s a)).2.1).2 then
   strL s k (tailL s (followV (byteAt s a)).2.2.toNat (a+1) (followV (byteAt s a)).1 (followV (byteAt s a)).2.1).1 (cs ++ ((s.data.toList.drop a).take ((tailL s (followV (byteAt s a)).2.2.toNat (a+1) (followV (byteAt s a)).1 (followV (byteAt s a)).2.1).1 - a)))
  else ([],(tailL s (followV (byteAt s a)).2.2.toNat (a+1) (followV (byteAt s a)).1 (followV (byteAt s a)).2.1).1,false)
def AppendsRune:Prop:=∀ (B n:Nat) (r:Int) (sv:Value) (xs:List Value) (w:World),-2147483648≤r→r≤2147483647→w.ownsRow B 5 1 sv n xs→B≤w.heap.size→n+4≤140737488355328→
 Calls Tryz.prog 135 #[sv,.int .i32 r] w fun e w'=>∃ v',e = .returned v'∧w'.ownsRow B 5 1 v' (n+(Lib.runeCells r).length) (xs ++ Lib.runeCells r)∧Below B w w'
theorem conv_nil (w:World):Sem.run Tryz.prog (Go.convert 50 9 (.slice none 0 0)) w = .ok (.string ⟨#[]⟩) w:=by kernel_rfl
theorem follow_range (c:Int):(followV c).2.2 = -1∨∃ m:Nat,m≤3∧(followV c).2.2=m:=by
 unfold followV
 repeat' split
 all_goals first
  | exact .inl rfl
  | exact .inr ⟨0,by omega,rfl⟩
  | exact .inr ⟨1,by omega,rfl⟩
  | exact .inr ⟨2,by omega,rfl⟩
  | exact .inr ⟨3,by omega,rfl⟩
theorem take_one (s:ByteArray) (a j:Nat) (h:a+j < s.size):(s.data.toList.drop a).take (j+1)=(s.data.toList.drop a).take j ++ [s[a+j]]:=by
 rw [List.take_succ,List.getElem?_drop,at_list s (a+j) h]
 rfl
theorem belowD (B:Nat) (w:World) (m:Nat):Below B w (w.drewN m):=⟨rfl,rfl,rfl,Nat.le_refl _,fun _ _=>rfl⟩
theorem string_ok (hA:AppendsRune) (s:ByteArray) (a0:Nat) (h:a0 < s.size) (hm:s.size≤10000000) (w:World) :
  Calls Tryz.prog 81 #[.string s,.int .i64 a0] w fun e w'=>Below w.heap.size w w'∧∃ t,e = .returned (.tuple #[.string t,.int .i64 (strL s (s.size+1) (a0+1) []).2.1,.bool (strL s (s.size+1) (a0+1) []).2.2])∧t.data.toList=(strL s (s.size+1) (a0+1) []).1:=by
 obtain ⟨R,hR⟩:∃ R,strL s (s.size+1) (a0+1) []=R:=⟨_,rfl⟩
 rw [hR]
 have HR:Hid _:=hR
 clear hR
 obtain ⟨i0,hi0,hz0,hz1,hz2⟩:=info_parts (show (Tryz.prog.info? 5).map (fun i=>(i.zero,i.size,i.bytes))=some (some (.int .u8 0),1,1) by kernel_rfl)
 go_enter Tryz.func81,Tryz.ntmps81
 go_wp2_with fail
 go_step3
 go_wp2_with fail
 go_step3
 go_wp2_with fail
 go_loopg [1,7] (s.size+1) (fun k v t wr=>∃ (a:Nat) (cs:List UInt8),a≤s.size∧s.size+1≤a+k∧v = .int .i64 a∧Below w.heap.size w wr∧wr.ownsRow w.heap.size 5 1 t cs.length (Lib.byteCells cs)∧cs.length+4 * k≤100000000∧strL s k a cs=R)
 case atStart=>exact ⟨a0+1,[],by omega,by omega,rfl,Below.refl _ _,World.ownsRow_nil _ _ _ _,by simp;omega,HR.out⟩
 case round =>
  obtain ⟨a,cs,ha,hk,rfl,hb,hown,hlen,hr⟩:=hrel
  match gk,hk,hr,hlen with
  | 0,hk,hr,hlen=>omega
  | k+1,hk,hr,hlen =>
   rw [strL] at hr
   by_cases hz:s.size≤a
   ·rw [if_pos hz] at hr
    have hz':¬ (a:Int) < (s.size:Int):=by omega
    have HR2:Hid _:=hr
    clear hr hz
    go_wp2_with fail
    go_ret3
    rw [← HR2.out]
    exact ⟨hb,_,rfl,rfl⟩
   ·rw [if_neg hz] at hr
    have hl':(a:Int) < (s.size:Int):=by omega
    have p0:(0:Int)≤(a:Int):=by omega
    have hlt:a < s.size:=by omega
    clear hz
    obtain ⟨b0,b1⟩:=byte_range s a
    have eb:=byte_at hlt
    rw [eb] at hr b0 b1
    clear eb
    by_cases n0:(s[a].toNat:Int)=34
    ·rw [if_pos n0] at hr
     have t0:((s[a].toNat:Int) == 34)=true:=by simpa using n0
     have HR2:Hid _:=hr
     clear hr n0
     by_cases hne:cs=[]
     ·subst hne
      rcases hown.2 with ⟨rfl,_⟩ | ⟨g,cap,cur,rfl,hg,hbb,hn,hmm,hss,htt⟩
      ·have hcv:=conv_nil wr
       go_wp2_with fail
       try simp only [Exit.noGoto]
       go_ret3
       rw [← HR2.out]
       exact ⟨hb,_,rfl,rfl⟩
      ·have hcv:=run_convert_bytes_back (P:=Tryz.prog) wr 50 9 5 ⟨g,0,none⟩ cap [] Tryz.underlying50 Tryz.underlying5 Tryz.underlying9 (fun j hj=>absurd hj (by simp))
       simp only [List.length_nil] at hcv ⊢
       go_wp2_with fail
       try simp only [Exit.noGoto]
       go_ret3
       rw [← HR2.out]
       exact ⟨hb,_,rfl,rfl⟩
     ·obtain ⟨g,c,rfl,hc⟩:=owns_bytes hown hne
      have hcv:=run_convert_bytes_back (P:=Tryz.prog) wr 50 9 5 ⟨g,0,none⟩ c cs Tryz.underlying50 Tryz.underlying5 Tryz.underlying9 hc
      go_wp2_with fail
      try simp only [Exit.noGoto]
      go_ret3
      rw [← HR2.out]
      exact ⟨hb,_,rfl,rfl⟩
    ·rw [if_neg n0] at hr
     have t0:((s[a].toNat:Int) == 34)=false:=by simpa using n0
     clear n0
     by_cases n1:(s[a].toNat:Int) < 32
     ·rw [if_pos n1] at hr
      have HR2:Hid _:=hr
      clear hr
      go_wp2_with fail
      simp only [Exit.noGoto]
      go_ret3
      rw [← HR2.out]
      exact ⟨hb,_,rfl,rfl⟩
     ·rw [if_neg n1] at hr
      by_cases n2:(s[a].toNat:Int)=92
      ·rw [if_pos n2] at hr
       have t2:((s[a].toNat:Int) == 92)=true:=by simpa using n2
       clear n2
       have hE:=escape_ok s a hlt (by omega)
       obtain ⟨E,hEe⟩:∃ E,escV s a=E:=⟨_,rfl⟩
       rw [hEe] at hr
       simp only [hEe] at hE
       have HE:Hid _:=hEe
       clear hEe
       obtain ⟨r,q,ok⟩:=E
       cases ok with
       | false =>
        have HR2:Hid _:=hr
        clear hr
        go_wp2_with (go_at_call 134;refine (hE _).mono ?_;rintro e w1 ⟨rfl,m,rfl⟩)
        simp only [Exit.noGoto]
        go_ret3
        rw [← HR2.out]
        exact ⟨hb.trans (belowD _ _ _),_,rfl,rfl⟩
       | true =>
        obtain ⟨g0,g1,q',hq,hq1,hq2⟩:=(HE.out ▸ esc_good hlt) rfl
        simp only at g0 g1 hq
        subst hq
        simp only [if_true,Int.toNat_natCast] at hr
        have HR2:Hid _:=hr
        clear hr
        obtain ⟨ra,rl,rc,rfl⟩:=owns_shape hown
        go_wp2_with (first
         | (go_at_call 134;refine (hE _).mono ?_;rintro e w1 ⟨rfl,m,rfl⟩)
         | (go_at_call 135;refine (hA w.heap.size cs.length r _ (Lib.byteCells cs) _ (by omega) (by omega) (by exact hown) (by exact hb.size) (by omega)).mono ?_;rintro e w2 ⟨v2,rfl,hown2,hb2⟩))
        go_roundg k
        case measure=>omega
        case rel=>exact ⟨q',cs ++ Lib.encodeRune r,hq2,by omega,rfl,(hb.trans (belowD _ _ m)).trans hb2,by rw [List.length_append,← Lib.runeCells_length,show Lib.byteCells (cs ++ Lib.encodeRune r)=Lib.byteCells cs ++ Lib.runeCells r by rw [← Lib.byteCells_encodeRune];simp [Lib.byteCells]];exact hown2,by have:=(Lib.runeCells_le r).2;rw [List.length_append,← Lib.runeCells_length];omega,HR2.out⟩
      ·rw [if_neg n2] at hr
       have t2:((s[a].toNat:Int) == 92)=false:=by simpa using n2
       clear n2
       have hF:=following_ok (s[a].toNat:Int) b0 b1
       have hFr:=follow_range (s[a].toNat:Int)
       obtain ⟨F,hFe⟩:∃ F,followV (s[a].toNat:Int)=F:=⟨_,rfl⟩
       rw [hFe] at hr hFr
       simp only [hFe] at hF
       clear hFe
       obtain ⟨lo,hi,more⟩:=F
       simp only at hFr hF hr
       rcases hFr with rfl | ⟨m,hm3,rfl⟩
       ·rw [if_pos (by omega)] at hr
        have HR2:Hid _:=hr
        clear hr
        go_wp2_with (go_at_call 136;refine (hF _).mono ?_;rintro e w1 ⟨rfl,hw⟩;subst w1)
        simp only [Exit.noGoto]
        go_ret3
        rw [← HR2.out]
        exact ⟨hb,_,rfl,rfl⟩
       ·rw [if_neg (by omega)] at hr
        simp only [Int.toNat_natCast] at hr
        obtain ⟨T,hT⟩:∃ T,tailL s m (a+1) lo hi=T:=⟨_,rfl⟩
        rw [hT] at hr
        have HT:Hid _:=hT
        have HR2:Hid _:=hr
        clear hT hr
        have hm0:¬ (m:Int) < 0:=by omega
        obtain ⟨ra,rl,rc,rfl⟩:=owns_shape hown
        go_wp2_with (first
         | (go_at_call 136;refine (hF _).mono ?_;rintro e w1 ⟨rfl,hw⟩;subst w1)
         | (refine wpList_append_lies _ (by rfl) _ _ _ (by rfl) w.heap.size 5 i0 _ 1 1 Tryz.underlying50 hi0 hz0 hz1 hz2 rfl (by omega) _ cs.length (Lib.byteCells cs) (by rfl) (hown.alloc _) ⟨wr.heap.size,0,none⟩ 1 1 [.int .u8 (s[a].toNat:Int)] (by rfl) (by rfl) (World.news_of_block (cs:=#[.int .u8 (s[a].toNat:Int)]) (t:=5) (fr:=(0,0)) (heap_new wr _)) (by simp [Value.oneCell']) (by omega) (by unfold maxLen;omega) (by omega) (by have:=hb.size;simp;omega) (wr.heap.size+1) (by simp) ?_;intro g4 cap4 w4 hown4 hgrow4 hat4 hlt4))
        have hb4:Below w.heap.size w w4:=(hb.alloc (by have:=hb.size;omega) _).grown hgrow4 (by have:=hb.size;simp;omega) (fun q hq=>(hown.lt q hq).1)
        go_loopg [1,7,12,13,39] m (fun kk v1 v7 v12 v13 v39 wr2=>∃ (j p:Nat) (lo2 hi2:Int),j+kk=m∧p=a+1+j∧p≤s.size∧v1 = .int .i64 p∧v39 = .int .i64 j∧v12 = .int .u8 lo2∧v13 = .int .u8 hi2∧Below w.heap.size w wr2∧wr2.ownsRow w.heap.size 5 1 v7 (cs.length+(j+1)) (Lib.byteCells (cs ++ (s.data.toList.drop a).take (j+1)))∧tailL s kk p lo2 hi2=T)
        case atStart =>
         refine ⟨0,a+1,lo,hi,by omega,rfl,by omega,by go_num,rfl,rfl,rfl,hb4,?_,HT.out⟩
         have e1:=take_one s a 0 (by omega)
         rw [e1]
         simpa [Lib.byteCells] using hown4
        case round =>
         clear hown4 hgrow4 hat4 hlt4 hb4 hown hb
         obtain ⟨j,p,lo2,hi2,hjm,hp,hps,rfl,rfl,rfl,rfl,hb,hown,hT⟩:=hrel
         have HP:Hid _:=hp
         clear hp
         match gk,hjm,hT with
         | 0,hjm,hT =>
          obtain rfl:j=m:=by omega
          have hjj:¬ (j:Int) < (j:Int):=by omega
          have hT:(p,true)=T:=hT
          have HT2:Hid _:=hT
          clear hT
          go_wp2_with fail
          go_roundg k
          case measure=>omega
          case rel =>
           have hr:=HR2.out
           rw [← HT2.out] at hr
           simp only [if_true] at hr
           have hpe:p - a=j+1:=by have:=HP.out;omega
           rw [hpe] at hr
           have hl:(cs ++ (s.data.toList.drop a).take (j+1)).length=cs.length+(j+1):=by
            simp only [List.length_append,List.length_take,List.length_drop,size_list]
            have:=HP.out
            omega
           exact ⟨p,_,hps,by have:=HP.out;omega,rfl,hb,by rw [hl];exact hown,by rw [hl];omega,hr⟩
         | kk+1,hjm,hT =>
          rw [tailL] at hT
          have hjm':(j:Int) < (m:Int):=by omega
          by_cases hz:p=s.size
          ·rw [if_pos hz] at hT
           have hz':(p:Int)=(s.size:Int):=by omega
           have HT2:Hid _:=hT
           have HZ:Hid _:=hz
           clear hT hz
           go_wp2_with fail
           simp only [Exit.noGoto]
           go_ret3
           have hr:=HR2.out
           rw [← HT2.out] at hr
           simp only [Bool.false_eq_true,if_false] at hr
           rw [← hr]
           exact ⟨hb,_,by rw [HZ.out];rfl,rfl⟩
          ·rw [if_neg hz] at hT
           have hz':¬ (p:Int)=(s.size:Int):=by omega
           have hl2:(p:Int) < (s.size:Int):=by omega
           have hp0:(0:Int)≤(p:Int):=by omega
           have hplt:p < s.size:=by omega
           clear hz
           rw [byte_at hplt] at hT
           by_cases m0:(s[p].toNat:Int) < lo2
           ·rw [if_pos m0] at hT
            have HT2:Hid _:=hT
            clear hT
            go_wp2_with fail
            simp only [Exit.noGoto]
            go_ret3
            have hr:=HR2.out
            rw [← HT2.out] at hr
            simp only [Bool.false_eq_true,if_false] at hr
            rw [← hr]
            exact ⟨hb,_,rfl,rfl⟩
           ·rw [if_neg m0] at hT
            by_cases m1:hi2 < (s[p].toNat:Int)
            ·rw [if_pos m1] at hT
             have HT2:Hid _:=hT
             clear hT
             go_wp2_with fail
             try simp only [Exit.noGoto]
             go_ret3
             have hr:=HR2.out
             rw [← HT2.out] at hr
             simp only [Bool.false_eq_true,if_false] at hr
             rw [← hr]
             exact ⟨hb,_,rfl,rfl⟩
            ·rw [if_neg m1] at hT
             have HT2:Hid _:=hT
             clear hT
             obtain ⟨sa,sl,sc,rfl⟩:=owns_shape hown
             go_wp2_with (refine wpList_append_lies _ (by rfl) _ _ _ (by rfl) w.heap.size 5 i0 _ 1 1 Tryz.underlying50 hi0 hz0 hz1 hz2 rfl (by omega) _ (cs.length+(j+1)) (Lib.byteCells (cs ++ (s.data.toList.drop a).take (j+1))) (by rfl) (hown.alloc _) ⟨wr.heap.size,0,none⟩ 1 1 [.int .u8 (s[p].toNat:Int)] (by rfl) (by rfl) (World.news_of_block (cs:=#[.int .u8 (s[p].toNat:Int)]) (t:=5) (fr:=(0,0)) (heap_new wr _)) (by simp [Value.oneCell']) (by omega) (by unfold maxLen;omega) (by omega) (by have:=hb.size;simp;omega) (wr.heap.size+1) (by simp) ?_;intro g4 cap4 w4 hown4 hgrow4 hat4 hlt4)
             go_roundg kk
             case measure=>omega
             case rel =>
              refine ⟨j+1,p+1,128,191,by omega,by have:=HP.out;omega,by omega,by go_num,by go_num,rfl,rfl,?_,?_,HT2.out⟩
              ·exact (hb.alloc (by have:=hb.size;omega) _).grown hgrow4 (by have:=hb.size;simp;omega) (fun q hq=>(hown.lt q hq).1)
              ·have hpa:a+(j+1)=p:=by have:=HP.out;omega
               have e1:=take_one s a (j+1) (by omega)
               rw [e1]
               have e2:s[a+(j+1)]'(by omega)=s[p]:=by simp only [hpa]
               rw [e2]
               simpa [Lib.byteCells,Nat.add_assoc] using hown4
structure Va (w:World) (vb:Nat) (s:ByteArray) (a:Nat):Prop where
 text:w.cell? ⟨vb,0,none⟩=some (.string s)
 pos:w.cell? ⟨vb,1,none⟩=some (.int .i64 a)
 free:w.frozen? ⟨vb,1,none⟩=false
 le:a≤s.size
 max:s.size≤10000000
theorem VBlk.va {w:World}{vb a:Nat}{s:ByteArray}{ov:Value} (h:VBlk w vb s a ov) (hle:a≤s.size) (hm:s.size≤10000000):Va w vb s a:=by
 obtain ⟨c0,c1,c2,f0,f1,f2,hl⟩:=three_facts' h
 exact ⟨c0,c1,f1,hle,hm⟩
theorem nextV_ok {w:World}{vb a:Nat}{s:ByteArray} (h:Va w vb s a) :
  Calls Tryz.prog 28 #[.pointer (some ⟨vb,0,none⟩)] w fun e w'=>e = .returned (.int .u8 (byteAt s a))∧∃ n,w'=w.drewN n:=by
 obtain ⟨h0,h1,_,hle,hmax⟩:=h
 by_cases hlt:a < s.size
 ·have e:byteAt s a=(s[a].toNat:Int):=by simp only [byteAt,at_list s a hlt]
  rw [e]
  clear e
  have hne:¬ (a:Int)=(s.size:Int):=by omega
  have hl':(a:Int) < (s.size:Int):=by omega
  have ha0:(0:Int)≤(a:Int):=by omega
  go_enter Tryz.func28,Tryz.ntmps28
  go_wp2_with fail
  go_quiet (fail)
  go_wp2_with fail
  go_quiet (fail)
  go_wp2_with fail
  go_ret
  exact ⟨rfl,_,drewN_two _ _ _⟩
 ·have he:a=s.size:=by omega
  have e:byteAt s a=0:=by simp only [byteAt,List.getElem?_eq_none (show s.data.toList.length≤a by rw [size_list];omega)]
  rw [e]
  clear e
  have hq:(a:Int)=(s.size:Int):=by omega
  subst he
  clear hq hlt
  go_enter Tryz.func28,Tryz.ntmps28
  go_wp2_with fail
  go_quiet (fail)
  go_wp2_with fail
  go_ret
  exact ⟨rfl,_,rfl⟩
def blankB (c:Int):Bool:=c == 32 || c == 9 || c == 10 || c == 13
def blanksV (s:ByteArray):Nat→Nat→Nat
 | 0,a=>a
 | k+1,a=>if blankB (byteAt s a) then blanksV s k (a+1) else a
theorem blank_lt {s:ByteArray}{a:Nat} (h:blankB (byteAt s a)=true):a < s.size:=by
 rcases Nat.lt_or_ge a s.size with h' | h'
 ·exact h'
 ·rw [show byteAt s a=0 by simp only [byteAt,List.getElem?_eq_none (show s.data.toList.length≤a by rw [size_list];omega)]] at h
  cases h
theorem skipV_ok {w:World}{vb a0:Nat}{s:ByteArray}{ov:Value} (h:VBlk w vb s a0 ov) (hle:a0≤s.size) (hm:s.size≤10000000) :
  Calls Tryz.prog 26 #[.pointer (some ⟨vb,0,none⟩)] w fun e w'=>e = .returned (.tuple #[])∧VBlk w' vb s (blanksV s (s.size+1) a0) ov∧Fr (· = vb) w w':=by
 obtain ⟨R,hR⟩:∃ R,blanksV s (s.size+1) a0=R:=⟨_,rfl⟩
 rw [hR]
 have HR:Hid _:=hR
 clear hR
 go_enter Tryz.func26,Tryz.ntmps26
 go_wp2_with fail
 go_loopg [2] (s.size+1) (fun k v wr=>∃ a:Nat,a≤s.size∧s.size+1≤a+k∧VBlk wr vb s a ov∧Fr (· = vb) w wr∧blanksV s k a=R)
 case atStart=>exact ⟨a0,hle,by omega,h,Fr.refl _ _,HR.out⟩
 case round =>
  obtain ⟨a,ha,hk,hv,hfr,hr⟩:=hrel
  obtain ⟨v0,v1,v2,g0,g1,g2,vl⟩:=three_facts' hv
  have hvA:=hv.va ha hm
  match gk,hk,hr with
  | 0,hk,hr=>omega
  | k+1,hk,hr =>
   rw [blanksV] at hr
   cases hb:blankB (byteAt s a) with
   | true =>
    simp only [hb,if_true] at hr
    have hlt:=blank_lt hb
    have HR2:Hid _:=hr
    clear hr
    have hc:byteAt s a=32∨byteAt s a=9∨byteAt s a=10∨byteAt s a=13:=by
     simp only [blankB,Bool.or_eq_true,beq_iff_eq] at hb
     omega
    clear hb
    rcases hc with hc | hc | hc | hc
    all_goals
     go_wp2_with (go_at_call 28;refine (nextV_ok hvA).mono ?_;rintro e w1 ⟨rfl,m,rfl⟩;rw [hc])
     go_roundg k
     case measure=>omega
     case rel=>exact ⟨a+1,by omega,by omega,(hv.drewN _).set,(hfr.drewN _).setCell _ (.inl rfl),HR2.out⟩
   | false =>
    simp only [hb] at hr
    have HR2:Hid _:=hr
    clear hr
    have hc:¬ byteAt s a=32∧¬ byteAt s a=9∧¬ byteAt s a=10∧¬ byteAt s a=13:=by
     simp only [blankB,Bool.or_eq_false_iff,beq_eq_false_iff_ne] at hb
     omega
    clear hb
    obtain ⟨b1,b2,b3,b4⟩:=hc
    go_wp2_with (go_at_call 28;refine (nextV_ok hvA).mono ?_;rintro e w1 ⟨rfl,m,rfl⟩)
    refine bodyPost_ret (v:=.tuple #[]) (by simp [results,Tryz.results26,go_sem]) rfl ⟨rfl,?_,hfr.drewN _⟩
    have:a=R:=by simpa using HR2.out
    subst this
    exact hv.drewN _
def wordV (s wd:ByteArray):Nat→Nat→Nat→Nat×Bool
 | 0,_,a=>(a,true)
 | k+1,i,a=>if byteAt s a=byteAt wd i then wordV s wd k (i+1) (a+1) else (a,false)
def orNil (b:Bool) (v:Value):Value:=if b then v else .nilIface
theorem Va.drewN {w:World}{vb a:Nat}{s:ByteArray} (h:Va w vb s a) (n:Nat):Va (w.drewN n) vb s a:=⟨h.text,h.pos,h.free,h.le,h.max⟩
theorem byte_pos {s:ByteArray}{a:Nat} (h:byteAt s a≠0):a < s.size:=by
 rcases Nat.lt_or_ge a s.size with h' | h'
 ·exact h'
 ·exact absurd (show byteAt s a=0 by simp only [byteAt,List.getElem?_eq_none (show s.data.toList.length≤a by rw [size_list];omega)]) h
theorem word_ok {w:World}{vb a0 T:Nat}{u:Value}{s wd:ByteArray}{ov:Value} (h:VBlk w vb s a0 ov) (hle:a0≤s.size) (hm:s.size≤10000000) (hw:wd.size≤100) (hz:∀ i,i < wd.size→byteAt wd i≠0) :
  Calls Tryz.prog 68 #[.pointer (some ⟨vb,0,none⟩),.string wd,.iface T u] w fun e w'=>e = .returned (.tuple #[orNil (wordV s wd wd.size 0 a0).2 (.iface T u),.bool (wordV s wd wd.size 0 a0).2])∧VBlk w' vb s (wordV s wd wd.size 0 a0).1 ov∧Fr (· = vb) w w':=by
 obtain ⟨R,hR⟩:∃ R,wordV s wd wd.size 0 a0=R:=⟨_,rfl⟩
 rw [hR]
 have HR:Hid _:=hR
 clear hR
 go_enter Tryz.func68,Tryz.ntmps68
 go_wp2_with fail
 go_loopg [11] wd.size (fun k v wr=>∃ (i a:Nat),i+k=wd.size∧a≤s.size∧v = .int .i64 i∧VBlk wr vb s a ov∧Fr (· = vb) w wr∧wordV s wd k i a=R)
 case atStart=>exact ⟨0,a0,by omega,hle,rfl,h,Fr.refl _ _,HR.out⟩
 case round =>
  obtain ⟨i,a,hik,ha,rfl,hv,hfr,hr⟩:=hrel
  obtain ⟨v0,v1,v2,g0,g1,g2,vl⟩:=three_facts' hv
  have hvA:=hv.va ha hm
  match gk,hik,hr with
  | 0,hik,hr =>
   have hi':¬ (i:Int) < (wd.size:Int):=by omega
   have HR2:Hid _:=hr
   clear hr
   go_wp2_with fail
   go_ret2
   rw [← HR2.out]
   exact ⟨rfl,hv,hfr⟩
  | k+1,hik,hr =>
   have hilt:i < wd.size:=by omega
   have hi':(i:Int) < (wd.size:Int):=by omega
   have hi0:(0:Int)≤(i:Int):=by omega
   have hnz:=hz i hilt
   rw [wordV] at hr
   rw [byte_at hilt] at hr hnz
   by_cases hc:byteAt s a=(wd[i].toNat:Int)
   ·rw [if_pos hc] at hr
    have hlt:a < s.size:=byte_pos (by rw [hc];exact hnz)
    have t1:(byteAt s a != (wd[i].toNat:Int))=false:=by simpa using hc
    have HR2:Hid _:=hr
    clear hr hc hnz
    go_wp2_with fail
    go_quiet ((go_at_call 28;exact Calls.quiet_of (nextV_ok (Va.drewN hvA _))))
    go_wp2_with fail
    go_roundg k
    case measure=>omega
    case rel=>exact ⟨i+1,a+1,by omega,by omega,by go_num,(hv.drewN _).set,(hfr.drewN _).setCell _ (.inl rfl),HR2.out⟩
   ·rw [if_neg hc] at hr
    have t1:(byteAt s a != (wd[i].toNat:Int))=true:=by simpa using hc
    have HR2:Hid _:=hr
    clear hr hc hnz
    go_wp2_with fail
    go_quiet ((go_at_call 28;exact Calls.quiet_of (nextV_ok (Va.drewN hvA _))))
    go_wp2_with fail
    go_ret2
    rw [← HR2.out]
    exact ⟨rfl,hv.drewN _,hfr.drewN _⟩
def digB (c:Int):Bool:=decide (48≤c) && decide (c≤57)
def digsV (s:ByteArray):Nat→Nat→Nat
 | 0,a=>a
 | k+1,a=>if digB (byteAt s a) then digsV s k (a+1) else a
def numEnd (s:ByteArray) (a:Nat):Nat:=if byteAt s a=48 then a+1 else digsV s (s.size+1) (a+1)
def parsedV (l:List UInt8):Option Int:=match Lib.parseIntB 64 l with
 | .ok v=>some v
 | _=>none
def numP:Option Int→Nat→Nat→Option Int×Nat
 | some n,_,e=>(some n,e)
 | none,a,_=>(none,a)
def numAt (s:ByteArray) (a b:Nat):Option Int×Nat :=
 if digB (byteAt s b) then
  numP (parsedV (s.extract a (numEnd s b)).data.toList) a (numEnd s b)
 else (none,b)
def numL (s:ByteArray) (a:Nat):Option Int×Nat:=numAt s a (if byteAt s a=45 then a+1 else a)
def numO:Option Int→Value
 | some n=>numV n
 | none=>.nilIface
def parsedE:Option Int→Ending→Prop
 | some v,e=>e = .returned (.tuple #[.int .i64 v,.nilIface])
 | none,e=>∃ x T p,e = .returned (.tuple #[.int .i64 x,.iface T p])
def ParsesAt (w:World):Prop:=∀ s:ByteArray,s.size≤10000000→Calls Tryz.prog 130 #[.string s,.int .i64 10,.int .i64 64] w fun e w'=>parsedE (parsedV s.data.toList) e∧Below w.heap.size w w'
theorem dig_lt {s:ByteArray}{a:Nat} (h:digB (byteAt s a)=true):a < s.size:=by
 refine byte_pos (fun e=>?_)
 rw [e] at h
 simp [digB] at h
theorem digs_ge (s:ByteArray):∀ (k a:Nat),a≤digsV s k a
 | 0,a=>Nat.le_refl _
 | k+1,a=>by
  unfold digsV
  split
  ·have:=digs_ge s k (a+1);omega
  ·exact Nat.le_refl _
theorem digs_le (s:ByteArray):∀ (k a:Nat),a≤s.size→digsV s k a≤s.size
 | 0,a,h=>h
 | k+1,a,h=>by
  unfold digsV
  split
  ·rename_i hd
   exact digs_le s k (a+1) (dig_lt hd)
  ·exact h
theorem Fr.lowN {D:Nat→Prop}{n:Nat}{a w w':World} (h:Fr D w w') (hD:∀ k,D k→n≤k) (hb:Below n a w) (hn:n≤w.heap.size):Below n a w' :=
 hb.trans ⟨h.os,h.tape,h.output,h.size,fun k hk=>h.block k (by omega) (fun e=>by have:=hD k e;omega)⟩
theorem numEnd_range {s:ByteArray}{b:Nat} (h:digB (byteAt s b)=true):b < numEnd s b∧numEnd s b≤s.size:=by
 have hb:=dig_lt h
 unfold numEnd
 split
 ·omega
 ·have:=digs_ge s (s.size+1) (b+1)
  have:=digs_le s (s.size+1) (b+1) hb
  omega
theorem number_ok {w w0:World}{vb a:Nat}{s:ByteArray}{ov:Value} (hP:∀ w',Below vb w0 w'→ParsesAt w') (hb:Below vb w0 w) (h:VBlk w vb s a ov) (ha:a≤s.size) (hm:s.size≤10000000) :
  Calls Tryz.prog 72 #[.pointer (some ⟨vb,0,none⟩)] w fun e w'=>e = .returned (.tuple #[numO (numL s a).1,.bool (numL s a).1.isSome])∧VBlk w' vb s (numL s a).2 ov∧Fr (· = vb) w w':=by
 obtain ⟨c0,c1,c2,f0,f1,f2,hl⟩:=three_facts' h
 have h0:=h.va ha hm
 by_cases h45:byteAt s a=45
 ·have n45:(byteAt s a == 45)=true:=by simpa using h45
  have hlt:a < s.size:=byte_pos (by rw [h45];omega)
  unfold numL
  rw [if_pos h45]
  clear h45
  have vs:∀ m m',Va (((w.drewN m).setCell ⟨vb,1,none⟩ (.int .i64 ((a:Int)+1))).drewN m') vb s (a+1):=fun m m'=>VBlk.va (a:=a+1) (((h.drewN m).set (b:=a+1)).drewN m') (by omega) hm
  have vs0:∀ m,Va ((w.drewN m).setCell ⟨vb,1,none⟩ (.int .i64 ((a:Int)+1))) vb s (a+1):=fun m=>VBlk.va (a:=a+1) ((h.drewN m).set (b:=a+1)) (by omega) hm
  obtain ⟨R,hR⟩:∃ R,numAt s a (a+1)=R:=⟨_,rfl⟩
  rw [hR]
  have HR:Hid _:=hR
  clear hR
  cases hd:digB (byteAt s (a+1)) with
  | false =>
   have hr:numAt s a (a+1)=(none,(a+1)):=by unfold numAt;rw [hd];rfl
   have HR2:Hid _:=hr
   have hd':(decide (48≤byteAt s (a+1)) && decide (byteAt s (a+1)≤57))=false:=hd
   clear hr hd
   go_enter Tryz.func72,Tryz.ntmps72
   go_wp2_with (first
    | (go_at_call 28;refine (nextV_ok h0).mono ?_;rintro e w1 ⟨rfl,m,rfl⟩)
    | (go_at_call 28;refine (nextV_ok (a:=a+1) (by first | exact vs0 _ | exact vs _ _)).mono ?_;rintro e w1 ⟨rfl,m,rfl⟩)
    | (go_at_call 71;refine (vIsDigit_any _ _).mono ?_;rintro e w1 ⟨rfl,hw⟩;subst w1;rw [hd']))
   go_ret2
   rw [← HR.out,HR2.out]
   exact ⟨rfl,((h.drewN _).set (b:=a+1)).drewN _,(((Fr.refl (· = vb) w).drewN _).setCell _ (.inl rfl)).drewN _⟩
  | true =>
   have hbl:=dig_lt hd
   obtain ⟨E,hE⟩:∃ E,numEnd s (a+1)=E:=⟨_,rfl⟩
   have hEr:=numEnd_range hd
   rw [hE] at hEr
   obtain ⟨O,hO⟩:∃ O,parsedV (s.extract a E).data.toList=O:=⟨_,rfl⟩
   have hr:numAt s a (a+1)=numP O a E:=by unfold numAt;rw [hd,hE,hO];rfl
   have HR2:Hid _:=hr
   have hd':(decide (48≤byteAt s (a+1)) && decide (byteAt s (a+1)≤57))=true:=hd
   clear hr hd
   obtain ⟨e1,e2⟩:=hEr
   have HO:Hid _:=hO
   clear hO
   have q0:(0:Int)≤(a:Int):=by omega
   have q1:(a:Int)≤(E:Int):=by omega
   have q2:(E:Int)≤(s.size:Int):=by omega
   have hes:(s.extract a E).size≤10000000:=by simp [ByteArray.size_extract];omega
   by_cases h48:byteAt s (a+1)=48
   ·have n48:(byteAt s (a+1) != 48)=false:=by simpa using h48
    have hE2:(a+1)+1=E:=by rw [← hE];unfold numEnd;rw [if_pos h48]
    have HE2:Hid _:=hE2
    clear hE2 hE h48
    go_enter Tryz.func72,Tryz.ntmps72
    go_wp2_with (first
     | (go_at_call 28;refine (nextV_ok h0).mono ?_;rintro e w1 ⟨rfl,m,rfl⟩)
     | (go_at_call 28;refine (nextV_ok (a:=a+1) (by first | exact vs0 _ | exact vs _ _)).mono ?_;rintro e w1 ⟨rfl,m,rfl⟩)
     | (go_at_call 71;refine (vIsDigit_any _ _).mono ?_;rintro e w1 ⟨rfl,hw⟩;subst w1;rw [hd']))
    go_loopg [41] (s.size+1) (fun k v wr=>∃ j:Nat,j≤s.size∧s.size+1≤j+k∧VBlk wr vb s j ov∧Fr (· = vb) w wr∧j=E)
    case atStart=>exact ⟨(a+1)+1,by omega,by omega,(((h.drewN _).set (b:=a+1)).drewN _).set (b:=(a+1)+1),((((Fr.refl (· = vb) w).drewN _).setCell _ (.inl rfl)).drewN _).setCell _ (.inl rfl),HE2.out⟩
    case round =>
     obtain ⟨j,hj1,hj2,hv,hfr,hj3⟩:=hrel
     obtain ⟨v0,v1,v2,g0,g1,g2,vl⟩:=three_facts' hv
     have hvA:=hv.va hj1 hm
     subst hj3
     go_wp2_with fail
     have hbb:Below vb w0 wr:=hfr.lowN (fun _ e=>by omega) hb (by omega)
     cases O with
     | some n =>
      go_region_held3 (fun w'=>w'.cell? ⟨vb,0,none⟩=some (.string s)∧w'.cell? ⟨vb,1,none⟩=some (.int .i64 j)∧w'.frozen? ⟨vb,1,none⟩=false) (first | exact e4 | go_keep)
       (first | (go_at_call 130;refine (hP _ (by first | exact hbb | exact hbb.trans (belowD _ _ _) | exact (hbb.trans (belowD _ _ _)).trans (belowD _ _ _)) _ hes).mono ?_;rw [HO.out];rintro e w1 ⟨rfl,k1⟩;have e4:w1.cell? ⟨vb,0,none⟩=some (.string s)∧w1.cell? ⟨vb,1,none⟩=some (.int .i64 j)∧w1.frozen? ⟨vb,1,none⟩=false:=⟨(k1.cell (p:=⟨vb,0,none⟩) (by simpa using vl)).trans (by simpa using v0),(k1.cell (p:=⟨vb,1,none⟩) (by simpa using vl)).trans (by simpa using v1),(World.frozen?_of_block (k1.block vb (by simpa using vl))).trans (by simpa using g1)⟩))
      go_wp2_with fail
      refine bodyPost_ret (v:=.tuple #[numV n,.bool true]) (by simp [results,Tryz.results72,go_sem]) rfl ?_
      rw [← HR.out,HR2.out]
      exact ⟨rfl,hv.same (k1.block _ (by simpa using vl)),(hfr.drewN _).trans (Fr.of_below (D:=(· = vb)) k1) (fun _ _ e=>e)⟩
     | none =>
      go_region_held3 (fun w'=>w'.cell? ⟨vb,0,none⟩=some (.string s)∧w'.cell? ⟨vb,1,none⟩=some (.int .i64 j)∧w'.frozen? ⟨vb,1,none⟩=false) (first | exact e4 | go_keep)
       (first | (go_at_call 130;refine (hP _ (by first | exact hbb | exact hbb.trans (belowD _ _ _) | exact (hbb.trans (belowD _ _ _)).trans (belowD _ _ _)) _ hes).mono ?_;rw [HO.out];rintro e w1 ⟨⟨x,T,pp,rfl⟩,k1⟩;have e4:w1.cell? ⟨vb,0,none⟩=some (.string s)∧w1.cell? ⟨vb,1,none⟩=some (.int .i64 j)∧w1.frozen? ⟨vb,1,none⟩=false:=⟨(k1.cell (p:=⟨vb,0,none⟩) (by simpa using vl)).trans (by simpa using v0),(k1.cell (p:=⟨vb,1,none⟩) (by simpa using vl)).trans (by simpa using v1),(World.frozen?_of_block (k1.block vb (by simpa using vl))).trans (by simpa using g1)⟩))
      go_wp2_with fail
      refine bodyPost_ret (v:=.tuple #[.nilIface,.bool false]) (by simp [results,Tryz.results72,go_sem]) rfl ?_
      rw [← HR.out,HR2.out]
      exact ⟨rfl,(hv.same (k1.block _ (by simpa using vl))).set,((hfr.drewN _).trans (Fr.of_below (D:=(· = vb)) k1) (fun _ _ e=>e)).setCell _ (.inl rfl)⟩
   ·have n48:(byteAt s (a+1) != 48)=true:=by simpa using h48
    have hE2:digsV s (s.size+1) ((a+1)+1)=E:=by rw [← hE];unfold numEnd;rw [if_neg h48]
    have HE2:Hid _:=hE2
    clear hE2 hE h48
    go_enter Tryz.func72,Tryz.ntmps72
    go_wp2_with (first
     | (go_at_call 28;refine (nextV_ok h0).mono ?_;rintro e w1 ⟨rfl,m,rfl⟩)
     | (go_at_call 28;refine (nextV_ok (a:=a+1) (by first | exact vs0 _ | exact vs _ _)).mono ?_;rintro e w1 ⟨rfl,m,rfl⟩)
     | (go_at_call 71;refine (vIsDigit_any _ _).mono ?_;rintro e w1 ⟨rfl,hw⟩;subst w1;rw [hd']))
    go_loopg [41] (s.size+1) (fun k v wr=>∃ j:Nat,j≤s.size∧s.size+1≤j+k∧VBlk wr vb s j ov∧Fr (· = vb) w wr∧digsV s k j=E)
    case atStart=>exact ⟨(a+1)+1,by omega,by omega,(((h.drewN _).set (b:=a+1)).drewN _).set (b:=(a+1)+1),((((Fr.refl (· = vb) w).drewN _).setCell _ (.inl rfl)).drewN _).setCell _ (.inl rfl),HE2.out⟩
    case round =>
     obtain ⟨j,hj1,hj2,hv,hfr,hj3⟩:=hrel
     obtain ⟨v0,v1,v2,g0,g1,g2,vl⟩:=three_facts' hv
     have hvA:=hv.va hj1 hm
     match gk,hj2,hj3 with
     | 0,hj2,hj3=>omega
     | k+1,hj2,hj3 =>
      rw [digsV] at hj3
      cases hdj:digB (byteAt s j) with
      | true =>
       have hdj':(decide (48≤byteAt s j) && decide (byteAt s j≤57))=true:=hdj
       have hjl:=dig_lt hdj
       simp only [hdj,if_true] at hj3
       have HJ:Hid _:=hj3
       clear hj3 hdj
       go_wp2_with (first
        | (go_at_call 28;refine (nextV_ok hvA).mono ?_;rintro e w1 ⟨rfl,m,rfl⟩)
        | (go_at_call 71;refine (vIsDigit_any _ _).mono ?_;rintro e w1 ⟨rfl,hw⟩;subst w1;rw [hdj']))
       go_roundg k
       case measure=>omega
       case rel=>exact ⟨j+1,by omega,by omega,(hv.drewN _).set,(hfr.drewN _).setCell _ (.inl rfl),HJ.out⟩
      | false =>
       have hdj':(decide (48≤byteAt s j) && decide (byteAt s j≤57))=false:=hdj
       simp only [hdj,if_false] at hj3
       obtain rfl:j=E:=by simpa using hj3
       clear hj3 hdj
       go_wp2_with (first
        | (go_at_call 28;refine (nextV_ok hvA).mono ?_;rintro e w1 ⟨rfl,m,rfl⟩)
        | (go_at_call 71;refine (vIsDigit_any _ _).mono ?_;rintro e w1 ⟨rfl,hw⟩;subst w1;rw [hdj']))
       have hbb:Below vb w0 wr:=hfr.lowN (fun _ e=>by omega) hb (by omega)
       cases O with
       | some n =>
        go_region_held3 (fun w'=>w'.cell? ⟨vb,0,none⟩=some (.string s)∧w'.cell? ⟨vb,1,none⟩=some (.int .i64 j)∧w'.frozen? ⟨vb,1,none⟩=false) (first | exact e4 | go_keep)
         (first | (go_at_call 130;refine (hP _ (by first | exact hbb | exact hbb.trans (belowD _ _ _) | exact (hbb.trans (belowD _ _ _)).trans (belowD _ _ _)) _ hes).mono ?_;rw [HO.out];rintro e w1 ⟨rfl,k1⟩;have e4:w1.cell? ⟨vb,0,none⟩=some (.string s)∧w1.cell? ⟨vb,1,none⟩=some (.int .i64 j)∧w1.frozen? ⟨vb,1,none⟩=false:=⟨(k1.cell (p:=⟨vb,0,none⟩) (by simpa using vl)).trans (by simpa using v0),(k1.cell (p:=⟨vb,1,none⟩) (by simpa using vl)).trans (by simpa using v1),(World.frozen?_of_block (k1.block vb (by simpa using vl))).trans (by simpa using g1)⟩))
        go_wp2_with fail
        refine bodyPost_ret (v:=.tuple #[numV n,.bool true]) (by simp [results,Tryz.results72,go_sem]) rfl ?_
        rw [← HR.out,HR2.out]
        exact ⟨rfl,hv.same (k1.block _ (by simpa using vl)),(hfr.drewN _).trans (Fr.of_below (D:=(· = vb)) k1) (fun _ _ e=>e)⟩
       | none =>
        go_region_held3 (fun w'=>w'.cell? ⟨vb,0,none⟩=some (.string s)∧w'.cell? ⟨vb,1,none⟩=some (.int .i64 j)∧w'.frozen? ⟨vb,1,none⟩=false) (first | exact e4 | go_keep)
         (first | (go_at_call 130;refine (hP _ (by first | exact hbb | exact hbb.trans (belowD _ _ _) | exact (hbb.trans (belowD _ _ _)).trans (belowD _ _ _)) _ hes).mono ?_;rw [HO.out];rintro e w1 ⟨⟨x,T,pp,rfl⟩,k1⟩;have e4:w1.cell? ⟨vb,0,none⟩=some (.string s)∧w1.cell? ⟨vb,1,none⟩=some (.int .i64 j)∧w1.frozen? ⟨vb,1,none⟩=false:=⟨(k1.cell (p:=⟨vb,0,none⟩) (by simpa using vl)).trans (by simpa using v0),(k1.cell (p:=⟨vb,1,none⟩) (by simpa using vl)).trans (by simpa using v1),(World.frozen?_of_block (k1.block vb (by simpa using vl))).trans (by simpa using g1)⟩))
        go_wp2_with fail
        refine bodyPost_ret (v:=.tuple #[.nilIface,.bool false]) (by simp [results,Tryz.results72,go_sem]) rfl ?_
        rw [← HR.out,HR2.out]
        exact ⟨rfl,(hv.same (k1.block _ (by simpa using vl))).set,((hfr.drewN _).trans (Fr.of_below (D:=(· = vb)) k1) (fun _ _ e=>e)).setCell _ (.inl rfl)⟩
 ·have n45:(byteAt s a == 45)=false:=by simpa using h45
  unfold numL
  rw [if_neg h45]
  clear h45
  obtain ⟨R,hR⟩:∃ R,numAt s a a=R:=⟨_,rfl⟩
  rw [hR]
  have HR:Hid _:=hR
  clear hR
  cases hd:digB (byteAt s a) with
  | false =>
   have hr:numAt s a a=(none,a):=by unfold numAt;rw [hd];rfl
   have HR2:Hid _:=hr
   have hd':(decide (48≤byteAt s a) && decide (byteAt s a≤57))=false:=hd
   clear hr hd
   go_enter Tryz.func72,Tryz.ntmps72
   go_wp2_with (first
    | (go_at_call 28;refine (nextV_ok (by first | exact h0 | exact h0.drewN _)).mono ?_;rintro e w1 ⟨rfl,m,rfl⟩)
    | (go_at_call 71;refine (vIsDigit_any _ _).mono ?_;rintro e w1 ⟨rfl,hw⟩;subst w1;rw [hd']))
   go_ret2
   rw [← HR.out,HR2.out]
   exact ⟨rfl,h.drewN _,(Fr.refl (· = vb) w).drewN _⟩
  | true =>
   have hbl:=dig_lt hd
   obtain ⟨E,hE⟩:∃ E,numEnd s a=E:=⟨_,rfl⟩
   have hEr:=numEnd_range hd
   rw [hE] at hEr
   obtain ⟨O,hO⟩:∃ O,parsedV (s.extract a E).data.toList=O:=⟨_,rfl⟩
   have hr:numAt s a a=numP O a E:=by unfold numAt;rw [hd,hE,hO];rfl
   have HR2:Hid _:=hr
   have hd':(decide (48≤byteAt s a) && decide (byteAt s a≤57))=true:=hd
   clear hr hd
   obtain ⟨e1,e2⟩:=hEr
   have HO:Hid _:=hO
   clear hO
   have q0:(0:Int)≤(a:Int):=by omega
   have q1:(a:Int)≤(E:Int):=by omega
   have q2:(E:Int)≤(s.size:Int):=by omega
   have hes:(s.extract a E).size≤10000000:=by simp [ByteArray.size_extract];omega
   by_cases h48:byteAt s a=48
   ·have n48:(byteAt s a != 48)=false:=by simpa using h48
    have hE2:a+1=E:=by rw [← hE];unfold numEnd;rw [if_pos h48]
    have HE2:Hid _:=hE2
    clear hE2 hE h48
    go_enter Tryz.func72,Tryz.ntmps72
    go_wp2_with (first
     | (go_at_call 28;refine (nextV_ok (by first | exact h0 | exact h0.drewN _)).mono ?_;rintro e w1 ⟨rfl,m,rfl⟩)
     | (go_at_call 71;refine (vIsDigit_any _ _).mono ?_;rintro e w1 ⟨rfl,hw⟩;subst w1;rw [hd']))
    go_loopg [41] (s.size+1) (fun k v wr=>∃ j:Nat,j≤s.size∧s.size+1≤j+k∧VBlk wr vb s j ov∧Fr (· = vb) w wr∧j=E)
    case atStart=>exact ⟨a+1,by omega,by omega,(h.drewN _).set (b:=a+1),((Fr.refl (· = vb) w).drewN _).setCell _ (.inl rfl),HE2.out⟩
    case round =>
     obtain ⟨j,hj1,hj2,hv,hfr,hj3⟩:=hrel
     obtain ⟨v0,v1,v2,g0,g1,g2,vl⟩:=three_facts' hv
     have hvA:=hv.va hj1 hm
     subst hj3
     go_wp2_with fail
     have hbb:Below vb w0 wr:=hfr.lowN (fun _ e=>by omega) hb (by omega)
     cases O with
     | some n =>
      go_region_held3 (fun w'=>w'.cell? ⟨vb,0,none⟩=some (.string s)∧w'.cell? ⟨vb,1,none⟩=some (.int .i64 j)∧w'.frozen? ⟨vb,1,none⟩=false) (first | exact e4 | go_keep)
       (first | (go_at_call 130;refine (hP _ (by first | exact hbb | exact hbb.trans (belowD _ _ _) | exact (hbb.trans (belowD _ _ _)).trans (belowD _ _ _)) _ hes).mono ?_;rw [HO.out];rintro e w1 ⟨rfl,k1⟩;have e4:w1.cell? ⟨vb,0,none⟩=some (.string s)∧w1.cell? ⟨vb,1,none⟩=some (.int .i64 j)∧w1.frozen? ⟨vb,1,none⟩=false:=⟨(k1.cell (p:=⟨vb,0,none⟩) (by simpa using vl)).trans (by simpa using v0),(k1.cell (p:=⟨vb,1,none⟩) (by simpa using vl)).trans (by simpa using v1),(World.frozen?_of_block (k1.block vb (by simpa using vl))).trans (by simpa using g1)⟩))
      go_wp2_with fail
      refine bodyPost_ret (v:=.tuple #[numV n,.bool true]) (by simp [results,Tryz.results72,go_sem]) rfl ?_
      rw [← HR.out,HR2.out]
      exact ⟨rfl,hv.same (k1.block _ (by simpa using vl)),(hfr.drewN _).trans (Fr.of_below (D:=(· = vb)) k1) (fun _ _ e=>e)⟩
     | none =>
      go_region_held3 (fun w'=>w'.cell? ⟨vb,0,none⟩=some (.string s)∧w'.cell? ⟨vb,1,none⟩=some (.int .i64 j)∧w'.frozen? ⟨vb,1,none⟩=false) (first | exact e4 | go_keep)
       (first | (go_at_call 130;refine (hP _ (by first | exact hbb | exact hbb.trans (belowD _ _ _) | exact (hbb.trans (belowD _ _ _)).trans (belowD _ _ _)) _ hes).mono ?_;rw [HO.out];rintro e w1 ⟨⟨x,T,pp,rfl⟩,k1⟩;have e4:w1.cell? ⟨vb,0,none⟩=some (.string s)∧w1.cell? ⟨vb,1,none⟩=some (.int .i64 j)∧w1.frozen? ⟨vb,1,none⟩=false:=⟨(k1.cell (p:=⟨vb,0,none⟩) (by simpa using vl)).trans (by simpa using v0),(k1.cell (p:=⟨vb,1,none⟩) (by simpa using vl)).trans (by simpa using v1),(World.frozen?_of_block (k1.block vb (by simpa using vl))).trans (by simpa using g1)⟩))
      go_wp2_with fail
      refine bodyPost_ret (v:=.tuple #[.nilIface,.bool false]) (by simp [results,Tryz.results72,go_sem]) rfl ?_
      rw [← HR.out,HR2.out]
      exact ⟨rfl,(hv.same (k1.block _ (by simpa using vl))).set,((hfr.drewN _).trans (Fr.of_below (D:=(· = vb)) k1) (fun _ _ e=>e)).setCell _ (.inl rfl)⟩
   ·have n48:(byteAt s a != 48)=true:=by simpa using h48
    have hE2:digsV s (s.size+1) (a+1)=E:=by rw [← hE];unfold numEnd;rw [if_neg h48]
    have HE2:Hid _:=hE2
    clear hE2 hE h48
    go_enter Tryz.func72,Tryz.ntmps72
    go_wp2_with (first
     | (go_at_call 28;refine (nextV_ok (by first | exact h0 | exact h0.drewN _)).mono ?_;rintro e w1 ⟨rfl,m,rfl⟩)
     | (go_at_call 71;refine (vIsDigit_any _ _).mono ?_;rintro e w1 ⟨rfl,hw⟩;subst w1;rw [hd']))
    go_loopg [41] (s.size+1) (fun k v wr=>∃ j:Nat,j≤s.size∧s.size+1≤j+k∧VBlk wr vb s j ov∧Fr (· = vb) w wr∧digsV s k j=E)
    case atStart=>exact ⟨a+1,by omega,by omega,(h.drewN _).set (b:=a+1),((Fr.refl (· = vb) w).drewN _).setCell _ (.inl rfl),HE2.out⟩
    case round =>
     obtain ⟨j,hj1,hj2,hv,hfr,hj3⟩:=hrel
     obtain ⟨v0,v1,v2,g0,g1,g2,vl⟩:=three_facts' hv
     have hvA:=hv.va hj1 hm
     match gk,hj2,hj3 with
     | 0,hj2,hj3=>omega
     | k+1,hj2,hj3 =>
      rw [digsV] at hj3
      cases hdj:digB (byteAt s j) with
      | true =>
       have hdj':(decide (48≤byteAt s j) && decide (byteAt s j≤57))=true:=hdj
       have hjl:=dig_lt hdj
       simp only [hdj,if_true] at hj3
       have HJ:Hid _:=hj3
       clear hj3 hdj
       go_wp2_with (first
        | (go_at_call 28;refine (nextV_ok hvA).mono ?_;rintro e w1 ⟨rfl,m,rfl⟩)
        | (go_at_call 71;refine (vIsDigit_any _ _).mono ?_;rintro e w1 ⟨rfl,hw⟩;subst w1;rw [hdj']))
       go_roundg k
       case measure=>omega
       case rel=>exact ⟨j+1,by omega,by omega,(hv.drewN _).set,(hfr.drewN _).setCell _ (.inl rfl),HJ.out⟩
      | false =>
       have hdj':(decide (48≤byteAt s j) && decide (byteAt s j≤57))=false:=hdj
       simp only [hdj,if_false] at hj3
       obtain rfl:j=E:=by simpa using hj3
       clear hj3 hdj
       go_wp2_with (first
        | (go_at_call 28;refine (nextV_ok hvA).mono ?_;rintro e w1 ⟨rfl,m,rfl⟩)
        | (go_at_call 71;refine (vIsDigit_any _ _).mono ?_;rintro e w1 ⟨rfl,hw⟩;subst w1;rw [hdj']))
       have hbb:Below vb w0 wr:=hfr.lowN (fun _ e=>by omega) hb (by omega)
       cases O with
       | some n =>
        go_region_held3 (fun w'=>w'.cell? ⟨vb,0,none⟩=some (.string s)∧w'.cell? ⟨vb,1,none⟩=some (.int .i64 j)∧w'.frozen? ⟨vb,1,none⟩=false) (first | exact e4 | go_keep)
         (first | (go_at_call 130;refine (hP _ (by first | exact hbb | exact hbb.trans (belowD _ _ _) | exact (hbb.trans (belowD _ _ _)).trans (belowD _ _ _)) _ hes).mono ?_;rw [HO.out];rintro e w1 ⟨rfl,k1⟩;have e4:w1.cell? ⟨vb,0,none⟩=some (.string s)∧w1.cell? ⟨vb,1,none⟩=some (.int .i64 j)∧w1.frozen? ⟨vb,1,none⟩=false:=⟨(k1.cell (p:=⟨vb,0,none⟩) (by simpa using vl)).trans (by simpa using v0),(k1.cell (p:=⟨vb,1,none⟩) (by simpa using vl)).trans (by simpa using v1),(World.frozen?_of_block (k1.block vb (by simpa using vl))).trans (by simpa using g1)⟩))
        go_wp2_with fail
        refine bodyPost_ret (v:=.tuple #[numV n,.bool true]) (by simp [results,Tryz.results72,go_sem]) rfl ?_
        rw [← HR.out,HR2.out]
        exact ⟨rfl,hv.same (k1.block _ (by simpa using vl)),(hfr.drewN _).trans (Fr.of_below (D:=(· = vb)) k1) (fun _ _ e=>e)⟩
       | none =>
        go_region_held3 (fun w'=>w'.cell? ⟨vb,0,none⟩=some (.string s)∧w'.cell? ⟨vb,1,none⟩=some (.int .i64 j)∧w'.frozen? ⟨vb,1,none⟩=false) (first | exact e4 | go_keep)
         (first | (go_at_call 130;refine (hP _ (by first | exact hbb | exact hbb.trans (belowD _ _ _) | exact (hbb.trans (belowD _ _ _)).trans (belowD _ _ _)) _ hes).mono ?_;rw [HO.out];rintro e w1 ⟨⟨x,T,pp,rfl⟩,k1⟩;have e4:w1.cell? ⟨vb,0,none⟩=some (.string s)∧w1.cell? ⟨vb,1,none⟩=some (.int .i64 j)∧w1.frozen? ⟨vb,1,none⟩=false:=⟨(k1.cell (p:=⟨vb,0,none⟩) (by simpa using vl)).trans (by simpa using v0),(k1.cell (p:=⟨vb,1,none⟩) (by simpa using vl)).trans (by simpa using v1),(World.frozen?_of_block (k1.block vb (by simpa using vl))).trans (by simpa using g1)⟩))
        go_wp2_with fail
        refine bodyPost_ret (v:=.tuple #[.nilIface,.bool false]) (by simp [results,Tryz.results72,go_sem]) rfl ?_
        rw [← HR.out,HR2.out]
        exact ⟨rfl,(hv.same (k1.block _ (by simpa using vl))).set,((hfr.drewN _).trans (Fr.of_below (D:=(· = vb)) k1) (fun _ _ e=>e)).setCell _ (.inl rfl)⟩
abbrev El:=ByteArray×(IV×Bys)
def elKey (x:El):Bys:=x.1.data.toList
def Mem (w:World) (g C:Nat) (L:List El):Prop:=∃ cs:Array Value,w.heap[g]? = some (.cells cs 107 (0,0))∧cs.size=C∧2 * L.length≤C∧∀ i x,L[i]? = some x→cs[i * 2]? = some (.string x.1)∧cs[i * 2+1]? = some (iv x.2.1)
theorem Mem.at {w:World}{g C i:Nat}{L:List El}{x:El} (h:Mem w g C L) (hi:L[i]? = some x):w.cell? ⟨g,i * 2,none⟩=some (.string x.1)∧w.cell? ⟨g,i * 2+1,none⟩=some (iv x.2.1):=by
 obtain ⟨cs,h0,_,_,h1⟩:=h
 exact ⟨cells_cell h0 (h1 i x hi).1,cells_cell h0 (h1 i x hi).2⟩
theorem Mem.free {w:World}{g C:Nat}{L:List El} (h:Mem w g C L) (o:Nat):w.frozen? ⟨g,o,none⟩=false:=by
 obtain ⟨cs,h0,_⟩:=h
 exact cells_free h0
theorem Mem.lt {w:World}{g C:Nat}{L:List El} (h:Mem w g C L):g < w.heap.size:=by
 obtain ⟨cs,h0,_⟩:=h
 exact lt_of_block h0
theorem Mem.same {w w':World}{g C:Nat}{L:List El} (h:Mem w g C L) (e:w'.heap[g]? = w.heap[g]?):Mem w' g C L:=by
 obtain ⟨cs,h0,h1⟩:=h
 exact ⟨cs,e.trans h0,h1⟩
theorem Mem.set {w:World}{g C i:Nat}{L:List El} (h:Mem w g C L) (x:El) (hi:i < L.length):Mem ((w.setCell ⟨g,i * 2,none⟩ (.string x.1)).setCell ⟨g,i * 2+1,none⟩ (iv x.2.1)) g C (L.set i x):=by
 obtain ⟨cs,h0,h1,h2,h3⟩:=h
 refine ⟨_,cells_set (cells_set h0),by simp [h1],by simpa using h2,fun j y hj=>?_⟩
 rw [List.getElem?_set] at hj
 simp only [Array.getElem?_setIfInBounds,Array.size_setIfInBounds]
 by_cases e:i=j
 ·subst e
  rw [if_pos rfl,if_pos hi] at hj
  cases hj
  rw [if_neg (by omega),if_pos rfl,if_pos (by omega),if_pos rfl,if_pos (by omega)]
  exact ⟨rfl,rfl⟩
 ·rw [if_neg e] at hj
  rw [if_neg (by omega),if_neg (by omega),if_neg (by omega),if_neg (by omega)]
  exact h3 j y hj
theorem swapRange_ok {w:World}{g C cap a b n:Nat}{L:List El} (f:Value) (h:Mem w g C L) (hl:L.length≤10000000) (hab:a+n≤b) (hbn:b+n≤L.length) :
  Calls Tryz.prog 322 #[.slice (some ⟨g,0,none⟩) L.length cap,.int .i64 a,.int .i64 b,.int .i64 n,f] w fun e w'=>e = .returned (.tuple #[])∧Mem w' g C (swpR L a b n)∧Fr (· = g) w w':=by
 go_enter Tryz.func322,Tryz.ntmps322
 go_wp2_with fail
 go_loopg [10] n (fun k v wr=>∃ i:Nat,i+k=n∧v = .int .i64 i∧Mem wr g C (swpR L a b i)∧Fr (· = g) w wr)
 case atStart=>exact ⟨0,by omega,rfl,h,Fr.refl _ _⟩
 case round =>
  obtain ⟨i,hik,rfl,hM,hfr⟩:=hrel
  match gk,hik with
  | 0,hik =>
   have hi':¬ (i:Int) < (n:Int):=by omega
   go_wp2_with fail
   go_end0
   obtain rfl:i=n:=by omega
   exact ⟨rfl,hM,hfr⟩
  | k+1,hik =>
   have hi':(i:Int) < (n:Int):=by omega
   have hx:∃ x,(swpR L a b i)[a+i]? = some x:=⟨_,List.getElem?_eq_getElem (by rw [swpR_len];omega)⟩
   have hy:∃ y,(swpR L a b i)[b+i]? = some y:=⟨_,List.getElem?_eq_getElem (by rw [swpR_len];omega)⟩
   obtain ⟨⟨kx,⟨Tx,ux⟩,tx⟩,hx⟩:=hx
   obtain ⟨⟨ky,⟨Ty,uy⟩,ty⟩,hy⟩:=hy
   obtain ⟨x0,x1⟩:=hM.at hx
   obtain ⟨y0,y1⟩:=hM.at hy
   simp only [iv] at x0 x1 y0 y1
   obtain ⟨p,hp⟩:∃ p,a+i=p:=⟨_,rfl⟩
   obtain ⟨q,hq⟩:∃ q,b+i=q:=⟨_,rfl⟩
   rw [hp] at hx x0 x1
   rw [hq] at hy y0 y1
   have ep:(a:Int)+(i:Int)=(p:Int):=by omega
   have eq:(b:Int)+(i:Int)=(q:Int):=by omega
   have hpl:(p:Int) < (L.length:Int):=by omega
   have hql:(q:Int) < (L.length:Int):=by omega
   have hp0:(0:Int)≤(p:Int):=by omega
   have hq0:(0:Int)≤(q:Int):=by omega
   have fz:=hM.free
   go_wp2_with fail
   have mixed:Tryz.prog.follows Departure.mixedOrders=true:=by kernel_rfl
   go_big_region_o
   go_wp2_with fail
   go_roundg k
   case measure=>omega
   case rel =>
    have hpl2:p < (swpR L a b i).length:=by rw [swpR_len];omega
    have hql2:q < ((swpR L a b i).set p (ky,(Ty,uy),ty)).length:=by rw [List.length_set,swpR_len];omega
    have h2:=(hM.set (ky,(Ty,uy),ty) hpl2).set (kx,(Tx,ux),tx) hql2
    refine ⟨i+1,by omega,by go_num,?_,?_⟩
    ·rw [swpR,hp,hq,swp_eq hx hy]
     exact h2
    ·exact ((((hfr.setCell _ (.inl rfl)).setCell _ (.inl rfl)).setCell _ (.inl rfl)).setCell _ (.inl rfl)).drewN 1
theorem rot_gt {X A1 A2 B Y:List El} (h:A1.length=B.length):swpR (X ++ ((A1 ++ A2) ++ (B ++ Y))) X.length (X.length+(A1 ++ A2).length) B.length=(X ++ B) ++ (A2 ++ (A1 ++ Y)):=by
 have:=swpR_app X A1 A2 B Y h
 rw [List.append_assoc,List.length_append,← h,this,List.append_assoc]
theorem rot_lt {X A B1 B2 Y:List El} (h:A.length=B2.length):swpR (X ++ (A ++ ((B1 ++ B2) ++ Y))) X.length (X.length+(A.length+B1.length)) A.length=X ++ (B2 ++ (B1 ++ (A ++ Y))):=by
 have:=swpR_app X A B1 B2 Y h
 rw [List.append_assoc,this]
theorem rot_eq {X A B Y:List El} (h:A.length=B.length):swpR (X ++ (A ++ (B ++ Y))) X.length (X.length+A.length) A.length=X ++ (B ++ (A ++ Y)):=by
 have:=swpR_app X A [] B Y h
 simpa using this
theorem rotate_ok {w:World}{g C cap a m b:Nat}{X A B Y:List El} (f:Value) (h:Mem w g C (X ++ (A ++ (B ++ Y)))) (hl:(X ++ (A ++ (B ++ Y))).length≤10000000) (ha:X.length=a) (hm:a+A.length=m) (hb:m+B.length=b) (hA:A≠[]) (hB:B≠[]) :
  Calls Tryz.prog 302 #[.slice (some ⟨g,0,none⟩) (X ++ (A ++ (B ++ Y))).length cap,.int .i64 a,.int .i64 m,.int .i64 b,f] w fun e w'=>e = .returned (.tuple #[])∧Mem w' g C (X ++ (B ++ (A ++ Y)))∧Fr (· = g) w w':=by
 obtain ⟨N,hN⟩:∃ N,(X ++ (A ++ (B ++ Y))).length=N:=⟨_,rfl⟩
 obtain ⟨R,hR⟩:∃ R,X ++ (B ++ (A ++ Y))=R:=⟨_,rfl⟩
 rw [hN] at hl ⊢
 rw [hR]
 have hlA:0 < A.length:=List.length_pos_iff.2 hA
 have hlB:0 < B.length:=List.length_pos_iff.2 hB
 have hN':a+(A.length+(B.length+Y.length))=N:=by rw [← hN];simp only [List.length_append,ha]
 have HN:Hid _:=hN
 have HR:Hid _:=hR
 have HM:Aside _:=h
 clear hN hR h hA hB
 go_enter Tryz.func302,Tryz.ntmps302
 go_wp2_with fail
 go_loopg [10,11] (N+N) (fun k v10 v11 wr=>∃ (X' A' B' Y':List El) (i j:Nat),v10 = .int .i64 i∧v11 = .int .i64 j∧A'.length=i∧B'.length=j∧0 < i∧0 < j∧X'.length+i=m∧i+j≤k∧Aside (Mem wr g C (X' ++ (A' ++ (B' ++ Y'))))∧Fr (· = g) w wr∧Hid (X' ++ (B' ++ (A' ++ Y'))=R)∧Hid ((X' ++ (A' ++ (B' ++ Y'))).length=N)∧X'.length+(i+(j+Y'.length))=N)
 case atStart=>exact ⟨X,A,B,Y,A.length,B.length,by congr 1;omega,by congr 1;omega,rfl,rfl,hlA,hlB,by omega,by omega,HM,Fr.refl _ _,HR,HN,by omega⟩
 case round =>
  clear HM HN HR hN' hlA hlB
  obtain ⟨X',A',B',Y',i,j,rfl,rfl,hi,hj,i0,j0,hx,hk,hM,hfr,hr,hn,hn'⟩:=hrel
  obtain ⟨p,hp⟩:∃ p,X'.length=p:=⟨_,rfl⟩
  rw [hp] at hx hn'
  have ep:(m:Int) - (i:Int)=(p:Int):=by omega
  rcases Nat.lt_trichotomy i j with hc | hc | hc
  ·have c1:((i:Int) != (j:Int))=true:=by simp;omega
   have c2:¬ (j:Int) < (i:Int):=by omega
   obtain ⟨q,hq⟩:∃ q,m+j=q:=⟨_,rfl⟩
   obtain ⟨u,hu⟩:∃ u,q - i=u:=⟨_,rfl⟩
   have eq:(m:Int)+(j:Int)=(q:Int):=by omega
   have eu:(q:Int) - (i:Int)=(u:Int):=by omega
   have hs:=swapRange_ok (cap:=cap) (a:=p) (b:=u) (n:=i) f hM.out (by rw [hn.out];omega) (by omega) (by rw [hn.out];omega)
   rw [hn.out] at hs
   have HQ:Hid _:=hq
   have HU:Hid _:=hu
   clear hq hu
   go_wp2_with (go_at_call 322;refine hs.mono ?_;rintro e w1 ⟨rfl,hM1,fr1⟩)
   go_roundg j
   case measure=>omega
   case rel =>
    obtain ⟨B1,B2,rfl,hl1,hl2⟩:∃ B1 B2:List El,B'=B1 ++ B2∧B1.length=j - i∧B2.length=i:=⟨B'.take (j - i),B'.drop (j - i),(List.take_append_drop _ _).symm,by simp;omega,by simp;omega⟩
    have e1:=rot_lt (X:=X') (A:=A') (B1:=B1) (B2:=B2) (Y:=Y') (by omega)
    rw [hp,show p+(A'.length+B1.length)=u by have:=HQ.out;have:=HU.out;omega,hi] at e1
    rw [e1] at hM1
    refine ⟨X',B2,B1,A' ++ Y',i,j - i,rfl,by congr 1;omega,hl2,hl1,by omega,by omega,by omega,by omega,hM1,hfr.trans fr1 (fun _ _ e=>e),?_,?_,?_⟩
    ·show _=_
     rw [← hr.out,List.append_assoc]
    ·show _=_
     rw [← hn.out];simp only [List.length_append];omega
    ·simp only [List.length_append];omega
  ·subst hc
   have c1:((i:Int) != (i:Int))=false:=by simp
   have hs:=swapRange_ok (cap:=cap) (a:=p) (b:=m) (n:=i) f hM.out (by rw [hn.out];omega) (by omega) (by rw [hn.out];omega)
   rw [hn.out] at hs
   go_wp2_with (go_at_call 322;refine hs.mono ?_;rintro e w1 ⟨rfl,hM1,fr1⟩)
   go_end0
   have hmb:m=X'.length+A'.length:=by omega
   have e1:swpR (X' ++ (A' ++ (B' ++ Y'))) p m i=X' ++ (B' ++ (A' ++ Y')):=by
    rw [hmb,← hp,← hi]
    exact rot_eq (by omega)
   rw [e1,hr.out] at hM1
   exact ⟨rfl,hM1,hfr.trans fr1 (fun _ _ e=>e)⟩
  ·have c1:((i:Int) != (j:Int))=true:=by simp;omega
   have c2:(j:Int) < (i:Int):=by omega
   have hs:=swapRange_ok (cap:=cap) (a:=p) (b:=m) (n:=j) f hM.out (by rw [hn.out];omega) (by omega) (by rw [hn.out];omega)
   rw [hn.out] at hs
   go_wp2_with (go_at_call 322;refine hs.mono ?_;rintro e w1 ⟨rfl,hM1,fr1⟩)
   go_roundg i
   case measure=>omega
   case rel =>
    obtain ⟨A1,A2,rfl,hl1,hl2⟩:∃ A1 A2:List El,A'=A1 ++ A2∧A1.length=j∧A2.length=i - j:=⟨A'.take j,A'.drop j,(List.take_append_drop _ _).symm,by simp;omega,by simp;omega⟩
    have e1:=rot_gt (X:=X') (A1:=A1) (A2:=A2) (B:=B') (Y:=Y') (by omega)
    rw [hp,show p+(A1 ++ A2).length=m by omega,hj] at e1
    rw [e1] at hM1
    refine ⟨X' ++ B',A2,A1,Y',i - j,j,by congr 1;omega,rfl,hl2,hl1,by omega,by omega,by simp only [List.length_append];omega,by omega,hM1,hfr.trans fr1 (fun _ _ e=>e),?_,?_,?_⟩
    ·show _=_
     rw [← hr.out,List.append_assoc,List.append_assoc]
    ·show _=_
     rw [← hn.out];simp only [List.length_append];omega
    ·simp only [List.length_append];omega
def ComparesStr:Prop:=∀ (a b:ByteArray) (w:World),Calls Tryz.prog 188 #[.string a,.string b] w fun e w'=>e = .returned (.int .i64 (Lib.compareBytes a.data.toList b.data.toList))∧w'=w
theorem memCmp_ok (hC:ComparesStr) (kx ky:ByteArray) (Tx Ty:Nat) (ux uy:Value) (w:World) :
  Calls Tryz.prog 187 #[.agg #[.string kx,.iface Tx ux],.agg #[.string ky,.iface Ty uy]] w fun e w'=>e = .returned (.int .i64 (Lib.compareBytes kx.data.toList ky.data.toList))∧Below w.heap.size w w':=by
 go_enter Tryz.func187,Tryz.ntmps187
 go_wp2_with (go_at_call 188;refine (hC _ _ _).mono ?_;rintro e w1 ⟨rfl,hw⟩;subst w1)
 go_ret
 exact ⟨rfl,((Below.refl _ _).alloc (Nat.le_refl _) _).alloc (by simp) _⟩
theorem Mem.swap {w:World}{g C i j:Nat}{L:List El}{kx ky:ByteArray}{Tx Ty:Nat}{ux uy:Value}{tx ty:Bys} (h:Mem w g C L) (hx:L[i]? = some (kx,(Tx,ux),tx)) (hy:L[j]? = some (ky,(Ty,uy),ty)):Mem ((((w.setCell ⟨g,i * 2,none⟩ (.string ky)).setCell ⟨g,i * 2+1,none⟩ (.iface Ty uy)).setCell ⟨g,j * 2,none⟩ (.string kx)).setCell ⟨g,j * 2+1,none⟩ (.iface Tx ux)).drew g C (swp L i j):=by
 have h2:=(h.set (ky,(Ty,uy),ty) (List.getElem?_eq_some_iff.1 hx).1).set (kx,(Tx,ux),tx) (i:=j) (by rw [List.length_set];exact (List.getElem?_eq_some_iff.1 hy).1)
 rw [← swp_eq hx hy] at h2
 exact h2
theorem fr_swap {w wr:World}{g i j:Nat}{a b c d:Value} (h:Fr (· = g) w wr):Fr (· = g) w ((((wr.setCell ⟨g,i * 2,none⟩ a).setCell ⟨g,i * 2+1,none⟩ b).setCell ⟨g,j * 2,none⟩ c).setCell ⟨g,j * 2+1,none⟩ d).drew :=
 ((((h.setCell _ (.inl rfl)).setCell _ (.inl rfl)).setCell _ (.inl rfl)).setCell _ (.inl rfl)).drewN 1
def cmpF:Value:=.func (.func 187) #[] #[]
theorem kat_mid {X A Y:List El}{i:Nat} (h0:X.length≤i) (h1:i < X.length+A.length):kat elKey (X ++ (A ++ Y)) i=kat elKey A (i - X.length):=by
 unfold kat
 rw [List.getElem?_append_right h0,List.getElem?_append_left (by omega)]
theorem kat_some {L:List El}{i:Nat}{x:El} (h:L[i]? = some x):kat elKey L i=elKey x:=by simp [kat,h]
theorem sym_left (hC:ComparesStr) {w:World}{g C cap a m b:Nat}{X B Y:List El}{x:El} (h:Mem w g C (X ++ ([x] ++ (B ++ Y)))) (hl:(X ++ ([x] ++ (B ++ Y))).length≤10000000) (ha:X.length=a) (hm:a+1=m) (hb:m+B.length=b) (hB:Srt elKey B) :
  Calls Tryz.prog 277 #[.slice (some ⟨g,0,none⟩) (X ++ ([x] ++ (B ++ Y))).length cap,.int .i64 a,.int .i64 m,.int .i64 b,cmpF] w fun e w'=>e = .returned (.tuple #[])∧(∃ R,StS elKey ([x] ++ B) R∧Mem w' g C (X ++ (R ++ Y)))∧Fr (· = g) w w':=by
 obtain ⟨L,hL⟩:∃ L,X ++ ([x] ++ (B ++ Y))=L:=⟨_,rfl⟩
 obtain ⟨N,hN⟩:∃ N,L.length=N:=⟨_,rfl⟩
 have hN':a+(1+(B.length+Y.length))=N:=by rw [← hN,← hL];simp only [List.length_append,ha,List.length_singleton]
 rw [hL] at h hl ⊢
 rw [hN] at hl ⊢
 have hxa:L[a]? = some x:=by rw [← hL,← ha];simp
 have HL:Hid _:=hL
 have HN:Hid _:=hN
 have HM:Aside _:=h
 have HX:Hid _:=hxa
 obtain ⟨kx,⟨Tx,ux⟩,tx⟩:=x
 clear hL hN h hxa
 have em:(m:Int) - (a:Int)=1:=by omega
 unfold cmpF
 go_enter Tryz.func277,Tryz.ntmps277
 go_wp2_with fail
 go_loopg [10,11] (b - m) (fun k v1 v2 wr=>∃ (i j:Nat),v1 = .int .i64 i∧v2 = .int .i64 j∧m≤i∧i≤j∧j≤b∧j - i≤k∧Aside (Mem wr g C L)∧Fr (· = g) w wr∧Hid (i=m∨klt (kat elKey L (i - 1)) kx.data.toList)∧Hid (j=b∨kle kx.data.toList (kat elKey L j)))
 case atStart=>exact ⟨m,b,rfl,rfl,by omega,by omega,by omega,by omega,HM,Fr.refl _ _,.inl rfl,.inl rfl⟩
 case round =>
  clear HM
  obtain ⟨i,j,rfl,rfl,hmi,hij,hjb,hk,hM,hfr,hi,hj⟩:=hrel
  by_cases hlt:i < j
  ·have hlt':(i:Int) < (j:Int):=by omega
   obtain ⟨q,hq⟩:∃ q,(i+j) / 2=q:=⟨_,rfl⟩
   obtain ⟨⟨ky,⟨Ty,uy⟩,ty⟩,hy⟩:∃ y,L[q]? = some y:=⟨_,List.getElem?_eq_getElem (by rw [HN.out];omega)⟩
   obtain ⟨x0,x1⟩:=hM.out.at HX.out
   obtain ⟨y0,y1⟩:=hM.out.at hy
   simp only [iv] at x0 x1 y0 y1
   have hql:(q:Int) < (N:Int):=by omega
   have hq0:(0:Int)≤(q:Int):=by omega
   have hal:(a:Int) < (N:Int):=by omega
   have hvl:=hM.out.lt
   have eq:((i:Int)+(j:Int)) / 2=(q:Int):=by omega
   have HQ:Hid _:=hq
   clear hq
   have hcm:=memCmp_ok hC ky kx Ty Tx uy ux
   obtain ⟨cc,hcc⟩:∃ cc,Lib.compareBytes ky.data.toList kx.data.toList=cc:=⟨_,rfl⟩
   simp only [hcc] at hcm
   have HCC:Hid _:=hcc
   clear hcc
   go_wp2_with fail
   go_region_held3 (fun w'=>w'.cell? ⟨g,q * 2,none⟩=some (.string ky)∧w'.cell? ⟨g,q * 2+1,none⟩=some (.iface Ty uy)∧w'.cell? ⟨g,a * 2,none⟩=some (.string kx)∧w'.cell? ⟨g,a * 2+1,none⟩=some (.iface Tx ux)) (first | exact e4 | go_keep)
    (first | (go_at_call 187;refine (hcm _).mono ?_;rintro e w1 ⟨rfl,k1⟩;have e4:w1.cell? ⟨g,q * 2,none⟩=some (.string ky)∧w1.cell? ⟨g,q * 2+1,none⟩=some (.iface Ty uy)∧w1.cell? ⟨g,a * 2,none⟩=some (.string kx)∧w1.cell? ⟨g,a * 2+1,none⟩=some (.iface Tx ux):=⟨(k1.cell (p:=⟨g,q * 2,none⟩) (by simpa using hvl)).trans (by simpa using y0),(k1.cell (p:=⟨g,q * 2+1,none⟩) (by simpa using hvl)).trans (by simpa using y1),(k1.cell (p:=⟨g,a * 2,none⟩) (by simpa using hvl)).trans (by simpa using x0),(k1.cell (p:=⟨g,a * 2+1,none⟩) (by simpa using hvl)).trans (by simpa using x1)⟩))
   have hM1:Mem w1 g C L:=hM.out.same ((k1.block g (by simpa using hvl)).trans rfl)
   have fr1:Fr (· = g) w w1:=(hfr.drewN _).trans (Fr.of_below (D:=(· = g)) k1) (fun _ _ e=>e)
   have hky:kat elKey L q=ky.data.toList:=kat_some hy
   by_cases hc:cc < 0
   ·go_wp2_with fail
    go_roundg (j - (q+1))
    case measure=>have:=HQ.out;omega
    case rel =>
     refine ⟨q+1,j,by go_num,rfl,by have:=HQ.out;omega,by have:=HQ.out;omega,hjb,by omega,hM1,fr1,.inr ?_,hj⟩
     rw [Nat.add_sub_cancel,hky,klt,HCC.out]
     exact hc
   ·go_wp2_with fail
    go_roundg (q - i)
    case measure=>have:=HQ.out;omega
    case rel =>
     refine ⟨i,q,rfl,rfl,hmi,by have:=HQ.out;omega,by have:=HQ.out;omega,by omega,hM1,fr1,hi,.inr ?_⟩
     rw [hky,kle,HCC.out]
     omega
  ·have hlt':¬ (i:Int) < (j:Int):=by omega
   obtain rfl:i=j:=by omega
   obtain ⟨v,hv⟩:∃ v,i - m=v:=⟨_,rfl⟩
   have hL:=HL.out
   have hkB:∀ q,m≤q→q < b→kat elKey L q=kat elKey B (q - m):=fun q h1 h2=>by
    rw [← hL]
    have:=kat_mid (X:=X ++ [(kx,(Tx,ux),tx)]) (A:=B) (Y:=Y) (i:=q) (by simp;omega) (by simp;omega)
    rw [List.append_assoc] at this
    rw [this]
    congr 1
    simp;omega
   have hst:StS elKey ([(kx,(Tx,ux),tx)] ++ B) (B.take v ++ ((kx,(Tx,ux),tx) :: B.drop v)):=by
    refine sts_left hB (by omega) ?_ ?_
    ·rcases hi.out with e | e
     ·exact .inl (by omega)
     ·by_cases e0:i=m
      ·exact .inl (by omega)
      ·right
       rw [hkB _ (by omega) (by omega)] at e
       rw [show v - 1=i - 1 - m by omega]
       exact e
    ·rcases hj.out with e | e
     ·exact .inl (by omega)
     ·by_cases e0:i=b
      ·exact .inl (by omega)
      ·right
       rw [hkB _ (by omega) (by omega),hv] at e
       exact e
   obtain ⟨B1,hB1⟩:∃ B1,B.take v=B1:=⟨_,rfl⟩
   obtain ⟨B2,hB2⟩:∃ B2,B.drop v=B2:=⟨_,rfl⟩
   have hB12:B=B1 ++ B2:=by rw [← hB1,← hB2,List.take_append_drop]
   have hl1:B1.length=v:=by rw [← hB1];simp;omega
   rw [hB1,hB2] at hst
   have hl12:B.length=B1.length+B2.length:=by rw [hB12,List.length_append]
   have hM2:Mem wr g C (X ++ ([] ++ ((kx,(Tx,ux),tx) :: (B1 ++ (B2 ++ Y))))):=by
    have:=hM.out
    rw [← hL,hB12] at this
    simpa using this
   have HM2:Aside _:=hM2
   have HST:Hid _:=hst
   clear hM2 hst hB1 hB2 hB12 hkB hL hi hj hM HX HL hB
   go_wp2_with fail
   go_loopg [13] v (fun k v1 wr=>∃ (P Q:List El) (c:Nat),v1 = .int .i64 c∧Hid (c=a+P.length)∧P.length+Q.length=v∧Q.length≤k∧Hid (P ++ Q=B1)∧Aside (Mem wr g C (X ++ (P ++ ((kx,(Tx,ux),tx) :: (Q ++ (B2 ++ Y))))))∧Fr (· = g) w wr)
   case atStart=>exact ⟨[],B1,a,rfl,rfl,by simpa using hl1,by omega,rfl,HM2,hfr⟩
   case round =>
    clear HM2
    obtain ⟨P,Q,c,rfl,hc,hpq,hk2,hPQ,hM,hfr⟩:=hrel
    cases Q with
    | nil =>
     have hcl:¬ (c:Int) < (i:Int) - 1:=by have:=hc.out;simp at hpq;omega
     go_wp2_with fail
     refine bodyPost_ret (v:=.tuple #[]) (by simp [results,Tryz.results277,go_sem]) rfl ⟨rfl,⟨_,HST.out,?_⟩,hfr⟩
     have e1:P=B1:=by simpa using hPQ.out
     subst e1
     simpa using hM.out
    | cons y Q =>
     obtain ⟨ky,⟨Ty,uy⟩,ty⟩:=y
     simp only [List.length_cons] at hpq hk2
     have hcl:(c:Int) < (i:Int) - 1:=by have:=hc.out;omega
     obtain ⟨d,hd⟩:∃ d,c+1=d:=⟨_,rfl⟩
     have ed:(c:Int)+1=(d:Int):=by omega
     have hxp:(X ++ P).length=c:=by have:=hc.out;simp;omega
     have hM':=hM.out
     rw [← List.append_assoc] at hM'
     simp only [List.cons_append] at hM'
     have hx:((X ++ P) ++ ((kx,(Tx,ux),tx) :: ((ky,(Ty,uy),ty) :: (Q ++ (B2 ++ Y)))))[c]? = some (kx,(Tx,ux),tx):=by rw [← hxp];simp
     have hy:((X ++ P) ++ ((kx,(Tx,ux),tx) :: ((ky,(Ty,uy),ty) :: (Q ++ (B2 ++ Y)))))[d]? = some (ky,(Ty,uy),ty):=by rw [← hd,← hxp,List.getElem?_append_right (by omega)];simp
     obtain ⟨x0,x1⟩:=hM'.at hx
     obtain ⟨y0,y1⟩:=hM'.at hy
     simp only [iv] at x0 x1 y0 y1
     have hcN:(c:Int) < (N:Int):=by omega
     have hdN:(d:Int) < (N:Int):=by omega
     have hc0:(0:Int)≤(c:Int):=by omega
     have hd0:(0:Int)≤(d:Int):=by omega
     have fz:=hM'.free
     have mixed:Tryz.prog.follows Departure.mixedOrders=true:=by kernel_rfl
     have HD:Hid _:=hd
     clear hd
     go_wp2_with fail
     go_big_region_o
     go_wp2_with fail
     go_roundg Q.length
     case measure=>omega
     case rel =>
      have h2:=hM'.swap hx hy
      rw [← HD.out,← hxp,swp_adj,hxp,HD.out] at h2
      refine ⟨P ++ [(ky,(Ty,uy),ty)],Q,d,rfl,?_,by simp;omega,by omega,?_,?_,?_⟩
      ·show _=_
       have:=hc.out;have:=HD.out;simp;omega
      ·show _=_
       rw [← hPQ.out];simp
      ·show Mem _ _ _ _
       simpa using h2
      ·exact fr_swap hfr
end Go.Proofs.Tryz
