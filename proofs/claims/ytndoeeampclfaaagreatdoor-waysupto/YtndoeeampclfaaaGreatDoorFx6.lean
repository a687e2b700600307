import Derived.Test.YtndoeeampclfaaaGreatDoorNames7
import Derived.Test.YtndoeeampclfaaaGreatDoorStep13
import Derived.WalkMore
import Derived.Lib.RuneBytes
set_option linter.all false
namespace Go.Proofs.Tryz
set_option maxHeartbeats 16000000
open Go.RowKit
set_option maxRecDepth 10000
def tailL (s:ByteArray):Nat→Nat→Int→Int→Nat×Bool
 | 0,a,_,_=>(a,true)
 | k+1,a,lo,hi=>if a=s.size then (a,false) else if byteAt s a < lo then (a,false) else if hi < byteAt s a then (a,false) else tailL s k (a+1) 128 191
def strL (s:ByteArray):Nat→Nat→List UInt8→List UInt8×Int×Bool
 | 0,a,_=>([],a,false)
 | k+1,a,cs =>
  if s.size≤a then ([],a,false)
  else if byteAt s a=34 then (cs,a+1,true)
  else if byteAt s a < 32 then ([],a,false)
  else if byteAt s a=92 then (if (escV s a).2.2 then strL s k (escV s a).2.1.toNat (cs ++ Lib.encodeRune (escV s a).1) else ([],(escV s a).2.1,false))
  else if (followV (byteAt s a)).2.2 < 0 then ([],a,false)
  else if (tailL s (followV (byteAt s a)).2.2.toNat (a+1) (followV (byteAt s a)).1 (followV (byteAt s a)).2.1).2 then
   strL s k (tailL s (followV (byteAt s a)).2.2.toNat (a+1) (followV (byteAt s a)).1 (followV (byteAt s a)).2.1).1 (cs ++ ((s.data.toList.drop a).take ((tailL s (followV (byteAt s a)).2.2.toNat (a+1) (followV (byteAt s a)).1 (followV (byteAt s a)).2.1).1 - a)))
  else ([],(tailL s (followV (byteAt s a)).2.2.toNat (a+1) (followV (byteAt s a)).1 (followV (byteAt s a)).2.1).1,false)
def AppendsRune:Prop:=∀ (B n:Nat) (r:Int) (sv:Value) (xs:List Value) (w:World),-2147483648≤r→r≤2147483647→w.ownsRow B 5 1 sv n xs→B≤w.heap.size→n+4≤140737488355328→
 Calls Tryz.prog 135 #[sv,.int .i32 r] w fun e w'=>∃ v',e = .returned v'∧w'.ownsRow B 5 1 v' (n+(Lib.runeCells r).length) (xs ++ Lib.runeCells r)∧Below B w w'
theorem conv_nil (w:World):Sem.run Tryz.prog (Go.convert 50 9 (.slice none 0 0)) w = .ok (.string ⟨#[]⟩) w:=by kernel_rfl
theorem follow_range (c:Int):(followV c).2.2 = -1∨∃ m:Nat,m≤3∧(followV c).2.2=m:=by
 unfold followV
 repeat' split
 all_goals first
  | exact .inl rfl
  | exact .inr ⟨0,by omega,rfl⟩
  | exact .inr ⟨1,by omega,rfl⟩
  | exact .inr ⟨2,by omega,rfl⟩
  | exact .inr ⟨3,by omega,rfl⟩
theorem take_one (s:ByteArray) (a j:Nat) (h:a+j < s.size):(s.data.toList.drop a).take (j+1)=(s.data.toList.drop a).take j ++ [s[a+j]]:=by
 rw [List.take_succ,List.getElem?_drop,at_list s (a+j) h]
 rfl
theorem belowD (B:Nat) (w:World) (m:Nat):Below B w (w.drewN m):=⟨rfl,rfl,rfl,Nat.le_refl _,fun _ _=>rfl⟩
theorem string_ok (hA:AppendsRune) (s:ByteArray) (a0:Nat) (h:a0 < s.size) (hm:s.size≤10000000) (w:World) :
  Calls Tryz.prog 81 #[.string s,.int .i64 a0] w fun e w'=>Below w.heap.size w w'∧∃ t,e = .returned (.tuple #[.string t,.int .i64 (strL s (s.size+1) (a0+1) []).2.1,.bool (strL s (s.size+1) (a0+1) []).2.2])∧t.data.toList=(strL s (s.size+1) (a0+1) []).1:=by
 obtain ⟨R,hR⟩:∃ R,strL s (s.size+1) (a0+1) []=R:=⟨_,rfl⟩
 rw [hR]
 have HR:Hid _:=hR
 clear hR
 obtain ⟨i0,hi0,hz0,hz1,hz2⟩:=info_parts (show (Tryz.prog.info? 5).map (fun i=>(i.zero,i.size,i.bytes))=some (some (.int .u8 0),1,1) by kernel_rfl)
 go_enter Tryz.func81,Tryz.ntmps81
 go_wp2_with fail
 go_step3
 go_wp2_with fail
 go_step3
 go_wp2_with fail
 go_loopg [1,7] (s.size+1) (fun k v t wr=>∃ (a:Nat) (cs:List UInt8),a≤s.size∧s.size+1≤a+k∧v = .int .i64 a∧Below w.heap.size w wr∧wr.ownsRow w.heap.size 5 1 t cs.length (Lib.byteCells cs)∧cs.length+4 * k≤100000000∧strL s k a cs=R)
 case atStart=>exact ⟨a0+1,[],by omega,by omega,rfl,Below.refl _ _,World.ownsRow_nil _ _ _ _,by simp;omega,HR.out⟩
 case round =>
  obtain ⟨a,cs,ha,hk,rfl,hb,hown,hlen,hr⟩:=hrel
  match gk,hk,hr,hlen with
  | 0,hk,hr,hlen=>omega
  | k+1,hk,hr,hlen =>
   rw [strL] at hr
   by_cases hz:s.size≤a
   ·rw [if_pos hz] at hr
    have hz':¬ (a:Int) < (s.size:Int):=by omega
    have HR2:Hid _:=hr
    clear hr hz
    go_wp2_with fail
    go_ret3
    rw [← HR2.out]
    exact ⟨hb,_,rfl,rfl⟩
   ·rw [if_neg hz] at hr
    have hl':(a:Int) < (s.size:Int):=by omega
    have p0:(0:Int)≤(a:Int):=by omega
    have hlt:a < s.size:=by omega
    clear hz
    obtain ⟨b0,b1⟩:=byte_range s a
    have eb:=byte_at hlt
    rw [eb] at hr b0 b1
    clear eb
    by_cases n0:(s[a].toNat:Int)=34
    ·rw [if_pos n0] at hr
     have t0:((s[a].toNat:Int) == 34)=true:=by simpa using n0
     have HR2:Hid _:=hr
     clear hr n0
     by_cases hne:cs=[]
     ·subst hne
      rcases hown.2 with ⟨rfl,_⟩ | ⟨g,cap,cur,rfl,hg,hbb,hn,hmm,hss,htt⟩
      ·have hcv:=conv_nil wr
       go_wp2_with fail
       try simp only [Exit.noGoto]
       go_ret3
       rw [← HR2.out]
       exact ⟨hb,_,rfl,rfl⟩
      ·have hcv:=run_convert_bytes_back (P:=Tryz.prog) wr 50 9 5 ⟨g,0,none⟩ cap [] Tryz.underlying50 Tryz.underlying5 Tryz.underlying9 (fun j hj=>absurd hj (by simp))
       simp only [List.length_nil] at hcv ⊢
       go_wp2_with fail
       try simp only [Exit.noGoto]
       go_ret3
       rw [← HR2.out]
       exact ⟨hb,_,rfl,rfl⟩
     ·obtain ⟨g,c,rfl,hc⟩:=owns_bytes hown hne
      have hcv:=run_convert_bytes_back (P:=Tryz.prog) wr 50 9 5 ⟨g,0,none⟩ c cs Tryz.underlying50 Tryz.underlying5 Tryz.underlying9 hc
      go_wp2_with fail
      try simp only [Exit.noGoto]
      go_ret3
      rw [← HR2.out]
      exact ⟨hb,_,rfl,rfl⟩
    ·rw [if_neg n0] at hr
     have t0:((s[a].toNat:Int) == 34)=false:=by simpa using n0
     clear n0
     by_cases n1:(s[a].toNat:Int) < 32
     ·rw [if_pos n1] at hr
      have HR2:Hid _:=hr
      clear hr
      go_wp2_with fail
      simp only [Exit.noGoto]
      go_ret3
      rw [← HR2.out]
      exact ⟨hb,_,rfl,rfl⟩
     ·rw [if_neg n1] at hr
      by_cases n2:(s[a].toNat:Int)=92
      ·rw [if_pos n2] at hr
       have t2:((s[a].toNat:Int) == 92)=true:=by simpa using n2
       clear n2
       have hE:=escape_ok s a hlt (by omega)
       obtain ⟨E,hEe⟩:∃ E,escV s a=E:=⟨_,rfl⟩
       rw [hEe] at hr
       simp only [hEe] at hE
       have HE:Hid _:=hEe
       clear hEe
       obtain ⟨r,q,ok⟩:=E
       cases ok with
       | false =>
        have HR2:Hid _:=hr
        clear hr
        go_wp2_with (go_at_call 134;refine (hE _).mono ?_;rintro e w1 ⟨rfl,m,rfl⟩)
        simp only [Exit.noGoto]
        go_ret3
        rw [← HR2.out]
        exact ⟨hb.trans (belowD _ _ _),_,rfl,rfl⟩
       | true =>
        obtain ⟨g0,g1,q',hq,hq1,hq2⟩:=(HE.out ▸ esc_good hlt) rfl
        simp only at g0 g1 hq
        subst hq
        simp only [if_true,Int.toNat_natCast] at hr
        have HR2:Hid _:=hr
        clear hr
        obtain ⟨ra,rl,rc,rfl⟩:=owns_shape hown
        go_wp2_with (first
         | (go_at_call 134;refine (hE _).mono ?_;rintro e w1 ⟨rfl,m,rfl⟩)
         | (go_at_call 135;refine (hA w.heap.size cs.length r _ (Lib.byteCells cs) _ (by omega) (by omega) (by exact hown) (by exact hb.size) (by omega)).mono ?_;rintro e w2 ⟨v2,rfl,hown2,hb2⟩))
        go_roundg k
        case measure=>omega
        case rel=>exact ⟨q',cs ++ Lib.encodeRune r,hq2,by omega,rfl,(hb.trans (belowD _ _ m)).trans hb2,by rw [List.length_append,← Lib.runeCells_length,show Lib.byteCells (cs ++ Lib.encodeRune r)=Lib.byteCells cs ++ Lib.runeCells r by rw [← Lib.byteCells_encodeRune];simp [Lib.byteCells]];exact hown2,by have:=(Lib.runeCells_le r).2;rw [List.length_append,← Lib.runeCells_length];omega,HR2.out⟩
      ·rw [if_neg n2] at hr
       have t2:((s[a].toNat:Int) == 92)=false:=by simpa using n2
       clear n2
       have hF:=following_ok (s[a].toNat:Int) b0 b1
       have hFr:=follow_range (s[a].toNat:Int)
       obtain ⟨F,hFe⟩:∃ F,followV (s[a].toNat:Int)=F:=⟨_,rfl⟩
       rw [hFe] at hr hFr
       simp only [hFe] at hF
       clear hFe
       obtain ⟨lo,hi,more⟩:=F
       simp only at hFr hF hr
       rcases hFr with rfl | ⟨m,hm3,rfl⟩
       ·rw [if_pos (by omega)] at hr
        have HR2:Hid _:=hr
        clear hr
        go_wp2_with (go_at_call 136;refine (hF _).mono ?_;rintro e w1 ⟨rfl,hw⟩;subst w1)
        simp only [Exit.noGoto]
        go_ret3
        rw [← HR2.out]
        exact ⟨hb,_,rfl,rfl⟩
       ·rw [if_neg (by omega)] at hr
        simp only [Int.toNat_natCast] at hr
        obtain ⟨T,hT⟩:∃ T,tailL s m (a+1) lo hi=T:=⟨_,rfl⟩
        rw [hT] at hr
        have HT:Hid _:=hT
        have HR2:Hid _:=hr
        clear hT hr
        have hm0:¬ (m:Int) < 0:=by omega
        obtain ⟨ra,rl,rc,rfl⟩:=owns_shape hown
        go_wp2_with (first
         | (go_at_call 136;refine (hF _).mono ?_;rintro e w1 ⟨rfl,hw⟩;subst w1)
         | (refine wpList_append_lies _ (by rfl) _ _ _ (by rfl) w.heap.size 5 i0 _ 1 1 Tryz.underlying50 hi0 hz0 hz1 hz2 rfl (by omega) _ cs.length (Lib.byteCells cs) (by rfl) (hown.alloc _) ⟨wr.heap.size,0,none⟩ 1 1 [.int .u8 (s[a].toNat:Int)] (by rfl) (by rfl) (World.news_of_block (cs:=#[.int .u8 (s[a].toNat:Int)]) (t:=5) (fr:=(0,0)) (heap_new wr _)) (by simp [Value.oneCell']) (by omega) (by unfold maxLen;omega) (by omega) (by have:=hb.size;simp;omega) (wr.heap.size+1) (by simp) ?_;intro g4 cap4 w4 hown4 hgrow4 hat4 hlt4))
        have hb4:Below w.heap.size w w4:=(hb.alloc (by have:=hb.size;omega) _).grown hgrow4 (by have:=hb.size;simp;omega) (fun q hq=>(hown.lt q hq).1)
        go_loopg [1,7,12,13,39] m (fun kk v1 v7 v12 v13 v39 wr2=>∃ (j p:Nat) (lo2 hi2:Int),j+kk=m∧p=a+1+j∧p≤s.size∧v1 = .int .i64 p∧v39 = .int .i64 j∧v12 = .int .u8 lo2∧v13 = .int .u8 hi2∧Below w.heap.size w wr2∧wr2.ownsRow w.heap.size 5 1 v7 (cs.length+(j+1)) (Lib.byteCells (cs ++ (s.data.toList.drop a).take (j+1)))∧tailL s kk p lo2 hi2=T)
        case atStart =>
         refine ⟨0,a+1,lo,hi,by omega,rfl,by omega,by go_num,rfl,rfl,rfl,hb4,?_,HT.out⟩
         have e1:=take_one s a 0 (by omega)
         rw [e1]
         simpa [Lib.byteCells] using hown4
        case round =>
         clear hown4 hgrow4 hat4 hlt4 hb4 hown hb
         obtain ⟨j,p,lo2,hi2,hjm,hp,hps,rfl,rfl,rfl,rfl,hb,hown,hT⟩:=hrel
         have HP:Hid _:=hp
         clear hp
         match gk,hjm,hT with
         | 0,hjm,hT =>
          obtain rfl:j=m:=by omega
          have hjj:¬ (j:Int) < (j:Int):=by omega
          have hT:(p,true)=T:=hT
          have HT2:Hid _:=hT
          clear hT
          go_wp2_with fail
          go_roundg k
          case measure=>omega
          case rel =>
           have hr:=HR2.out
           rw [← HT2.out] at hr
           simp only [if_true] at hr
           have hpe:p - a=j+1:=by have:=HP.out;omega
           rw [hpe] at hr
           have hl:(cs ++ (s.data.toList.drop a).take (j+1)).length=cs.length+(j+1):=by
            simp only [List.length_append,List.length_take,List.length_drop,size_list]
            have:=HP.out
            omega
           exact ⟨p,_,hps,by have:=HP.out;omega,rfl,hb,by rw [hl];exact hown,by rw [hl];omega,hr⟩
         | kk+1,hjm,hT =>
          rw [tailL] at hT
          have hjm':(j:Int) < (m:Int):=by omega
          by_cases hz:p=s.size
          ·rw [if_pos hz] at hT
           have hz':(p:Int)=(s.size:Int):=by omega
           have HT2:Hid _:=hT
           have HZ:Hid _:=hz
           clear hT hz
           go_wp2_with fail
           simp only [Exit.noGoto]
           go_ret3
           have hr:=HR2.out
           rw [← HT2.out] at hr
           simp only [Bool.false_eq_true,if_false] at hr
           rw [← hr]
           exact ⟨hb,_,by rw [HZ.out];rfl,rfl⟩
          ·rw [if_neg hz] at hT
           have hz':¬ (p:Int)=(s.size:Int):=by omega
           have hl2:(p:Int) < (s.size:Int):=by omega
           have hp0:(0:Int)≤(p:Int):=by omega
           have hplt:p < s.size:=by omega
           clear hz
           rw [byte_at hplt] at hT
           by_cases m0:(s[p].toNat:Int) < lo2
           ·rw [if_pos m0] at hT
            have HT2:Hid _:=hT
            clear hT
            go_wp2_with fail
            simp only [Exit.noGoto]
            go_ret3
            have hr:=HR2.out
            rw [← HT2.out] at hr
            simp only [Bool.false_eq_true,if_false] at hr
            rw [← hr]
            exact ⟨hb,_,rfl,rfl⟩
           ·rw [if_neg m0] at hT
            by_cases m1:hi2 < (s[p].toNat:Int)
            ·rw [if_pos m1] at hT
             have HT2:Hid _:=hT
             clear hT
             go_wp2_with fail
             try simp only [Exit.noGoto]
             go_ret3
             have hr:=HR2.out
             rw [← HT2.out] at hr
             simp only [Bool.false_eq_true,if_false] at hr
             rw [← hr]
             exact ⟨hb,_,rfl,rfl⟩
            ·rw [if_neg m1] at hT
             have HT2:Hid _:=hT
             clear hT
             obtain ⟨sa,sl,sc,rfl⟩:=owns_shape hown
             go_wp2_with (refine wpList_append_lies _ (by rfl) _ _ _ (by rfl) w.heap.size 5 i0 _ 1 1 Tryz.underlying50 hi0 hz0 hz1 hz2 rfl (by omega) _ (cs.length+(j+1)) (Lib.byteCells (cs ++ (s.data.toList.drop a).take (j+1))) (by rfl) (hown.alloc _) ⟨wr.heap.size,0,none⟩ 1 1 [.int .u8 (s[p].toNat:Int)] (by rfl) (by rfl) (World.news_of_block (cs:=#[.int .u8 (s[p].toNat:Int)]) (t:=5) (fr:=(0,0)) (heap_new wr _)) (by simp [Value.oneCell']) (by omega) (by unfold maxLen;omega) (by omega) (by have:=hb.size;simp;omega) (wr.heap.size+1) (by simp) ?_;intro g4 cap4 w4 hown4 hgrow4 hat4 hlt4)
             go_roundg kk
             case measure=>omega
             case rel =>
              refine ⟨j+1,p+1,128,191,by omega,by have:=HP.out;omega,by omega,by go_num,by go_num,rfl,rfl,?_,?_,HT2.out⟩
              ·exact (hb.alloc (by have:=hb.size;omega) _).grown hgrow4 (by have:=hb.size;simp;omega) (fun q hq=>(hown.lt q hq).1)
              ·have hpa:a+(j+1)=p:=by have:=HP.out;omega
               have e1:=take_one s a (j+1) (by omega)
               rw [e1]
               have e2:s[a+(j+1)]'(by omega)=s[p]:=by simp only [hpa]
               rw [e2]
               simpa [Lib.byteCells,Nat.add_assoc] using hown4
end Go.Proofs.Tryz
