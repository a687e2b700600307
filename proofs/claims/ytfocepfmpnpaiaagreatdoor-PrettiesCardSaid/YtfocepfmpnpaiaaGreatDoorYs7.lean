import Derived.Test.YtfocepfmpnpaiaaGreatDoorYs6
import Derived.Deep.RegionHeld3
set_option linter.all false
namespace Go.Proofs.Tryz
set_option maxHeartbeats 16000000
open Go.RowKit
set_option maxRecDepth 10000
section
variable {a w : World} {b d cap : Nat}
def AllP (xs:List Bs) (W:World) (e:Ending) (w':World):Prop:=e = .returned (.string ⟨(joinsB xs).toArray⟩)∧w'=W
theorem all_at {W:World}{g n:Nat}{xs:List ByteArray} (hn:xs.length=n) (hn2:n≤1000) (hc:Cl W g (xs.map Value.string)) (hB:lenL (xs.map fun x=>x.data.toList)≤2000000000) :
  Calls Tryz.prog 16 #[.slice (some ⟨g,0,none⟩) n n] W (AllP (xs.map fun x=>x.data.toList) W) :=
 all_ok hn hn2 (fun i x hx=>(hc.cell i).trans (by rw [List.getElem?_map,hx];rfl)) hB
theorem rp_if {q0:Nat}{l0:List Bs}{q1:Nat}{l1:List Bs}{q2:Nat}{l2:List Bs} (kw:Below a.heap.size a w) (hb:b < a.heap.size) (c0:a.cell? ⟨b,0,none⟩=some (.string ⟨#[105,102]⟩)) (c7:a.cell? ⟨b,7,none⟩=some (.slice (some ⟨d,0,none⟩) 3 cap)) (hd:d < a.heap.size) (e0:a.cell? ⟨d,0,none⟩=some (.pointer (some ⟨q0,0,none⟩))) (e1:a.cell? ⟨d,1,none⟩=some (.pointer (some ⟨q1,0,none⟩))) (e2:a.cell? ⟨d,2,none⟩=some (.pointer (some ⟨q2,0,none⟩))) (h0:HasT 6 (.pointer (some ⟨q0,0,none⟩)) l0 a) (g0:AllG l0) (h1:HasT 6 (.pointer (some ⟨q1,0,none⟩)) l1 a) (g1:AllG l1) (h2:HasT 6 (.pointer (some ⟨q2,0,none⟩)) l2 a) (g2:AllG l2) (hB:lenL ([105,102] :: (l0 ++ [116,104,101,110] :: (l1 ++ [101,108,115,101] :: (l2 ++ [[101,110,100]]))))≤1000000000):Calls Tryz.prog 6 #[.pointer (some ⟨b,0,none⟩)] w (PlA (gl ([105,102] :: (l0 ++ [116,104,101,110] :: (l1 ++ [101,108,115,101] :: (l2 ++ [[101,110,100]]))))) a):=by
 have H0:Aside (HasT 6 (.pointer (some ⟨q0,0,none⟩)) l0 a):=h0
 clear h0
 have s0:=gl_len l0
 have z0:=sz (gl l0)
 have H1:Aside (HasT 6 (.pointer (some ⟨q1,0,none⟩)) l1 a):=h1
 clear h1
 have s1:=gl_len l1
 have z1:=sz (gl l1)
 have H2:Aside (HasT 6 (.pointer (some ⟨q2,0,none⟩)) l2 a):=h2
 clear h2
 have s2:=gl_len l2
 have z2:=sz (gl l2)
 simp only [lenL_cons,lenL_app,lenL_nil,lenL_brk,List.length_cons,List.length_nil,bsize] at hB
 have hj:joinsB [[105,102],gl l0,[116,104,101,110],gl l1,[101,108,115,101],gl l2,[101,110,100]]=gl ([[[105,102]],l0,[[116,104,101,110]],l1,[[101,108,115,101]],l2,[[101,110,100]]]:List (List Bs)).flatten:=by
  have:=joinsB_gl (ls:=[[[105,102]],l0,[[116,104,101,110]],l1,[[101,108,115,101]],l2,[[101,110,100]]]) (fun l hl=>by
   simp only [List.mem_cons,List.not_mem_nil,or_false] at hl
   rcases hl with rfl | rfl | rfl | rfl | rfl | rfl | rfl
   ·exact AllG.lit (by decide) .nil
   ·exact g0
   ·exact AllG.lit (by decide) .nil
   ·exact g1
   ·exact AllG.lit (by decide) .nil
   ·exact g2
   ·exact AllG.lit (by decide) .nil)
  simp only [List.map_cons,List.map_nil,gl_one] at this
  exact this
 obtain ⟨J,hJ⟩:∃ J,joinsB [[105,102],gl l0,[116,104,101,110],gl l1,[101,108,115,101],gl l2,[101,110,100]]=J:=⟨_,rfl⟩
 rw [hJ] at hj
 have hJl:J.length≤2000000000:=by have:=gl_len ([[[105,102]],l0,[[116,104,101,110]],l1,[[101,108,115,101]],l2,[[101,110,100]]]:List (List Bs)).flatten;rw [← hj] at this;simp [lenL_app,lenL_cons,lenL_nil] at this;omega
 have zJ:=sz J
 have hfin:Hid ((⟨J.toArray⟩:ByteArray)=⟨(gl ([105,102] :: (l0 ++ [116,104,101,110] :: (l1 ++ [101,108,115,101] :: (l2 ++ [[101,110,100]]))))).toArray⟩):=ba_eq (by
  show J=_
  rw [hj]
  simp)
 have hJ:Hid (joinsB [[105,102],gl l0,[116,104,101,110],gl l1,[101,108,115,101],gl l2,[101,110,100]]=J):=hJ
 clear hj
 have u0:=(kw.cell (p:=⟨b,0,none⟩) hb).trans c0
 have u7:=(kw.cell (p:=⟨b,7,none⟩) hb).trans c7
 have ue0:=(kw.cell (p:=⟨d,0,none⟩) hd).trans e0
 have ue1:=(kw.cell (p:=⟨d,1,none⟩) hd).trans e1
 have ue2:=(kw.cell (p:=⟨d,2,none⟩) hd).trans e2
 go_enter Tryz.func6,Tryz.ntmps6
 go_wp2_with fail
 have tk0:Aside True:=trivial
 have tk1:Aside True:=trivial
 have tk2:Aside True:=trivial
 have tk3:Aside True:=trivial
 go_region_held3 (fun w'=>w'.cell? ⟨b,0,none⟩=some (.string ⟨#[105,102]⟩)∧w'.cell? ⟨b,7,none⟩=some (.slice (some ⟨d,0,none⟩) 3 cap)∧w'.cell? ⟨d,0,none⟩=some (.pointer (some ⟨q0,0,none⟩))∧w'.cell? ⟨d,1,none⟩=some (.pointer (some ⟨q1,0,none⟩))∧w'.cell? ⟨d,2,none⟩=some (.pointer (some ⟨q2,0,none⟩))) (first | exact ⟨f0,f7,fe0,fe1,fe2⟩ | go_keep)
  (first
   | (clear tk0;go_at_call 6;refine (H0.out _ (by first | exact kw | exact kw.drew)).mono ?_;rintro e w1 ⟨rfl,k1⟩;have f0:=(k1.cell (p:=⟨b,0,none⟩) hb).trans c0;have f7:=(k1.cell (p:=⟨b,7,none⟩) hb).trans c7;have fe0:=(k1.cell (p:=⟨d,0,none⟩) hd).trans e0;have fe1:=(k1.cell (p:=⟨d,1,none⟩) hd).trans e1;have fe2:=(k1.cell (p:=⟨d,2,none⟩) hd).trans e2)
   | (clear tk1;go_at_call 6;refine (H1.out _ (by first | exact k1 | exact k1.drew)).mono ?_;rintro e w2 ⟨rfl,k2⟩;have f0:=(k2.cell (p:=⟨b,0,none⟩) hb).trans c0;have f7:=(k2.cell (p:=⟨b,7,none⟩) hb).trans c7;have fe0:=(k2.cell (p:=⟨d,0,none⟩) hd).trans e0;have fe1:=(k2.cell (p:=⟨d,1,none⟩) hd).trans e1;have fe2:=(k2.cell (p:=⟨d,2,none⟩) hd).trans e2)
   | (clear tk2;go_at_call 6;refine (H2.out _ (by first | exact k2 | exact k2.drew)).mono ?_;rintro e w3 ⟨rfl,k3⟩;have f0:=(k3.cell (p:=⟨b,0,none⟩) hb).trans c0;have f7:=(k3.cell (p:=⟨b,7,none⟩) hb).trans c7;have fe0:=(k3.cell (p:=⟨d,0,none⟩) hd).trans e0;have fe1:=(k3.cell (p:=⟨d,1,none⟩) hd).trans e1;have fe2:=(k3.cell (p:=⟨d,2,none⟩) hd).trans e2)
   | (clear tk3;go_at_call 16;refine (all_at (n:=7) (xs:=[⟨#[105,102]⟩,⟨(gl l0).toArray⟩,⟨#[116,104,101,110]⟩,⟨(gl l1).toArray⟩,⟨#[101,108,115,101]⟩,⟨(gl l2).toArray⟩,⟨#[101,110,100]⟩]) rfl (by omega) (by first | exact Cl.start w3 _ _ | exact (Cl.start w3 _ _).drew | exact Cl.start w3.drew _ _) (by simp [lenL_cons,lenL_nil,dollar];omega)).mono ?_;rintro e w4 ⟨he,hv4⟩;have he2:e = .returned (.string ⟨J.toArray⟩):=(by rw [he,← hJ.out];simp [dollar]);clear he;subst he2;have k4:Below a.heap.size a w4:=(by rw [hv4];first | exact k3.alloc k3.size _ | exact (k3.alloc k3.size _).drew | exact k3.drew.alloc k3.size _);clear hv4;have f0:=(k4.cell (p:=⟨b,0,none⟩) hb).trans c0;have f7:=(k4.cell (p:=⟨b,7,none⟩) hb).trans c7;have fe0:=(k4.cell (p:=⟨d,0,none⟩) hd).trans e0;have fe1:=(k4.cell (p:=⟨d,1,none⟩) hd).trans e1;have fe2:=(k4.cell (p:=⟨d,2,none⟩) hd).trans e2))
 all_goals
  go_wp2_with fail
  go_ret
  exact ⟨by rw [← hfin.out];rfl,(by first | exact k4 | exact k4.drew)⟩
theorem in_bin {n:ByteArray}{q0:Nat}{l0:List Bs}{q1:Nat}{l1:List Bs} (kw:Below a.heap.size a w) (hb:b < a.heap.size) (c0:a.cell? ⟨b,0,none⟩=some (.string n)) (hn:n.data.toList∈opsL) (c7:a.cell? ⟨b,7,none⟩=some (.slice (some ⟨d,0,none⟩) 2 cap)) (hd:d < a.heap.size) (e0:a.cell? ⟨d,0,none⟩=some (.pointer (some ⟨q0,0,none⟩))) (e1:a.cell? ⟨d,1,none⟩=some (.pointer (some ⟨q1,0,none⟩))) (h0:HasT 6 (.pointer (some ⟨q0,0,none⟩)) l0 a) (g0:AllG l0) (h1:HasT 6 (.pointer (some ⟨q1,0,none⟩)) l1 a) (g1:AllG l1) (hB:lenL (l0 ++ n.data.toList :: l1)≤1000000000):Calls Tryz.prog 19 #[.pointer (some ⟨b,0,none⟩)] w (PlA (gl (l0 ++ n.data.toList :: l1)) a):=by
  have H0:Aside (HasT 6 (.pointer (some ⟨q0,0,none⟩)) l0 a):=h0
  clear h0
  have s0:=gl_len l0
  have z0:=sz (gl l0)
  have H1:Aside (HasT 6 (.pointer (some ⟨q1,0,none⟩)) l1 a):=h1
  clear h1
  have s1:=gl_len l1
  have z1:=sz (gl l1)
  have hns:n.size≤3:=by
   have h3:∀ x∈opsL,x.length≤3:=by decide
   rw [← bsize];exact h3 _ hn
  have ne0:(n.toList == [46])=false:=by rw [ByteArray.toList_eq];exact (by decide:∀ x∈opsL,(x == [46])=false) _ hn
  have ne1:(n.toList == [46,46])=false:=by rw [ByteArray.toList_eq];exact (by decide:∀ x∈opsL,(x == [46,46])=false) _ hn
  have ne2:(n.toList == [118,97,108])=false:=by rw [ByteArray.toList_eq];exact (by decide:∀ x∈opsL,(x == [118,97,108])=false) _ hn
  have ne3:(n.toList == [118,97,114])=false:=by rw [ByteArray.toList_eq];exact (by decide:∀ x∈opsL,(x == [118,97,114])=false) _ hn
  have ne4:(n.toList == [98,114,101,97,107])=false:=by rw [ByteArray.toList_eq];exact (by decide:∀ x∈opsL,(x == [98,114,101,97,107])=false) _ hn
  have ne5:(n.toList == [102,105,101,108,100])=false:=by rw [ByteArray.toList_eq];exact (by decide:∀ x∈opsL,(x == [102,105,101,108,100])=false) _ hn
  have ne6:(n.toList == [101,97,99,104])=false:=by rw [ByteArray.toList_eq];exact (by decide:∀ x∈opsL,(x == [101,97,99,104])=false) _ hn
  have ne7:(n.toList == [105,110,100,101,120])=false:=by rw [ByteArray.toList_eq];exact (by decide:∀ x∈opsL,(x == [105,110,100,101,120])=false) _ hn
  have ne8:(n.toList == [63])=false:=by rw [ByteArray.toList_eq];exact (by decide:∀ x∈opsL,(x == [63])=false) _ hn
  have ne9:(n.toList == [108,105,115,116])=false:=by rw [ByteArray.toList_eq];exact (by decide:∀ x∈opsL,(x == [108,105,115,116])=false) _ hn
  have ne10:(n.toList == [111,98,106,101,99,116])=false:=by rw [ByteArray.toList_eq];exact (by decide:∀ x∈opsL,(x == [111,98,106,101,99,116])=false) _ hn
  have ne11:(n.toList == [105,102])=false:=by rw [ByteArray.toList_eq];exact (by decide:∀ x∈opsL,(x == [105,102])=false) _ hn
  have ne12:(n.toList == [114,101,100,117,99,101])=false:=by rw [ByteArray.toList_eq];exact (by decide:∀ x∈opsL,(x == [114,101,100,117,99,101])=false) _ hn
  have ne13:(n.toList == [102,111,114,101,97,99,104])=false:=by rw [ByteArray.toList_eq];exact (by decide:∀ x∈opsL,(x == [102,111,114,101,97,99,104])=false) _ hn
  have ne14:(n.toList == [99,97,108,108])=false:=by rw [ByteArray.toList_eq];exact (by decide:∀ x∈opsL,(x == [99,97,108,108])=false) _ hn
  have ne15:(n.toList == [110,101,103])=false:=by rw [ByteArray.toList_eq];exact (by decide:∀ x∈opsL,(x == [110,101,103])=false) _ hn
  have ne16:(n.toList == [97,115])=false:=by rw [ByteArray.toList_eq];exact (by decide:∀ x∈opsL,(x == [97,115])=false) _ hn
  have ne17:(n.toList == [108,97,98,101,108])=false:=by rw [ByteArray.toList_eq];exact (by decide:∀ x∈opsL,(x == [108,97,98,101,108])=false) _ hn
  have ne18:(n.toList == [116,114,121])=false:=by rw [ByteArray.toList_eq];exact (by decide:∀ x∈opsL,(x == [116,114,121])=false) _ hn
  have ne19:(n.toList == [100,101,102])=false:=by rw [ByteArray.toList_eq];exact (by decide:∀ x∈opsL,(x == [100,101,102])=false) _ hn
  simp only [lenL_cons,lenL_app,lenL_nil,lenL_brk,List.length_cons,List.length_nil,bsize] at hB
  have hj:joinsB [gl l0,n.data.toList,gl l1]=gl ([l0,[n.data.toList],l1]:List (List Bs)).flatten:=by
    have:=joinsB_gl (ls:=[l0,[n.data.toList],l1]) (fun l hl=>by
      simp only [List.mem_cons,List.not_mem_nil,or_false] at hl
      rcases hl with rfl | rfl | rfl
      · exact g0
      · exact AllG.cons (gtk_op hn) .nil
      · exact g1)
    simp only [List.map_cons,List.map_nil,gl_one] at this
    exact this
  obtain ⟨J,hJ⟩:∃ J,joinsB [gl l0,n.data.toList,gl l1]=J:=⟨_,rfl⟩
  rw [hJ] at hj
  have hJl:J.length≤2000000000:=by have:=gl_len ([l0,[n.data.toList],l1]:List (List Bs)).flatten;rw [← hj] at this;simp [lenL_app,lenL_cons,lenL_nil] at this;omega
  have zJ:=sz J
  have hfin:Hid ((⟨J.toArray⟩:ByteArray)=⟨(gl (l0 ++ n.data.toList :: l1)).toArray⟩):=ba_eq (by
    show J=_
    rw [hj]
    simp)
  have hJ:Hid (joinsB [gl l0,n.data.toList,gl l1]=J):=hJ
  clear hj
  have u0:=(kw.cell (p:=⟨b,0,none⟩) hb).trans c0
  have u7:=(kw.cell (p:=⟨b,7,none⟩) hb).trans c7
  have ue0:=(kw.cell (p:=⟨d,0,none⟩) hd).trans e0
  have ue1:=(kw.cell (p:=⟨d,1,none⟩) hd).trans e1
  go_enter Tryz.func19,Tryz.ntmps19
  go_wp2_with fail
  have tk0:Aside True:=trivial
  have tk1:Aside True:=trivial
  have tk2:Aside True:=trivial
  go_region_held3 (fun w'=>w'.cell? ⟨b,0,none⟩=some (.string n)∧w'.cell? ⟨b,7,none⟩=some (.slice (some ⟨d,0,none⟩) 2 cap)∧w'.cell? ⟨d,0,none⟩=some (.pointer (some ⟨q0,0,none⟩))∧w'.cell? ⟨d,1,none⟩=some (.pointer (some ⟨q1,0,none⟩))) (first | exact ⟨f0,f7,fe0,fe1⟩ | go_keep)
    (first
      | (clear tk0;go_at_call 6;refine (H0.out _ (by first | exact kw | exact kw.drew)).mono ?_;rintro e w1 ⟨rfl,k1⟩;have f0:=(k1.cell (p:=⟨b,0,none⟩) hb).trans c0;have f7:=(k1.cell (p:=⟨b,7,none⟩) hb).trans c7;have fe0:=(k1.cell (p:=⟨d,0,none⟩) hd).trans e0;have fe1:=(k1.cell (p:=⟨d,1,none⟩) hd).trans e1)
      | (clear tk1;go_at_call 6;refine (H1.out _ (by first | exact k1 | exact k1.drew)).mono ?_;rintro e w2 ⟨rfl,k2⟩;have f0:=(k2.cell (p:=⟨b,0,none⟩) hb).trans c0;have f7:=(k2.cell (p:=⟨b,7,none⟩) hb).trans c7;have fe0:=(k2.cell (p:=⟨d,0,none⟩) hd).trans e0;have fe1:=(k2.cell (p:=⟨d,1,none⟩) hd).trans e1)
      | (clear tk2;go_at_call 16;refine (all_at (n:=3) (xs:=[⟨(gl l0).toArray⟩,n,⟨(gl l1).toArray⟩]) rfl (by omega) (by first | exact Cl.start w2 _ _ | exact (Cl.start w2 _ _).drew | exact Cl.start w2.drew _ _) (by simp [lenL_cons,lenL_nil,dollar];omega)).mono ?_;rintro e w3 ⟨he,hv3⟩;have he2:e = .returned (.string ⟨J.toArray⟩):=(by rw [he,← hJ.out];simp [dollar]);clear he;subst he2;have k3:Below a.heap.size a w3:=(by rw [hv3];first | exact k2.alloc k2.size _ | exact (k2.alloc k2.size _).drew | exact k2.drew.alloc k2.size _);clear hv3;have f0:=(k3.cell (p:=⟨b,0,none⟩) hb).trans c0;have f7:=(k3.cell (p:=⟨b,7,none⟩) hb).trans c7;have fe0:=(k3.cell (p:=⟨d,0,none⟩) hd).trans e0;have fe1:=(k3.cell (p:=⟨d,1,none⟩) hd).trans e1))
  all_goals
    go_wp2_with fail
    go_ret
    exact ⟨by rw [← hfin.out];rfl,(by first | exact k3 | exact k3.drew)⟩
theorem in_as {n:ByteArray}{q0:Nat}{l0:List Bs}{q1:Nat}{l1:List Bs} (kw:Below a.heap.size a w) (hb:b < a.heap.size) (c0:a.cell? ⟨b,0,none⟩=some (.string ⟨#[97,115]⟩)) (c1:a.cell? ⟨b,1,none⟩=some (.string n)) (hn:GNm n) (c7:a.cell? ⟨b,7,none⟩=some (.slice (some ⟨d,0,none⟩) 2 cap)) (hd:d < a.heap.size) (e0:a.cell? ⟨d,0,none⟩=some (.pointer (some ⟨q0,0,none⟩))) (e1:a.cell? ⟨d,1,none⟩=some (.pointer (some ⟨q1,0,none⟩))) (h0:HasT 17 (.pointer (some ⟨q0,0,none⟩)) l0 a) (g0:AllG l0) (h1:HasT 6 (.pointer (some ⟨q1,0,none⟩)) l1 a) (g1:AllG l1) (hB:lenL (l0 ++ [97,115] :: (36 :: n.data.toList) :: [124] :: l1)≤1000000000):Calls Tryz.prog 19 #[.pointer (some ⟨b,0,none⟩)] w (PlA (gl (l0 ++ [97,115] :: (36 :: n.data.toList) :: [124] :: l1)) a):=by
 have H0:Aside (HasT 17 (.pointer (some ⟨q0,0,none⟩)) l0 a):=h0
 clear h0
 have s0:=gl_len l0
 have z0:=sz (gl l0)
 have H1:Aside (HasT 6 (.pointer (some ⟨q1,0,none⟩)) l1 a):=h1
 clear h1
 have s1:=gl_len l1
 have z1:=sz (gl l1)
 have hns:=hn.2.2
 simp only [lenL_cons,lenL_app,lenL_nil,lenL_brk,List.length_cons,List.length_nil,bsize] at hB
 have hj:joinsB [gl l0,[97,115],(36 :: n.data.toList)]=gl ([l0,[[97,115]],[36 :: n.data.toList]]:List (List Bs)).flatten:=by
  have:=joinsB_gl (ls:=[l0,[[97,115]],[36 :: n.data.toList]]) (fun l hl=>by
   simp only [List.mem_cons,List.not_mem_nil,or_false] at hl
   rcases hl with rfl | rfl | rfl
   ·exact g0
   ·exact AllG.lit (by decide) .nil
   ·exact AllG.cons (gtk_var hn).1 .nil)
  simp only [List.map_cons,List.map_nil,gl_one] at this
  exact this
 obtain ⟨J,hJ⟩:∃ J,joinsB [gl l0,[97,115],(36 :: n.data.toList)]=J:=⟨_,rfl⟩
 rw [hJ] at hj
 have hJl:J.length≤2000000000:=by have:=gl_len ([l0,[[97,115]],[36 :: n.data.toList]]:List (List Bs)).flatten;rw [← hj] at this;simp [lenL_app,lenL_cons,lenL_nil] at this;omega
 have zJ:=sz J
 have hfin:Hid (((⟨J.toArray⟩:ByteArray) ++ (⟨#[124]⟩:ByteArray) ++ (⟨(gl l1).toArray⟩:ByteArray))=⟨(gl (l0 ++ [97,115] :: (36 :: n.data.toList) :: [124] :: l1)).toArray⟩):=ba_eq (by
  rw [show (l0 ++ [97,115] :: (36 :: n.data.toList) :: [124] :: l1)=(l0 ++ [[97,115],36 :: n.data.toList]) ++ [124] :: l1 by simp,gl_app (x:=[124]) rfl]
  simp [hj])
 have hJ:Hid (joinsB [gl l0,[97,115],(36 :: n.data.toList)]=J):=hJ
 clear hj
 have sz0:¬ 9223372036854775807 < 1+n.size:=by omega
 have sz1:¬ 9223372036854775807 < J.length+1:=by omega
 have sz2:¬ 9223372036854775807 < J.length+1+(gl l1).length:=by omega
 have u0:=(kw.cell (p:=⟨b,0,none⟩) hb).trans c0
 have u1:=(kw.cell (p:=⟨b,1,none⟩) hb).trans c1
 have u7:=(kw.cell (p:=⟨b,7,none⟩) hb).trans c7
 have ue0:=(kw.cell (p:=⟨d,0,none⟩) hd).trans e0
 have ue1:=(kw.cell (p:=⟨d,1,none⟩) hd).trans e1
 go_enter Tryz.func19,Tryz.ntmps19
 go_wp2_with fail
 have tk0:Aside True:=trivial
 have tk1:Aside True:=trivial
 have tk2:Aside True:=trivial
 go_region_held3 (fun w'=>w'.cell? ⟨b,0,none⟩=some (.string ⟨#[97,115]⟩)∧w'.cell? ⟨b,1,none⟩=some (.string n)∧w'.cell? ⟨b,7,none⟩=some (.slice (some ⟨d,0,none⟩) 2 cap)∧w'.cell? ⟨d,0,none⟩=some (.pointer (some ⟨q0,0,none⟩))∧w'.cell? ⟨d,1,none⟩=some (.pointer (some ⟨q1,0,none⟩))) (first | exact ⟨f0,f1,f7,fe0,fe1⟩ | go_keep)
  (first
   | (clear tk0;go_at_call 17;refine (H0.out _ (by first | exact kw | exact kw.drew)).mono ?_;rintro e w1 ⟨rfl,k1⟩;have f0:=(k1.cell (p:=⟨b,0,none⟩) hb).trans c0;have f1:=(k1.cell (p:=⟨b,1,none⟩) hb).trans c1;have f7:=(k1.cell (p:=⟨b,7,none⟩) hb).trans c7;have fe0:=(k1.cell (p:=⟨d,0,none⟩) hd).trans e0;have fe1:=(k1.cell (p:=⟨d,1,none⟩) hd).trans e1)
   | (clear tk1;go_at_call 16;refine (all_at (n:=3) (xs:=[⟨(gl l0).toArray⟩,⟨#[97,115]⟩,(⟨#[36]⟩ ++ n)]) rfl (by omega) (by first | exact Cl.start w1 _ _ | exact (Cl.start w1 _ _).drew | exact Cl.start w1.drew _ _) (by simp [lenL_cons,lenL_nil,dollar];omega)).mono ?_;rintro e w2 ⟨he,hv2⟩;have he2:e = .returned (.string ⟨J.toArray⟩):=(by rw [he,← hJ.out];simp [dollar]);clear he;subst he2;have k2:Below a.heap.size a w2:=(by rw [hv2];first | exact k1.alloc k1.size _ | exact (k1.alloc k1.size _).drew | exact k1.drew.alloc k1.size _);clear hv2;have f0:=(k2.cell (p:=⟨b,0,none⟩) hb).trans c0;have f1:=(k2.cell (p:=⟨b,1,none⟩) hb).trans c1;have f7:=(k2.cell (p:=⟨b,7,none⟩) hb).trans c7;have fe0:=(k2.cell (p:=⟨d,0,none⟩) hd).trans e0;have fe1:=(k2.cell (p:=⟨d,1,none⟩) hd).trans e1)
   | (clear tk2;go_at_call 6;refine (H1.out _ (by first | exact k2 | exact k2.drew)).mono ?_;rintro e w3 ⟨rfl,k3⟩;have f0:=(k3.cell (p:=⟨b,0,none⟩) hb).trans c0;have f1:=(k3.cell (p:=⟨b,1,none⟩) hb).trans c1;have f7:=(k3.cell (p:=⟨b,7,none⟩) hb).trans c7;have fe0:=(k3.cell (p:=⟨d,0,none⟩) hd).trans e0;have fe1:=(k3.cell (p:=⟨d,1,none⟩) hd).trans e1))
 all_goals
  go_wp2_with fail
  go_ret
  exact ⟨by rw [← hfin.out];rfl,(by first | exact k3 | exact k3.drew)⟩
theorem in_label {n:ByteArray}{q0:Nat}{l0:List Bs} (kw:Below a.heap.size a w) (hb:b < a.heap.size) (c0:a.cell? ⟨b,0,none⟩=some (.string ⟨#[108,97,98,101,108]⟩)) (c1:a.cell? ⟨b,1,none⟩=some (.string n)) (hn:GNm n) (c7:a.cell? ⟨b,7,none⟩=some (.slice (some ⟨d,0,none⟩) 1 cap)) (hd:d < a.heap.size) (e0:a.cell? ⟨d,0,none⟩=some (.pointer (some ⟨q0,0,none⟩))) (h0:HasT 6 (.pointer (some ⟨q0,0,none⟩)) l0 a) (g0:AllG l0) (hB:lenL ([108,97,98,101,108] :: (36 :: n.data.toList) :: [124] :: l0)≤1000000000):Calls Tryz.prog 19 #[.pointer (some ⟨b,0,none⟩)] w (PlA (gl ([108,97,98,101,108] :: (36 :: n.data.toList) :: [124] :: l0)) a):=by
 have H0:Aside (HasT 6 (.pointer (some ⟨q0,0,none⟩)) l0 a):=h0
 clear h0
 have s0:=gl_len l0
 have z0:=sz (gl l0)
 have hns:=hn.2.2
 simp only [lenL_cons,lenL_app,lenL_nil,lenL_brk,List.length_cons,List.length_nil,bsize] at hB
 have hfin:Hid (((⟨#[108,97,98,101,108,32,36]⟩:ByteArray) ++ n ++ (⟨#[124]⟩:ByteArray) ++ (⟨(gl l0).toArray⟩:ByteArray))=⟨(gl ([108,97,98,101,108] :: (36 :: n.data.toList) :: [124] :: l0)).toArray⟩):=ba_eq (by
  rw [gl_word (x:=[108,97,98,101,108]) (y:=36 :: n.data.toList) rfl rfl,show ((36 :: n.data.toList) :: [124] :: l0)=[36 :: n.data.toList] ++ [124] :: l0 from rfl,gl_app (x:=[124]) rfl,gl_one]
  simp)
 have sz0:¬ 9223372036854775807 < 7+n.size:=by omega
 have sz1:¬ 9223372036854775807 < 7+n.size+1:=by omega
 have sz2:¬ 9223372036854775807 < 7+n.size+1+(gl l0).length:=by omega
 have u0:=(kw.cell (p:=⟨b,0,none⟩) hb).trans c0
 have u1:=(kw.cell (p:=⟨b,1,none⟩) hb).trans c1
 have u7:=(kw.cell (p:=⟨b,7,none⟩) hb).trans c7
 have ue0:=(kw.cell (p:=⟨d,0,none⟩) hd).trans e0
 go_enter Tryz.func19,Tryz.ntmps19
 go_wp2_with fail
 have tk0:Aside True:=trivial
 go_region_held3 (fun w'=>w'.cell? ⟨b,0,none⟩=some (.string ⟨#[108,97,98,101,108]⟩)∧w'.cell? ⟨b,1,none⟩=some (.string n)∧w'.cell? ⟨b,7,none⟩=some (.slice (some ⟨d,0,none⟩) 1 cap)∧w'.cell? ⟨d,0,none⟩=some (.pointer (some ⟨q0,0,none⟩))) (first | exact ⟨f0,f1,f7,fe0⟩ | go_keep)
  (first
   | (clear tk0;go_at_call 6;refine (H0.out _ (by first | exact kw | exact kw.drew)).mono ?_;rintro e w1 ⟨rfl,k1⟩;have f0:=(k1.cell (p:=⟨b,0,none⟩) hb).trans c0;have f1:=(k1.cell (p:=⟨b,1,none⟩) hb).trans c1;have f7:=(k1.cell (p:=⟨b,7,none⟩) hb).trans c7;have fe0:=(k1.cell (p:=⟨d,0,none⟩) hd).trans e0))
 all_goals
  go_wp2_with fail
  go_ret
  exact ⟨by rw [← hfin.out];rfl,(by first | exact k1 | exact k1.drew)⟩
theorem in_try2 {q0:Nat}{l0:List Bs}{q1:Nat}{l1:List Bs} (kw:Below a.heap.size a w) (hb:b < a.heap.size) (c0:a.cell? ⟨b,0,none⟩=some (.string ⟨#[116,114,121]⟩)) (c7:a.cell? ⟨b,7,none⟩=some (.slice (some ⟨d,0,none⟩) 2 cap)) (hd:d < a.heap.size) (e0:a.cell? ⟨d,0,none⟩=some (.pointer (some ⟨q0,0,none⟩))) (e1:a.cell? ⟨d,1,none⟩=some (.pointer (some ⟨q1,0,none⟩))) (h0:HasT 6 (.pointer (some ⟨q0,0,none⟩)) l0 a) (g0:AllG l0) (h1:HasT 6 (.pointer (some ⟨q1,0,none⟩)) l1 a) (g1:AllG l1) (hB:lenL ([116,114,121] :: (l0 ++ [99,97,116,99,104] :: l1))≤1000000000):Calls Tryz.prog 19 #[.pointer (some ⟨b,0,none⟩)] w (PlA (gl ([116,114,121] :: (l0 ++ [99,97,116,99,104] :: l1))) a):=by
 have H0:Aside (HasT 6 (.pointer (some ⟨q0,0,none⟩)) l0 a):=h0
 clear h0
 have s0:=gl_len l0
 have z0:=sz (gl l0)
 have H1:Aside (HasT 6 (.pointer (some ⟨q1,0,none⟩)) l1 a):=h1
 clear h1
 have s1:=gl_len l1
 have z1:=sz (gl l1)
 simp only [lenL_cons,lenL_app,lenL_nil,lenL_brk,List.length_cons,List.length_nil,bsize] at hB
 have hj:joinsB [[116,114,121],gl l0,[99,97,116,99,104],gl l1]=gl ([[[116,114,121]],l0,[[99,97,116,99,104]],l1]:List (List Bs)).flatten:=by
  have:=joinsB_gl (ls:=[[[116,114,121]],l0,[[99,97,116,99,104]],l1]) (fun l hl=>by
   simp only [List.mem_cons,List.not_mem_nil,or_false] at hl
   rcases hl with rfl | rfl | rfl | rfl
   ·exact AllG.lit (by decide) .nil
   ·exact g0
   ·exact AllG.lit (by decide) .nil
   ·exact g1)
  simp only [List.map_cons,List.map_nil,gl_one] at this
  exact this
 obtain ⟨J,hJ⟩:∃ J,joinsB [[116,114,121],gl l0,[99,97,116,99,104],gl l1]=J:=⟨_,rfl⟩
 rw [hJ] at hj
 have hJl:J.length≤2000000000:=by have:=gl_len ([[[116,114,121]],l0,[[99,97,116,99,104]],l1]:List (List Bs)).flatten;rw [← hj] at this;simp [lenL_app,lenL_cons,lenL_nil] at this;omega
 have zJ:=sz J
 have hfin:Hid ((⟨J.toArray⟩:ByteArray)=⟨(gl ([116,114,121] :: (l0 ++ [99,97,116,99,104] :: l1))).toArray⟩):=ba_eq (by
  show J=_
  rw [hj]
  simp)
 have hJ:Hid (joinsB [[116,114,121],gl l0,[99,97,116,99,104],gl l1]=J):=hJ
 clear hj
 have u0:=(kw.cell (p:=⟨b,0,none⟩) hb).trans c0
 have u7:=(kw.cell (p:=⟨b,7,none⟩) hb).trans c7
 have ue0:=(kw.cell (p:=⟨d,0,none⟩) hd).trans e0
 have ue1:=(kw.cell (p:=⟨d,1,none⟩) hd).trans e1
 go_enter Tryz.func19,Tryz.ntmps19
 go_wp2_with fail
 have tk0:Aside True:=trivial
 have tk1:Aside True:=trivial
 have tk2:Aside True:=trivial
 go_region_held3 (fun w'=>w'.cell? ⟨b,0,none⟩=some (.string ⟨#[116,114,121]⟩)∧w'.cell? ⟨b,7,none⟩=some (.slice (some ⟨d,0,none⟩) 2 cap)∧w'.cell? ⟨d,0,none⟩=some (.pointer (some ⟨q0,0,none⟩))∧w'.cell? ⟨d,1,none⟩=some (.pointer (some ⟨q1,0,none⟩))) (first | exact ⟨f0,f7,fe0,fe1⟩ | go_keep)
  (first
   | (clear tk0;go_at_call 6;refine (H0.out _ (by first | exact kw | exact kw.drew)).mono ?_;rintro e w1 ⟨rfl,k1⟩;have f0:=(k1.cell (p:=⟨b,0,none⟩) hb).trans c0;have f7:=(k1.cell (p:=⟨b,7,none⟩) hb).trans c7;have fe0:=(k1.cell (p:=⟨d,0,none⟩) hd).trans e0;have fe1:=(k1.cell (p:=⟨d,1,none⟩) hd).trans e1)
   | (clear tk1;go_at_call 6;refine (H1.out _ (by first | exact k1 | exact k1.drew)).mono ?_;rintro e w2 ⟨rfl,k2⟩;have f0:=(k2.cell (p:=⟨b,0,none⟩) hb).trans c0;have f7:=(k2.cell (p:=⟨b,7,none⟩) hb).trans c7;have fe0:=(k2.cell (p:=⟨d,0,none⟩) hd).trans e0;have fe1:=(k2.cell (p:=⟨d,1,none⟩) hd).trans e1)
   | (clear tk2;go_at_call 16;refine (all_at (n:=4) (xs:=[⟨#[116,114,121]⟩,⟨(gl l0).toArray⟩,⟨#[99,97,116,99,104]⟩,⟨(gl l1).toArray⟩]) rfl (by omega) (by first | exact Cl.start w2 _ _ | exact (Cl.start w2 _ _).drew | exact Cl.start w2.drew _ _) (by simp [lenL_cons,lenL_nil,dollar];omega)).mono ?_;rintro e w3 ⟨he,hv3⟩;have he2:e = .returned (.string ⟨J.toArray⟩):=(by rw [he,← hJ.out];simp [dollar]);clear he;subst he2;have k3:Below a.heap.size a w3:=(by rw [hv3];first | exact k2.alloc k2.size _ | exact (k2.alloc k2.size _).drew | exact k2.drew.alloc k2.size _);clear hv3;have f0:=(k3.cell (p:=⟨b,0,none⟩) hb).trans c0;have f7:=(k3.cell (p:=⟨b,7,none⟩) hb).trans c7;have fe0:=(k3.cell (p:=⟨d,0,none⟩) hd).trans e0;have fe1:=(k3.cell (p:=⟨d,1,none⟩) hd).trans e1))
 all_goals
  go_wp2_with fail
  go_ret
  exact ⟨by rw [← hfin.out];rfl,(by first | exact k3 | exact k3.drew)⟩
end
end Go.Proofs.Tryz
