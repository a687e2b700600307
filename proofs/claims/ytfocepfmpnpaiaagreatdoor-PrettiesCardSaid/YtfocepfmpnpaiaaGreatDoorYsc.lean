import Derived.Test.YtfocepfmpnpaiaaGreatDoorYqd
import Derived.Test.YtfocepfmpnpaiaaGreatDoorYs7
set_option linter.all false
namespace Go.Proofs.Tryz
set_option maxHeartbeats 16000000
open Go.RowKit
set_option maxRecDepth 10000
section
variable {a w : World} {b d cap : Nat}
theorem rp_reduce {n:ByteArray}{q0:Nat}{l0:List Bs}{q1:Nat}{l1:List Bs}{q2:Nat}{l2:List Bs} (kw:Below a.heap.size a w) (hb:b < a.heap.size) (c0:a.cell? ⟨b,0,none⟩=some (.string ⟨#[114,101,100,117,99,101]⟩)) (c1:a.cell? ⟨b,1,none⟩=some (.string n)) (hn:GNm n) (c7:a.cell? ⟨b,7,none⟩=some (.slice (some ⟨d,0,none⟩) 3 cap)) (hd:d < a.heap.size) (e0:a.cell? ⟨d,0,none⟩=some (.pointer (some ⟨q0,0,none⟩))) (e1:a.cell? ⟨d,1,none⟩=some (.pointer (some ⟨q1,0,none⟩))) (e2:a.cell? ⟨d,2,none⟩=some (.pointer (some ⟨q2,0,none⟩))) (h0:HasT 17 (.pointer (some ⟨q0,0,none⟩)) l0 a) (g0:AllG l0) (h1:HasT 6 (.pointer (some ⟨q1,0,none⟩)) l1 a) (g1:AllG l1) (h2:HasT 6 (.pointer (some ⟨q2,0,none⟩)) l2 a) (g2:AllG l2) (hB:lenL ([114,101,100,117,99,101] :: (l0 ++ [97,115] :: (36 :: n.data.toList) :: brk (l1 ++ [59] :: l2)))≤1000000000):Calls Tryz.prog 6 #[.pointer (some ⟨b,0,none⟩)] w (PlA (gl ([114,101,100,117,99,101] :: (l0 ++ [97,115] :: (36 :: n.data.toList) :: brk (l1 ++ [59] :: l2)))) a):=by
 have H0:Aside (HasT 17 (.pointer (some ⟨q0,0,none⟩)) l0 a):=h0
 clear h0
 have s0:=gl_len l0
 have z0:=sz (gl l0)
 have H1:Aside (HasT 6 (.pointer (some ⟨q1,0,none⟩)) l1 a):=h1
 clear h1
 have s1:=gl_len l1
 have z1:=sz (gl l1)
 have H2:Aside (HasT 6 (.pointer (some ⟨q2,0,none⟩)) l2 a):=h2
 clear h2
 have s2:=gl_len l2
 have z2:=sz (gl l2)
 have hns:=hn.2.2
 simp only [lenL_cons,lenL_app,lenL_nil,lenL_brk,List.length_cons,List.length_nil,bsize] at hB
 have hj:joinsB [[114,101,100,117,99,101],gl l0,[97,115],(36 :: n.data.toList)]=gl ([[[114,101,100,117,99,101]],l0,[[97,115]],[36 :: n.data.toList]]:List (List Bs)).flatten:=by
  have:=joinsB_gl (ls:=[[[114,101,100,117,99,101]],l0,[[97,115]],[36 :: n.data.toList]]) (fun l hl=>by
   simp only [List.mem_cons,List.not_mem_nil,or_false] at hl
   rcases hl with rfl | rfl | rfl | rfl
   ·exact AllG.lit (by decide) .nil
   ·exact g0
   ·exact AllG.lit (by decide) .nil
   ·exact AllG.cons (gtk_var hn).1 .nil)
  simp only [List.map_cons,List.map_nil,gl_one] at this
  exact this
 obtain ⟨J,hJ⟩:∃ J,joinsB [[114,101,100,117,99,101],gl l0,[97,115],(36 :: n.data.toList)]=J:=⟨_,rfl⟩
 rw [hJ] at hj
 have hJl:J.length≤2000000000:=by have:=gl_len ([[[114,101,100,117,99,101]],l0,[[97,115]],[36 :: n.data.toList]]:List (List Bs)).flatten;rw [← hj] at this;simp [lenL_app,lenL_cons,lenL_nil] at this;omega
 have zJ:=sz J
 have hfin:Hid (((⟨J.toArray⟩:ByteArray) ++ (⟨#[40]⟩:ByteArray) ++ (⟨(gl l1).toArray⟩:ByteArray) ++ (⟨#[59]⟩:ByteArray) ++ (⟨(gl l2).toArray⟩:ByteArray) ++ (⟨#[41]⟩:ByteArray))=⟨(gl ([114,101,100,117,99,101] :: (l0 ++ [97,115] :: (36 :: n.data.toList) :: brk (l1 ++ [59] :: l2)))).toArray⟩):=ba_eq (by
  rw [show ([114,101,100,117,99,101] :: (l0 ++ [97,115] :: (36 :: n.data.toList) :: brk (l1 ++ [59] :: l2)))=([114,101,100,117,99,101] :: (l0 ++ [[97,115],36 :: n.data.toList])) ++ [40] :: (l1 ++ [59] :: (l2 ++ [[41]])) by simp [brk],gl_app (x:=[40]) rfl,gl_app (x:=[59]) rfl,gl_app (x:=[41]) rfl,gl_nil]
  simp [hj])
 have hJ:Hid (joinsB [[114,101,100,117,99,101],gl l0,[97,115],(36 :: n.data.toList)]=J):=hJ
 clear hj
 have sz0:¬ 9223372036854775807 < 1+n.size:=by omega
 have sz1:¬ 9223372036854775807 < J.length+1:=by omega
 have sz2:¬ 9223372036854775807 < J.length+1+(gl l1).length:=by omega
 have sz3:¬ 9223372036854775807 < J.length+1+(gl l1).length+1:=by omega
 have sz4:¬ 9223372036854775807 < J.length+1+(gl l1).length+1+(gl l2).length:=by omega
 have sz5:¬ 9223372036854775807 < J.length+1+(gl l1).length+1+(gl l2).length+1:=by omega
 have u0:=(kw.cell (p:=⟨b,0,none⟩) hb).trans c0
 have u1:=(kw.cell (p:=⟨b,1,none⟩) hb).trans c1
 have u7:=(kw.cell (p:=⟨b,7,none⟩) hb).trans c7
 have ue0:=(kw.cell (p:=⟨d,0,none⟩) hd).trans e0
 have ue1:=(kw.cell (p:=⟨d,1,none⟩) hd).trans e1
 have ue2:=(kw.cell (p:=⟨d,2,none⟩) hd).trans e2
 go_enter Tryz.func6,Tryz.ntmps6
 go_wp2_with fail
 have tk0:Aside True:=trivial
 have tk1:Aside True:=trivial
 have tk2:Aside True:=trivial
 have tk3:Aside True:=trivial
 go_region_held3 (fun w'=>w'.cell? ⟨b,0,none⟩=some (.string ⟨#[114,101,100,117,99,101]⟩)∧w'.cell? ⟨b,1,none⟩=some (.string n)∧w'.cell? ⟨b,7,none⟩=some (.slice (some ⟨d,0,none⟩) 3 cap)∧w'.cell? ⟨d,0,none⟩=some (.pointer (some ⟨q0,0,none⟩))∧w'.cell? ⟨d,1,none⟩=some (.pointer (some ⟨q1,0,none⟩))∧w'.cell? ⟨d,2,none⟩=some (.pointer (some ⟨q2,0,none⟩))) (first | exact ⟨f0,f1,f7,fe0,fe1,fe2⟩ | go_keep)
  (first
   | (clear tk0;go_at_call 17;refine (H0.out _ (by first | exact kw | exact kw.drew)).mono ?_;rintro e w1 ⟨rfl,k1⟩;have f0:=(k1.cell (p:=⟨b,0,none⟩) hb).trans c0;have f1:=(k1.cell (p:=⟨b,1,none⟩) hb).trans c1;have f7:=(k1.cell (p:=⟨b,7,none⟩) hb).trans c7;have fe0:=(k1.cell (p:=⟨d,0,none⟩) hd).trans e0;have fe1:=(k1.cell (p:=⟨d,1,none⟩) hd).trans e1;have fe2:=(k1.cell (p:=⟨d,2,none⟩) hd).trans e2)
   | (clear tk1;go_at_call 16;refine (all_at (n:=4) (xs:=[⟨#[114,101,100,117,99,101]⟩,⟨(gl l0).toArray⟩,⟨#[97,115]⟩,(⟨#[36]⟩ ++ n)]) rfl (by omega) (by first | exact Cl.start w1 _ _ | exact (Cl.start w1 _ _).drew | exact Cl.start w1.drew _ _) (by simp [lenL_cons,lenL_nil,dollar];omega)).mono ?_;rintro e w2 ⟨he,hv2⟩;have he2:e = .returned (.string ⟨J.toArray⟩):=(by rw [he,← hJ.out];simp [dollar]);clear he;subst he2;have k2:Below a.heap.size a w2:=(by rw [hv2];first | exact k1.alloc k1.size _ | exact (k1.alloc k1.size _).drew | exact k1.drew.alloc k1.size _);clear hv2;have f0:=(k2.cell (p:=⟨b,0,none⟩) hb).trans c0;have f1:=(k2.cell (p:=⟨b,1,none⟩) hb).trans c1;have f7:=(k2.cell (p:=⟨b,7,none⟩) hb).trans c7;have fe0:=(k2.cell (p:=⟨d,0,none⟩) hd).trans e0;have fe1:=(k2.cell (p:=⟨d,1,none⟩) hd).trans e1;have fe2:=(k2.cell (p:=⟨d,2,none⟩) hd).trans e2)
   | (clear tk2;go_at_call 6;refine (H1.out _ (by first | exact k2 | exact k2.drew)).mono ?_;rintro e w3 ⟨rfl,k3⟩;have f0:=(k3.cell (p:=⟨b,0,none⟩) hb).trans c0;have f1:=(k3.cell (p:=⟨b,1,none⟩) hb).trans c1;have f7:=(k3.cell (p:=⟨b,7,none⟩) hb).trans c7;have fe0:=(k3.cell (p:=⟨d,0,none⟩) hd).trans e0;have fe1:=(k3.cell (p:=⟨d,1,none⟩) hd).trans e1;have fe2:=(k3.cell (p:=⟨d,2,none⟩) hd).trans e2)
   | (clear tk3;go_at_call 6;refine (H2.out _ (by first | exact k3 | exact k3.drew)).mono ?_;rintro e w4 ⟨rfl,k4⟩;have f0:=(k4.cell (p:=⟨b,0,none⟩) hb).trans c0;have f1:=(k4.cell (p:=⟨b,1,none⟩) hb).trans c1;have f7:=(k4.cell (p:=⟨b,7,none⟩) hb).trans c7;have fe0:=(k4.cell (p:=⟨d,0,none⟩) hd).trans e0;have fe1:=(k4.cell (p:=⟨d,1,none⟩) hd).trans e1;have fe2:=(k4.cell (p:=⟨d,2,none⟩) hd).trans e2))
 all_goals
  go_wp2_with fail
  go_ret
  exact ⟨by rw [← hfin.out];rfl,(by first | exact k4 | exact k4.drew)⟩
theorem rp_foreach {n:ByteArray}{q0:Nat}{l0:List Bs}{q1:Nat}{l1:List Bs}{q2:Nat}{l2:List Bs}{q3:Nat}{l3:List Bs} (kw:Below a.heap.size a w) (hb:b < a.heap.size) (c0:a.cell? ⟨b,0,none⟩=some (.string ⟨#[102,111,114,101,97,99,104]⟩)) (c1:a.cell? ⟨b,1,none⟩=some (.string n)) (hn:GNm n) (c7:a.cell? ⟨b,7,none⟩=some (.slice (some ⟨d,0,none⟩) 4 cap)) (hd:d < a.heap.size) (e0:a.cell? ⟨d,0,none⟩=some (.pointer (some ⟨q0,0,none⟩))) (e1:a.cell? ⟨d,1,none⟩=some (.pointer (some ⟨q1,0,none⟩))) (e2:a.cell? ⟨d,2,none⟩=some (.pointer (some ⟨q2,0,none⟩))) (e3:a.cell? ⟨d,3,none⟩=some (.pointer (some ⟨q3,0,none⟩))) (h0:HasT 17 (.pointer (some ⟨q0,0,none⟩)) l0 a) (g0:AllG l0) (h1:HasT 6 (.pointer (some ⟨q1,0,none⟩)) l1 a) (g1:AllG l1) (h2:HasT 6 (.pointer (some ⟨q2,0,none⟩)) l2 a) (g2:AllG l2) (h3:HasT 6 (.pointer (some ⟨q3,0,none⟩)) l3 a) (g3:AllG l3) (hB:lenL ([102,111,114,101,97,99,104] :: (l0 ++ [97,115] :: (36 :: n.data.toList) :: brk (l1 ++ [59] :: (l2 ++ [59] :: l3))))≤1000000000):Calls Tryz.prog 6 #[.pointer (some ⟨b,0,none⟩)] w (PlA (gl ([102,111,114,101,97,99,104] :: (l0 ++ [97,115] :: (36 :: n.data.toList) :: brk (l1 ++ [59] :: (l2 ++ [59] :: l3))))) a):=by
 have H0:Aside (HasT 17 (.pointer (some ⟨q0,0,none⟩)) l0 a):=h0
 clear h0
 have s0:=gl_len l0
 have z0:=sz (gl l0)
 have H1:Aside (HasT 6 (.pointer (some ⟨q1,0,none⟩)) l1 a):=h1
 clear h1
 have s1:=gl_len l1
 have z1:=sz (gl l1)
 have H2:Aside (HasT 6 (.pointer (some ⟨q2,0,none⟩)) l2 a):=h2
 clear h2
 have s2:=gl_len l2
 have z2:=sz (gl l2)
 have H3:Aside (HasT 6 (.pointer (some ⟨q3,0,none⟩)) l3 a):=h3
 clear h3
 have s3:=gl_len l3
 have z3:=sz (gl l3)
 have hns:=hn.2.2
 simp only [lenL_cons,lenL_app,lenL_nil,lenL_brk,List.length_cons,List.length_nil,bsize] at hB
 have hj:joinsB [[102,111,114,101,97,99,104],gl l0,[97,115],(36 :: n.data.toList)]=gl ([[[102,111,114,101,97,99,104]],l0,[[97,115]],[36 :: n.data.toList]]:List (List Bs)).flatten:=by
  have:=joinsB_gl (ls:=[[[102,111,114,101,97,99,104]],l0,[[97,115]],[36 :: n.data.toList]]) (fun l hl=>by
   simp only [List.mem_cons,List.not_mem_nil,or_false] at hl
   rcases hl with rfl | rfl | rfl | rfl
   ·exact AllG.lit (by decide) .nil
   ·exact g0
   ·exact AllG.lit (by decide) .nil
   ·exact AllG.cons (gtk_var hn).1 .nil)
  simp only [List.map_cons,List.map_nil,gl_one] at this
  exact this
 obtain ⟨J,hJ⟩:∃ J,joinsB [[102,111,114,101,97,99,104],gl l0,[97,115],(36 :: n.data.toList)]=J:=⟨_,rfl⟩
 rw [hJ] at hj
 have hJl:J.length≤2000000000:=by have:=gl_len ([[[102,111,114,101,97,99,104]],l0,[[97,115]],[36 :: n.data.toList]]:List (List Bs)).flatten;rw [← hj] at this;simp [lenL_app,lenL_cons,lenL_nil] at this;omega
 have zJ:=sz J
 have hfin:Hid (((⟨J.toArray⟩:ByteArray) ++ (⟨#[40]⟩:ByteArray) ++ (⟨(gl l1).toArray⟩:ByteArray) ++ (⟨#[59]⟩:ByteArray) ++ (⟨(gl l2).toArray⟩:ByteArray) ++ ((⟨#[59]⟩:ByteArray)) ++ (⟨(gl l3).toArray⟩:ByteArray) ++ (⟨#[41]⟩:ByteArray))=⟨(gl ([102,111,114,101,97,99,104] :: (l0 ++ [97,115] :: (36 :: n.data.toList) :: brk (l1 ++ [59] :: (l2 ++ [59] :: l3))))).toArray⟩):=ba_eq (by
  rw [show ([102,111,114,101,97,99,104] :: (l0 ++ [97,115] :: (36 :: n.data.toList) :: brk (l1 ++ [59] :: (l2 ++ [59] :: l3))))=([102,111,114,101,97,99,104] :: (l0 ++ [[97,115],36 :: n.data.toList])) ++ [40] :: (l1 ++ [59] :: (l2 ++ [59] :: (l3 ++ [[41]]))) by simp [brk],gl_app (x:=[40]) rfl,gl_app (x:=[59]) rfl,gl_app (x:=[59]) rfl,gl_app (x:=[41]) rfl,gl_nil]
  simp [hj])
 have hJ:Hid (joinsB [[102,111,114,101,97,99,104],gl l0,[97,115],(36 :: n.data.toList)]=J):=hJ
 clear hj
 have sz0:¬ 9223372036854775807 < 1+n.size:=by omega
 have sz1:¬ 9223372036854775807 < J.length+1:=by omega
 have sz2:¬ 9223372036854775807 < J.length+1+(gl l1).length:=by omega
 have sz3:¬ 9223372036854775807 < J.length+1+(gl l1).length+1:=by omega
 have sz4:¬ 9223372036854775807 < J.length+1+(gl l1).length+1+(gl l2).length:=by omega
 have sz5:¬ 9223372036854775807 < J.length+1+(gl l1).length+1+(gl l2).length+1:=by omega
 have sz6:¬ 9223372036854775807 < J.length+1+(gl l1).length+1+(gl l2).length+1+(gl l3).length:=by omega
 have sz7:¬ 9223372036854775807 < J.length+1+(gl l1).length+1+(gl l2).length+1+(gl l3).length+1:=by omega
 have u0:=(kw.cell (p:=⟨b,0,none⟩) hb).trans c0
 have u1:=(kw.cell (p:=⟨b,1,none⟩) hb).trans c1
 have u7:=(kw.cell (p:=⟨b,7,none⟩) hb).trans c7
 have ue0:=(kw.cell (p:=⟨d,0,none⟩) hd).trans e0
 have ue1:=(kw.cell (p:=⟨d,1,none⟩) hd).trans e1
 have ue2:=(kw.cell (p:=⟨d,2,none⟩) hd).trans e2
 have ue3:=(kw.cell (p:=⟨d,3,none⟩) hd).trans e3
 go_enter Tryz.func6,Tryz.ntmps6
 go_wp2_with fail
 have tk0:Aside True:=trivial
 have tk1:Aside True:=trivial
 have tk2:Aside True:=trivial
 have tk3:Aside True:=trivial
 go_region_held3 (fun w'=>w'.cell? ⟨b,0,none⟩=some (.string ⟨#[102,111,114,101,97,99,104]⟩)∧w'.cell? ⟨b,1,none⟩=some (.string n)∧w'.cell? ⟨b,7,none⟩=some (.slice (some ⟨d,0,none⟩) 4 cap)∧w'.cell? ⟨d,0,none⟩=some (.pointer (some ⟨q0,0,none⟩))∧w'.cell? ⟨d,1,none⟩=some (.pointer (some ⟨q1,0,none⟩))∧w'.cell? ⟨d,2,none⟩=some (.pointer (some ⟨q2,0,none⟩))∧w'.cell? ⟨d,3,none⟩=some (.pointer (some ⟨q3,0,none⟩))) (first | exact ⟨f0,f1,f7,fe0,fe1,fe2,fe3⟩ | go_keep)
  (first
   | (clear tk0;go_at_call 17;refine (H0.out _ (by first | exact kw | exact kw.drew)).mono ?_;rintro e w1 ⟨rfl,k1⟩;have f0:=(k1.cell (p:=⟨b,0,none⟩) hb).trans c0;have f1:=(k1.cell (p:=⟨b,1,none⟩) hb).trans c1;have f7:=(k1.cell (p:=⟨b,7,none⟩) hb).trans c7;have fe0:=(k1.cell (p:=⟨d,0,none⟩) hd).trans e0;have fe1:=(k1.cell (p:=⟨d,1,none⟩) hd).trans e1;have fe2:=(k1.cell (p:=⟨d,2,none⟩) hd).trans e2;have fe3:=(k1.cell (p:=⟨d,3,none⟩) hd).trans e3)
   | (clear tk1;go_at_call 16;refine (all_at (n:=4) (xs:=[⟨#[102,111,114,101,97,99,104]⟩,⟨(gl l0).toArray⟩,⟨#[97,115]⟩,(⟨#[36]⟩ ++ n)]) rfl (by omega) (by first | exact Cl.start w1 _ _ | exact (Cl.start w1 _ _).drew | exact Cl.start w1.drew _ _) (by simp [lenL_cons,lenL_nil,dollar];omega)).mono ?_;rintro e w2 ⟨he,hv2⟩;have he2:e = .returned (.string ⟨J.toArray⟩):=(by rw [he,← hJ.out];simp [dollar]);clear he;subst he2;have k2:Below a.heap.size a w2:=(by rw [hv2];first | exact k1.alloc k1.size _ | exact (k1.alloc k1.size _).drew | exact k1.drew.alloc k1.size _);clear hv2;have f0:=(k2.cell (p:=⟨b,0,none⟩) hb).trans c0;have f1:=(k2.cell (p:=⟨b,1,none⟩) hb).trans c1;have f7:=(k2.cell (p:=⟨b,7,none⟩) hb).trans c7;have fe0:=(k2.cell (p:=⟨d,0,none⟩) hd).trans e0;have fe1:=(k2.cell (p:=⟨d,1,none⟩) hd).trans e1;have fe2:=(k2.cell (p:=⟨d,2,none⟩) hd).trans e2;have fe3:=(k2.cell (p:=⟨d,3,none⟩) hd).trans e3)
   | (clear tk2;go_at_call 6;refine (H1.out _ (by first | exact k2 | exact k2.drew)).mono ?_;rintro e w3 ⟨rfl,k3⟩;have f0:=(k3.cell (p:=⟨b,0,none⟩) hb).trans c0;have f1:=(k3.cell (p:=⟨b,1,none⟩) hb).trans c1;have f7:=(k3.cell (p:=⟨b,7,none⟩) hb).trans c7;have fe0:=(k3.cell (p:=⟨d,0,none⟩) hd).trans e0;have fe1:=(k3.cell (p:=⟨d,1,none⟩) hd).trans e1;have fe2:=(k3.cell (p:=⟨d,2,none⟩) hd).trans e2;have fe3:=(k3.cell (p:=⟨d,3,none⟩) hd).trans e3)
   | (clear tk3;go_at_call 6;refine (H2.out _ (by first | exact k3 | exact k3.drew)).mono ?_;rintro e w4 ⟨rfl,k4⟩;have f0:=(k4.cell (p:=⟨b,0,none⟩) hb).trans c0;have f1:=(k4.cell (p:=⟨b,1,none⟩) hb).trans c1;have f7:=(k4.cell (p:=⟨b,7,none⟩) hb).trans c7;have fe0:=(k4.cell (p:=⟨d,0,none⟩) hd).trans e0;have fe1:=(k4.cell (p:=⟨d,1,none⟩) hd).trans e1;have fe2:=(k4.cell (p:=⟨d,2,none⟩) hd).trans e2;have fe3:=(k4.cell (p:=⟨d,3,none⟩) hd).trans e3))
 all_goals
  go_wp2_with fail
  refine Calls.mono (H3.out _ (by first | exact k4 | exact k4.drew)) ?_
  rintro e w5 ⟨rfl,k5⟩
  go_wp2_with fail
  go_ret
  exact ⟨by rw [← hfin.out];rfl,k5⟩
theorem in_try1 {q0:Nat}{l0:List Bs} (kw:Below a.heap.size a w) (hb:b < a.heap.size) (c0:a.cell? ⟨b,0,none⟩=some (.string ⟨#[116,114,121]⟩)) (c7:a.cell? ⟨b,7,none⟩=some (.slice (some ⟨d,0,none⟩) 1 cap)) (hd:d < a.heap.size) (e0:a.cell? ⟨d,0,none⟩=some (.pointer (some ⟨q0,0,none⟩))) (h0:HasT 6 (.pointer (some ⟨q0,0,none⟩)) l0 a) (g0:AllG l0) (hB:lenL ([116,114,121] :: l0)≤1000000000):Calls Tryz.prog 19 #[.pointer (some ⟨b,0,none⟩)] w (PlA (gl ([116,114,121] :: l0)) a):=by
 have H0:Aside (HasT 6 (.pointer (some ⟨q0,0,none⟩)) l0 a):=h0
 clear h0
 have s0:=gl_len l0
 simp only [lenL_cons,List.length_cons,List.length_nil] at hB
 have hj:joinsB [[116,114,121],gl l0]=gl ([116,114,121] :: l0):=by
  have:=joinsB_gl (ls:=[[[116,114,121]],l0]) (fun l hl=>by
   simp only [List.mem_cons,List.not_mem_nil,or_false] at hl
   rcases hl with rfl | rfl
   ·exact AllG.lit (by decide) .nil
   ·exact g0)
  simp only [List.map_cons,List.map_nil,gl_one] at this
  rw [this]
  simp
 have hj:Hid _:=hj
 have u0:=(kw.cell (p:=⟨b,0,none⟩) hb).trans c0
 have u7:=(kw.cell (p:=⟨b,7,none⟩) hb).trans c7
 have ue:=(kw.cell (p:=⟨d,0,none⟩) hd).trans e0
 go_enter Tryz.func19,Tryz.ntmps19
 go_wp2_with fail
 refine Calls.mono (H0.out w kw) ?_
 rintro e w1 ⟨rfl,k1⟩
 go_wp2_with fail
 refine Calls.mono (all_at (n:=2) (xs:=[⟨#[116,114,121]⟩,⟨(gl l0).toArray⟩]) rfl (by omega) (Cl.start w1 _ _) (by simp [lenL_cons,lenL_nil];omega)) ?_
 rintro e w2 ⟨he,hv2⟩
 have he2:e = .returned (.string ⟨(gl ([116,114,121] :: l0)).toArray⟩):=by rw [he,← hj.out];simp
 clear he
 subst he2
 have k2:Below a.heap.size a w2:=by rw [hv2];exact k1.alloc k1.size _
 clear hv2
 go_wp2_with fail
 go_ret
 exact ⟨rfl,k2⟩
theorem rp_inner {op:ByteArray}{l:List Bs} (hop:op.data.toList∈opsL∨op.data.toList∈[[110,101,103],[116,114,121],[97,115],[108,97,98,101,108],[100,101,102]]) (kw:Below a.heap.size a w) (hb:b < a.heap.size) (c0:a.cell? ⟨b,0,none⟩=some (.string op)) (h:HasT 19 (.pointer (some ⟨b,0,none⟩)) l a) (hB:lenL (brk l)≤1000000000):Calls Tryz.prog 6 #[.pointer (some ⟨b,0,none⟩)] w (PlA (gl (brk l)) a):=by
 have H:Aside (HasT 19 (.pointer (some ⟨b,0,none⟩)) l a):=h
 clear h
 rw [lenL_brk] at hB
 have s0:=gl_len l
 have z0:=sz (gl l)
 have hfin:Hid (((⟨#[40]⟩:ByteArray) ++ (⟨(gl l).toArray⟩:ByteArray) ++ (⟨#[41]⟩:ByteArray))=⟨(gl (brk l)).toArray⟩):=ba_eq (by
  unfold brk
  rw [gl_cons rfl,gl_app (x:=[41]) rfl]
  simp [gl_nil])
 have ho:∀ z∈([[46],[46,46],[118,97,108],[118,97,114],[98,114,101,97,107],[102,105,101,108,100],[101,97,99,104],[105,110,100,101,120],[63],[108,105,115,116],[111,98,106,101,99,116],[105,102],[114,101,100,117,99,101],[102,111,114,101,97,99,104],[99,97,108,108]]:List Bs),(op.toList == z)=false:=by
  intro z hz
  rw [ByteArray.toList_eq]
  rcases hop with h | h
  ·exact (by decide:∀ x∈opsL,∀ z∈([[46],[46,46],[118,97,108],[118,97,114],[98,114,101,97,107],[102,105,101,108,100],[101,97,99,104],[105,110,100,101,120],[63],[108,105,115,116],[111,98,106,101,99,116],[105,102],[114,101,100,117,99,101],[102,111,114,101,97,99,104],[99,97,108,108]]:List Bs),(x == z)=false) _ h z hz
  ·exact (by decide:∀ x∈([[110,101,103],[116,114,121],[97,115],[108,97,98,101,108],[100,101,102]]:List Bs),∀ z∈([[46],[46,46],[118,97,108],[118,97,114],[98,114,101,97,107],[102,105,101,108,100],[101,97,99,104],[105,110,100,101,120],[63],[108,105,115,116],[111,98,106,101,99,116],[105,102],[114,101,100,117,99,101],[102,111,114,101,97,99,104],[99,97,108,108]]:List Bs),(x == z)=false) _ h z hz
 have n0:=ho [46] (by decide)
 have n1:=ho [46,46] (by decide)
 have n2:=ho [118,97,108] (by decide)
 have n3:=ho [118,97,114] (by decide)
 have n4:=ho [98,114,101,97,107] (by decide)
 have n5:=ho [102,105,101,108,100] (by decide)
 have n6:=ho [101,97,99,104] (by decide)
 have n7:=ho [105,110,100,101,120] (by decide)
 have n8:=ho [63] (by decide)
 have n9:=ho [108,105,115,116] (by decide)
 have n10:=ho [111,98,106,101,99,116] (by decide)
 have n11:=ho [105,102] (by decide)
 have n12:=ho [114,101,100,117,99,101] (by decide)
 have n13:=ho [102,111,114,101,97,99,104] (by decide)
 have n14:=ho [99,97,108,108] (by decide)
 clear ho hop
 have u0:=(kw.cell (p:=⟨b,0,none⟩) hb).trans c0
 go_enter Tryz.func6,Tryz.ntmps6
 go_wp2_with fail
 refine Calls.mono (H.out w kw) ?_
 rintro e w1 ⟨rfl,k1⟩
 go_wp2_with fail
 go_ret
 exact ⟨by rw [← hfin.out];rfl,k1⟩
end
end Go.Proofs.Tryz
namespace Go.Proofs.Tryz
set_option maxHeartbeats 16000000
open Go.RowKit
set_option maxRecDepth 10000
section
variable {a w : World} {b d cap : Nat}
theorem least_b (x y:Int) (w:World) {r:Int} (h:(if x < y then x else y)=r):Calls Tryz.prog 18 #[.int .i64 x,.int .i64 y] w fun e w'=>e = .returned (.int .i64 r)∧w'=w:=h ▸ least_ok x y w
def ctk (n:Bs) (f:Nat→List Bs) (i:Nat):List Bs:=n :: (if i=0 then [] else [40] :: semiT i f)
theorem ctk_succ (n:Bs) (f:Nat→List Bs) (i:Nat):gl (ctk n f (i+1))=gl (ctk n f i) ++ ((if i=0 then [40] else [59]) ++ gl (f i)):=by
 unfold ctk
 rw [if_neg (by omega),semiT_succ]
 by_cases h:i=0
 ·subst h
  have e:semiT 0 f=[]:=rfl
  rw [if_pos rfl,if_pos rfl,if_neg (by omega),e]
  exact gl_app (x:=[40]) rfl [n] (f 0)
 ·rw [if_neg h,if_neg h,if_pos (by omega),show n :: [40] :: (semiT i f ++ ([[59]] ++ f i))=(n :: [40] :: semiT i f) ++ [59] :: f i by simp,gl_app (x:=[59]) rfl]
theorem ctk_len (n:Bs) (f:Nat→List Bs) {i k:Nat} (h:i≤k):lenL (ctk n f i)≤n.length+3+lenL (semiT k f):=by
 have:=semiT_le f h
 unfold ctk
 split
 ·simp only [lenL_cons,lenL_nil];omega
 ·simp only [lenL_cons,List.length_cons,List.length_nil];omega
theorem rp_call {n:ByteArray}{f:Nat→List Bs}{k:Nat}{r:Option Addr} (kw:Below a.heap.size a w) (hb:b < a.heap.size) (c0:a.cell? ⟨b,0,none⟩=some (.string ⟨#[99,97,108,108]⟩)) (c1:a.cell? ⟨b,1,none⟩=some (.string n)) (hn:n.size≤2000) (c7:a.cell? ⟨b,7,none⟩=some (.slice r k cap)) (hk:k≤6000)
  (hm:0 < k→∃ d,r=some ⟨d,0,none⟩∧d < a.heap.size∧∀ i,i < k→∃ q,a.cell? ⟨d,i,none⟩=some (.pointer (some ⟨q,0,none⟩))∧HasT 6 (.pointer (some ⟨q,0,none⟩)) (f i) a) (hB:lenL (n.data.toList :: brk (semiT k f))≤1000000000) :
  Calls Tryz.prog 6 #[.pointer (some ⟨b,0,none⟩)] w (PlA (gl (n.data.toList :: (if 0 < k then brk (semiT k f) else []))) a):=by
 obtain ⟨X,hX⟩:∃ X,gl (n.data.toList :: (if 0 < k then brk (semiT k f) else []))=X:=⟨_,rfl⟩
 rw [hX]
 have HX:Hid (gl (n.data.toList :: (if 0 < k then brk (semiT k f) else []))=X):=hX
 have HM:Aside (0 < k→∃ d,r=some ⟨d,0,none⟩∧d < a.heap.size∧∀ i,i < k→∃ q,a.cell? ⟨d,i,none⟩=some (.pointer (some ⟨q,0,none⟩))∧HasT 6 (.pointer (some ⟨q,0,none⟩)) (f i) a):=hm
 rw [lenL_cons,lenL_brk,bsize] at hB
 clear hX hm
 have u0:=(kw.cell (p:=⟨b,0,none⟩) hb).trans c0
 have u1:=(kw.cell (p:=⟨b,1,none⟩) hb).trans c1
 go_enter Tryz.func6,Tryz.ntmps6
 go_wp2_with fail
 go_loopg [4,5] (k+1) (fun j t4 t5 wr=>∃ (i:Nat) (q:ByteArray),i+j=k+1∧i≤k∧t5 = .int .i64 i∧t4 = .string q∧q.data.toList=gl (ctk n.data.toList f i)∧Below a.heap.size a wr)
 case atStart=>exact ⟨0,n,by omega,by omega,rfl,rfl,(gl_one _).symm,kw⟩
 case round =>
  obtain ⟨i,q,hij,hin,rfl,rfl,hq,kr⟩:=hrel
  have u7:=(kr.cell (p:=⟨b,7,none⟩) hb).trans c7
  have hqs:q.size≤n.size+3+lenL (semiT k f):=by
   rw [← bsize,hq]
   have h1:=gl_len (ctk n.data.toList f i)
   have h2:=ctk_len n.data.toList f hin
   rw [bsize] at h2
   omega
  by_cases hi:i < k
  ·obtain ⟨d,e1,hd,hmm⟩:=HM.out (by omega)
   subst e1
   obtain ⟨qk,mk,hk2⟩:=hmm i hi
   have hnx:=ctk_succ n.data.toList f i
   have hle2:=semiT_le f (i:=i+1) (n:=k) (by omega)
   rw [semiT_succ,lenL_app,lenL_app] at hle2
   obtain ⟨lk,hlk⟩:∃ lk,f i=lk:=⟨_,rfl⟩
   rw [hlk] at hnx hle2 hk2
   have hsk:=gl_len lk
   have hzk:=sz (gl lk)
   have hnx:Aside (∀ r:ByteArray,r.data.toList=q.data.toList ++ ((if i=0 then [40] else [59]) ++ gl lk)→r.data.toList=gl (ctk n.data.toList f (i+1))):=fun r hr=>by rw [hr,hnx,hq]
   have HK:Aside (HasT 6 (.pointer (some ⟨qk,0,none⟩)) lk a):=hk2
   have vk:=(kr.cell (p:=⟨d,i,none⟩) hd).trans mk
   have hi':(i:Int) < (k:Int):=by omega
   have hi0:(0:Int)≤(i:Int):=by omega
   clear hq hmm hlk hk2
   have sz1:¬ 9223372036854775807 < q.size+1:=by omega
   have sz2:¬ 9223372036854775807 < q.size+1+(gl lk).length:=by omega
   by_cases h0:i=0
   ·subst h0
    have ex0:(⟨#[40,59]⟩:ByteArray).extract 0 1=⟨#[40]⟩:=by rfl
    have wr1:IntKind.i64.wrap 1=1:=by decide
    have ex2:(⟨#[40,59]⟩:ByteArray).size=2:=by rfl
    go_wp2_with fail
    have tk0:Aside True:=trivial
    have tk1:Aside True:=trivial
    have tk2:Aside True:=trivial
    go_region_held3 (fun w'=>w'.cell? ⟨b,7,none⟩=some (.slice (some ⟨d,0,none⟩) k cap)∧w'.cell? ⟨d,0,none⟩=some (.pointer (some ⟨qk,0,none⟩))) (first | exact ⟨f7,f0⟩ | go_keep)
     (first
      | (clear tk0;go_at_call 18;refine (least_b _ _ _ (r:=0) (by simp)).mono ?_;rintro e w1 ⟨rfl,hv1⟩;have k1:Below a.heap.size a w1:=(by rw [hv1];first | exact kr | exact kr.drew);clear hv1;have f7:=(k1.cell (p:=⟨b,7,none⟩) hb).trans c7;have f0:=(k1.cell (p:=⟨d,0,none⟩) hd).trans mk)
      | (clear tk1;go_at_call 18;refine (least_b _ _ _ (r:=0) (by simp)).mono ?_;rintro e w2 ⟨rfl,hv2⟩;have k2:Below a.heap.size a w2:=(by rw [hv2];first | exact k1 | exact k1.drew);clear hv2;have f7:=(k2.cell (p:=⟨b,7,none⟩) hb).trans c7;have f0:=(k2.cell (p:=⟨d,0,none⟩) hd).trans mk)
      | (clear tk2;go_at_call 6;refine (HK.out _ (by first | exact k2 | exact k2.drew)).mono ?_;rintro e w3 ⟨rfl,k3⟩;have f7:=(k3.cell (p:=⟨b,7,none⟩) hb).trans c7;have f0:=(k3.cell (p:=⟨d,0,none⟩) hd).trans mk))
    all_goals
     go_wp2_with fail
     go_roundg (k+1 - (0+1))
     case measure=>omega
     case rel =>
      refine ⟨0+1,_,by omega,by omega,by go_num,rfl,hnx.out _ ?_,(by first | exact k3 | exact k3.drew)⟩
      simp
   ·have ex0:(⟨#[40,59]⟩:ByteArray).extract 1 2=⟨#[59]⟩:=by rfl
    have wr1:IntKind.i64.wrap 2=2:=by decide
    have ex2:(⟨#[40,59]⟩:ByteArray).size=2:=by rfl
    go_wp2_with fail
    have tk0:Aside True:=trivial
    have tk1:Aside True:=trivial
    have tk2:Aside True:=trivial
    go_region_held3 (fun w'=>w'.cell? ⟨b,7,none⟩=some (.slice (some ⟨d,0,none⟩) k cap)∧w'.cell? ⟨d,i,none⟩=some (.pointer (some ⟨qk,0,none⟩))) (first | exact ⟨f7,f0⟩ | go_keep)
     (first
      | (clear tk0;go_at_call 18;refine (least_b _ _ _ (r:=1) (by omega)).mono ?_;rintro e w1 ⟨rfl,hv1⟩;have k1:Below a.heap.size a w1:=(by rw [hv1];first | exact kr | exact kr.drew);clear hv1;have f7:=(k1.cell (p:=⟨b,7,none⟩) hb).trans c7;have f0:=(k1.cell (p:=⟨d,i,none⟩) hd).trans mk)
      | (clear tk1;go_at_call 18;refine (least_b _ _ _ (r:=1) (by omega)).mono ?_;rintro e w2 ⟨rfl,hv2⟩;have k2:Below a.heap.size a w2:=(by rw [hv2];first | exact k1 | exact k1.drew);clear hv2;have f7:=(k2.cell (p:=⟨b,7,none⟩) hb).trans c7;have f0:=(k2.cell (p:=⟨d,i,none⟩) hd).trans mk)
      | (clear tk2;go_at_call 6;refine (HK.out _ (by first | exact k2 | exact k2.drew)).mono ?_;rintro e w3 ⟨rfl,k3⟩;have f7:=(k3.cell (p:=⟨b,7,none⟩) hb).trans c7;have f0:=(k3.cell (p:=⟨d,i,none⟩) hd).trans mk))
    all_goals
     go_wp2_with fail
     go_roundg (k+1 - (i+1))
     case measure=>omega
     case rel =>
      refine ⟨i+1,_,by omega,by omega,by go_num,rfl,hnx.out _ ?_,(by first | exact k3 | exact k3.drew)⟩
      rw [if_neg h0]
      simp
  ·have hi':¬ (i:Int) < (k:Int):=by omega
   have hin':i=k:=by omega
   by_cases hk0:0 < k
   ·have hk0':(0:Int) < (k:Int):=by omega
    have hfin:Hid ((q ++ ⟨#[41]⟩:ByteArray)=⟨X.toArray⟩):=ba_eq (by
     rw [← HX.out,if_pos hk0]
     have e:n.data.toList :: brk (semiT k f)=ctk n.data.toList f k ++ [[41]]:=by unfold ctk brk;rw [if_neg (by omega)];simp
     rw [e,gl_app (x:=[41]) rfl,gl_nil,← hin',← hq]
     simp)
    clear hq hin'
    go_wp2_with fail
    go_ret
    exact ⟨by rw [← hfin.out];rfl,kr⟩
   ·have hk0':¬ (0:Int) < (k:Int):=by omega
    have hfin:Hid (q=⟨X.toArray⟩):=ba_eq (by
     rw [← HX.out,if_neg hk0,hq]
     unfold ctk
     rw [if_pos (by omega)])
    clear hq hin'
    go_wp2_with fail
    go_ret
    exact ⟨by rw [← hfin.out];rfl,kr⟩
end
end Go.Proofs.Tryz
namespace Go.Proofs.Tryz
set_option maxHeartbeats 16000000
open Go.RowKit
set_option maxRecDepth 10000
section
variable {a w : World} {b d cap : Nat}
def dtk (n:Bs) (l:List ByteArray) (i:Nat):List Bs:=[100,101,102] :: n :: parT i l
theorem dtk_succ {n:Bs}{l:List ByteArray}{i:Nat}{x:ByteArray} (hx:l.getD i ⟨#[]⟩=x):gl (dtk n l (i+1))=gl (dtk n l i) ++ ((if i=0 then [40] else [59]) ++ x.data.toList):=by
 unfold dtk
 rw [parT_succ,hx]
 by_cases h:i=0
 ·rw [if_pos h,show [100,101,102] :: n :: (parT i l ++ [[40],x.data.toList])=([100,101,102] :: n :: parT i l) ++ [40] :: [x.data.toList] by simp,gl_app (x:=[40]) rfl,gl_one]
 ·rw [if_neg h,show [100,101,102] :: n :: (parT i l ++ [[59],x.data.toList])=([100,101,102] :: n :: parT i l) ++ [59] :: [x.data.toList] by simp,gl_app (x:=[59]) rfl,gl_one]
theorem in_def {n:ByteArray}{l:List ByteArray}{m cap' q0 q1:Nat}{l0 l1:List Bs}{r':Option Addr} (hm:l.length=m) (hm2:m≤3000) (kw:Below a.heap.size a w) (hb:b < a.heap.size) (c0:a.cell? ⟨b,0,none⟩=some (.string ⟨#[100,101,102]⟩)) (c1:a.cell? ⟨b,1,none⟩=some (.string n)) (hn:GNm n) (hg:∀ x∈l,GNm x)
  (c7:a.cell? ⟨b,7,none⟩=some (.slice (some ⟨d,0,none⟩) 2 cap)) (hd:d < a.heap.size) (e0:a.cell? ⟨d,0,none⟩=some (.pointer (some ⟨q0,0,none⟩))) (e1:a.cell? ⟨d,1,none⟩=some (.pointer (some ⟨q1,0,none⟩))) (h0:HasT 6 (.pointer (some ⟨q0,0,none⟩)) l0 a) (h1:HasT 6 (.pointer (some ⟨q1,0,none⟩)) l1 a)
  (c8:a.cell? ⟨b,8,none⟩=some (.slice r' m cap')) (hp:0 < m→∃ dp,r'=some ⟨dp,0,none⟩∧dp < a.heap.size∧∀ i x,l[i]? = some x→a.cell? ⟨dp,i,none⟩=some (.string x))
  (hB:lenL ([100,101,102] :: n.data.toList :: (parT m l ++ ((if 0 < m then [[41]] else []) ++ [58] :: (l0 ++ [59] :: l1))))≤1000000000) :
  Calls Tryz.prog 19 #[.pointer (some ⟨b,0,none⟩)] w (PlA (gl ([100,101,102] :: n.data.toList :: (parT m l ++ ((if 0 < m then [[41]] else []) ++ [58] :: (l0 ++ [59] :: l1))))) a):=by
 obtain ⟨X,hX⟩:∃ X,gl ([100,101,102] :: n.data.toList :: (parT m l ++ ((if 0 < m then [[41]] else []) ++ [58] :: (l0 ++ [59] :: l1))))=X:=⟨_,rfl⟩
 rw [hX]
 have HX:Hid (X=gl (dtk n.data.toList l m) ++ ((if 0 < m then [41] else []) ++ ([58] ++ (gl l0 ++ ([59] ++ gl l1))))):=by
  show X=_
  rw [← hX]
  unfold dtk
  by_cases h:0 < m
  ·rw [if_pos h,if_pos h,show [100,101,102] :: n.data.toList :: (parT m l ++ ([[41]] ++ [58] :: (l0 ++ [59] :: l1)))=([100,101,102] :: n.data.toList :: parT m l) ++ [41] :: [58] :: (l0 ++ [59] :: l1) by simp,gl_app (x:=[41]) rfl,gl_cons (x:=[58]) rfl,gl_app (x:=[59]) rfl]
  ·rw [if_neg h,if_neg h,show [100,101,102] :: n.data.toList :: (parT m l ++ ([] ++ [58] :: (l0 ++ [59] :: l1)))=([100,101,102] :: n.data.toList :: parT m l) ++ [58] :: (l0 ++ [59] :: l1) by simp,gl_app (x:=[58]) rfl,gl_app (x:=[59]) rfl]
   simp
 have HL:Hid (l.length=m):=hm
 have HG:Aside (∀ x∈l,GNm x):=hg
 have HP:Aside (0 < m→∃ dp,r'=some ⟨dp,0,none⟩∧dp < a.heap.size∧∀ i x,l[i]? = some x→a.cell? ⟨dp,i,none⟩=some (.string x)):=hp
 have H0:Aside (HasT 6 (.pointer (some ⟨q0,0,none⟩)) l0 a):=h0
 have H1:Aside (HasT 6 (.pointer (some ⟨q1,0,none⟩)) l1 a):=h1
 have hBB:4+(n.size+1)+lenL (parT m l)+2+lenL l0+2+lenL l1≤1000000000:=by
  simp only [lenL_cons,lenL_app,List.length_cons,List.length_nil,bsize] at hB
  omega
 have hns:=hn.2.2
 have s0:=gl_len l0
 have s1:=gl_len l1
 have z0:=sz (gl l0)
 have z1:=sz (gl l1)
 have hst:Hid (((⟨#[100,101,102,32]⟩:ByteArray) ++ n).data.toList=gl (dtk n.data.toList l 0)):=by
  show _=_
  have hw:=(gtk_word hn.1 hn.2.1).2
  show _=gl [[100,101,102],n.data.toList]
  rw [gl_word rfl hw,gl_one]
  simp
 have hn:Hid _:=hn
 clear hX hm hg hp h0 h1 hB
 have u0:=(kw.cell (p:=⟨b,0,none⟩) hb).trans c0
 have u1:=(kw.cell (p:=⟨b,1,none⟩) hb).trans c1
 go_enter Tryz.func19,Tryz.ntmps19
 go_wp2_with fail
 go_loopg [3,4] (m+1) (fun j t3 t4 wr=>∃ (i:Nat) (q:ByteArray),i+j=m+1∧i≤m∧t4 = .int .i64 i∧t3 = .string q∧q.data.toList=gl (dtk n.data.toList l i)∧Below a.heap.size a wr)
 case atStart=>exact ⟨0,_,by omega,by omega,rfl,rfl,hst.out,kw⟩
 case round =>
  obtain ⟨i,q,hij,hin,rfl,rfl,hq,kr⟩:=hrel
  have u8:=(kr.cell (p:=⟨b,8,none⟩) hb).trans c8
  have hle:=parT_le l (i:=i) (n:=m) (by omega)
  have hqs:q.size≤5+n.size+lenL (parT i l):=by
   rw [← bsize,hq]
   have h1:=gl_len (dtk n.data.toList l i)
   unfold dtk at h1 ⊢
   simp only [lenL_cons,List.length_cons,List.length_nil,bsize] at h1
   omega
  by_cases hi:i < m
  ·obtain ⟨dp,ep,hdp,hcp⟩:=HP.out (by omega)
   subst ep
   have hil:i < l.length:=by have:=HL.out;omega
   obtain ⟨x,hx⟩:∃ x,l[i]? = some x:=⟨_,List.getElem?_eq_getElem hil⟩
   have mx:=hcp i x hx
   have hxs:=(HG.out x (List.mem_of_getElem? hx)).2.2
   have hgd:l.getD i ⟨#[]⟩=x:=by simp [hx]
   have hnx:=dtk_succ (n:=n.data.toList) hgd
   have hnx:Aside (∀ r:ByteArray,r.data.toList=q.data.toList ++ ((if i=0 then [40] else [59]) ++ x.data.toList)→r.data.toList=gl (dtk n.data.toList l (i+1))):=fun r hr=>by rw [hr,hnx,hq]
   have vx:=(kr.cell (p:=⟨dp,i,none⟩) hdp).trans mx
   have hi':(i:Int) < (m:Int):=by omega
   have hi0:(0:Int)≤(i:Int):=by omega
   clear hq hcp hx hgd
   have sz1:¬ 9223372036854775807 < q.size+1:=by omega
   have sz2:¬ 9223372036854775807 < q.size+1+x.size:=by omega
   by_cases h0:i=0
   ·subst h0
    have ex0:(⟨#[40,59]⟩:ByteArray).extract 0 1=⟨#[40]⟩:=by rfl
    have wr1:IntKind.i64.wrap 1=1:=by decide
    have ex2:(⟨#[40,59]⟩:ByteArray).size=2:=by rfl
    go_wp2_with fail
    have tk0:Aside True:=trivial
    have tk1:Aside True:=trivial
    go_region_held3 (fun w'=>w'.cell? ⟨b,8,none⟩=some (.slice (some ⟨dp,0,none⟩) m cap')∧w'.cell? ⟨dp,0,none⟩=some (.string x)) (first | exact ⟨f8,f0⟩ | go_keep)
     (first
      | (clear tk0;go_at_call 18;refine (least_b _ _ _ (r:=0) (by simp)).mono ?_;rintro e w1 ⟨rfl,hv1⟩;have k1:Below a.heap.size a w1:=(by rw [hv1];first | exact kr | exact kr.drew);clear hv1;have f8:=(k1.cell (p:=⟨b,8,none⟩) hb).trans c8;have f0:=(k1.cell (p:=⟨dp,0,none⟩) hdp).trans mx)
      | (clear tk1;go_at_call 18;refine (least_b _ _ _ (r:=0) (by simp)).mono ?_;rintro e w2 ⟨rfl,hv2⟩;have k2:Below a.heap.size a w2:=(by rw [hv2];first | exact k1 | exact k1.drew);clear hv2;have f8:=(k2.cell (p:=⟨b,8,none⟩) hb).trans c8;have f0:=(k2.cell (p:=⟨dp,0,none⟩) hdp).trans mx))
    all_goals
     go_wp2_with fail
     go_roundg (m+1 - (0+1))
     case measure=>omega
     case rel =>
      refine ⟨0+1,_,by omega,by omega,by go_num,rfl,hnx.out _ ?_,(by first | exact k2 | exact k2.drew)⟩
      simp
   ·have ex0:(⟨#[40,59]⟩:ByteArray).extract 1 2=⟨#[59]⟩:=by rfl
    have wr1:IntKind.i64.wrap 2=2:=by decide
    have ex2:(⟨#[40,59]⟩:ByteArray).size=2:=by rfl
    go_wp2_with fail
    have tk0:Aside True:=trivial
    have tk1:Aside True:=trivial
    go_region_held3 (fun w'=>w'.cell? ⟨b,8,none⟩=some (.slice (some ⟨dp,0,none⟩) m cap')∧w'.cell? ⟨dp,i,none⟩=some (.string x)) (first | exact ⟨f8,f0⟩ | go_keep)
     (first
      | (clear tk0;go_at_call 18;refine (least_b _ _ _ (r:=1) (by omega)).mono ?_;rintro e w1 ⟨rfl,hv1⟩;have k1:Below a.heap.size a w1:=(by rw [hv1];first | exact kr | exact kr.drew);clear hv1;have f8:=(k1.cell (p:=⟨b,8,none⟩) hb).trans c8;have f0:=(k1.cell (p:=⟨dp,i,none⟩) hdp).trans mx)
      | (clear tk1;go_at_call 18;refine (least_b _ _ _ (r:=1) (by omega)).mono ?_;rintro e w2 ⟨rfl,hv2⟩;have k2:Below a.heap.size a w2:=(by rw [hv2];first | exact k1 | exact k1.drew);clear hv2;have f8:=(k2.cell (p:=⟨b,8,none⟩) hb).trans c8;have f0:=(k2.cell (p:=⟨dp,i,none⟩) hdp).trans mx))
    all_goals
     go_wp2_with fail
     go_roundg (m+1 - (i+1))
     case measure=>omega
     case rel =>
      refine ⟨i+1,_,by omega,by omega,by go_num,rfl,hnx.out _ ?_,(by first | exact k2 | exact k2.drew)⟩
      rw [if_neg h0]
      simp
  ·have hi':¬ (i:Int) < (m:Int):=by omega
   have hin':i=m:=by omega
   have u7:=(kr.cell (p:=⟨b,7,none⟩) hb).trans c7
   have ue0:=(kr.cell (p:=⟨d,0,none⟩) hd).trans e0
   have ue1:=(kr.cell (p:=⟨d,1,none⟩) hd).trans e1
   by_cases hk0:0 < m
   ·have hk0':(0:Int) < (m:Int):=by omega
    have hfin:Hid ((q ++ ⟨#[41]⟩ ++ ⟨#[58]⟩ ++ ⟨(gl l0).toArray⟩ ++ ⟨#[59]⟩ ++ ⟨(gl l1).toArray⟩:ByteArray)=⟨X.toArray⟩):=ba_eq (by
     rw [HX.out,if_pos hk0,← hin',← hq]
     simp)
    clear hq hin'
    have sz1:¬ 9223372036854775807 < q.size+1:=by omega
    have sz2:¬ 9223372036854775807 < q.size+1+1:=by omega
    have sz3:¬ 9223372036854775807 < q.size+1+1+(gl l0).length:=by omega
    have sz4:¬ 9223372036854775807 < q.size+1+1+(gl l0).length+1:=by omega
    have sz5:¬ 9223372036854775807 < q.size+1+1+(gl l0).length+1+(gl l1).length:=by omega
    go_wp2_with fail
    have tk0:Aside True:=trivial
    have tk1:Aside True:=trivial
    go_region_held3 (fun w'=>w'.cell? ⟨b,7,none⟩=some (.slice (some ⟨d,0,none⟩) 2 cap)∧w'.cell? ⟨d,0,none⟩=some (.pointer (some ⟨q0,0,none⟩))∧w'.cell? ⟨d,1,none⟩=some (.pointer (some ⟨q1,0,none⟩))) (first | exact ⟨f7,f0,f1⟩ | go_keep)
     (first
      | (clear tk0;go_at_call 6;refine (H0.out _ (by first | exact kr | exact kr.drew)).mono ?_;rintro e w1 ⟨rfl,k1⟩;have f7:=(k1.cell (p:=⟨b,7,none⟩) hb).trans c7;have f0:=(k1.cell (p:=⟨d,0,none⟩) hd).trans e0;have f1:=(k1.cell (p:=⟨d,1,none⟩) hd).trans e1)
      | (clear tk1;go_at_call 6;refine (H1.out _ (by first | exact k1 | exact k1.drew)).mono ?_;rintro e w2 ⟨rfl,k2⟩;have f7:=(k2.cell (p:=⟨b,7,none⟩) hb).trans c7;have f0:=(k2.cell (p:=⟨d,0,none⟩) hd).trans e0;have f1:=(k2.cell (p:=⟨d,1,none⟩) hd).trans e1))
    all_goals
     go_wp2_with fail
     go_ret
     exact ⟨by rw [← hfin.out];rfl,(by first | exact k2 | exact k2.drew)⟩
   ·have hk0':¬ (0:Int) < (m:Int):=by omega
    have hfin:Hid ((q ++ ⟨#[58]⟩ ++ ⟨(gl l0).toArray⟩ ++ ⟨#[59]⟩ ++ ⟨(gl l1).toArray⟩:ByteArray)=⟨X.toArray⟩):=ba_eq (by
     rw [HX.out,if_neg hk0,← hin',← hq]
     simp)
    clear hq hin'
    have sz1:¬ 9223372036854775807 < q.size+1:=by omega
    have sz3:¬ 9223372036854775807 < q.size+1+(gl l0).length:=by omega
    have sz4:¬ 9223372036854775807 < q.size+1+(gl l0).length+1:=by omega
    have sz5:¬ 9223372036854775807 < q.size+1+(gl l0).length+1+(gl l1).length:=by omega
    go_wp2_with fail
    have tk0:Aside True:=trivial
    have tk1:Aside True:=trivial
    go_region_held3 (fun w'=>w'.cell? ⟨b,7,none⟩=some (.slice (some ⟨d,0,none⟩) 2 cap)∧w'.cell? ⟨d,0,none⟩=some (.pointer (some ⟨q0,0,none⟩))∧w'.cell? ⟨d,1,none⟩=some (.pointer (some ⟨q1,0,none⟩))) (first | exact ⟨f7,f0,f1⟩ | go_keep)
     (first
      | (clear tk0;go_at_call 6;refine (H0.out _ (by first | exact kr | exact kr.drew)).mono ?_;rintro e w1 ⟨rfl,k1⟩;have f7:=(k1.cell (p:=⟨b,7,none⟩) hb).trans c7;have f0:=(k1.cell (p:=⟨d,0,none⟩) hd).trans e0;have f1:=(k1.cell (p:=⟨d,1,none⟩) hd).trans e1)
      | (clear tk1;go_at_call 6;refine (H1.out _ (by first | exact k1 | exact k1.drew)).mono ?_;rintro e w2 ⟨rfl,k2⟩;have f7:=(k2.cell (p:=⟨b,7,none⟩) hb).trans c7;have f0:=(k2.cell (p:=⟨d,0,none⟩) hd).trans e0;have f1:=(k2.cell (p:=⟨d,1,none⟩) hd).trans e1))
    all_goals
     go_wp2_with fail
     go_ret
     exact ⟨by rw [← hfin.out];rfl,(by first | exact k2 | exact k2.drew)⟩
end
end Go.Proofs.Tryz
namespace Go.Proofs.Tryz
set_option maxHeartbeats 16000000
open Go.RowKit
set_option maxRecDepth 10000
def FuP (t:Tn) (w:World) (e:Ending) (w':World):Prop:=Below w.heap.size w w'∧∃ (q:Int) (f:Bool),e = .returned (.tuple #[.int .i64 q,.bool f])∧(f=true→chk t []=q∧0≤q)∧(f=false→chk t [] = -1)
theorem below_drewN4 (w:World) (m:Nat):Below w.heap.size w (w.drewN m):=⟨rfl,rfl,rfl,Nat.le_refl _,fun _ _=>rfl⟩
theorem chk_neg:∀ (t:Tn),Gdt t→∀ K,chk t K = -1∨0≤chk t K
 | .done _,_,_=>.inl rfl
 | .ask _ kind k,⟨hg,hk⟩,K=>by
  have h:∀ n,n≤(payN (k 0)).cnt→∀ a:Int,(a = -1∨0≤a)→lostR (fun i=>chk (k (i+1)) (kidK K kind (payN (k 0)) i)) n a = -1∨0≤lostR (fun i=>chk (k (i+1)) (kidK K kind (payN (k 0)) i)) n a:=by
   intro n
   induction n with
   | zero=>intro _ a ha;exact ha
   | succ n ih =>
    intro hn a ha
    have h1:=ih (by omega) a ha
    have h2:=chk_neg (k (n+1)) (hk n (by omega)) (kidK K kind (payN (k 0)) n)
    rw [lostR_succ]
    unfold lostF
    split
    ·exact .inr (by assumption)
    ·split
     ·exact .inr (by assumption)
     ·exact h1
  refine h _ (Nat.le_refl _) _ ?_
  unfold ownAt
  have:=hg.pos
  repeat' split
  all_goals first | exact .inl rfl | exact .inr this
theorem firstUnknown_any {p:Nat→Prop}{w:World}{v:Value}{t:Tn} (hg:Gdt t) (h:Rf p w t v):Calls Tryz.prog 22 #[v] w (FuP t w):=by
 have h:Rf (· < w.heap.size) w t v:=h.keep (fun _ _ hb=>hb) (Nat.le_refl _) (fun _ _ _=>rfl)
 obtain ⟨b,rfl,_,hb⟩:=h.shape
 have HR:Aside (Rf (· < w.heap.size) w t (.iface (typF (kindT t)) (.pointer (some ⟨b,0,none⟩)))):=h
 obtain ⟨T,hT⟩:∃ T,typF (kindT t)=T:=⟨_,rfl⟩
 rw [hT] at HR ⊢
 clear hT h
 go_enter Tryz.func22,Tryz.ntmps22
 go_wp2_with fail
 obtain ⟨W,hW⟩:∃ W,(w.alloc (.cells #[.int .i64 0,.bool false] 90)).alloc (.cells #[.iface T (.pointer (some ⟨b,0,none⟩))] 31)=W:=⟨_,rfl⟩
 have hB:Below w.heap.size w W:=by rw [← hW];exact (below_alloc w _).alloc (by simp) _
 have hst:CkSt W w.heap.size (-1):=by
  rw [← hW]
  refine CkSt.below (w:=w.alloc (.cells #[.int .i64 0,.bool false] 90)) ?_ (below_alloc _ _)
  have hcl:=Cl.start w [.int .i64 0,.bool false] 90
  exact ⟨0,false,(hcl.cell 0).trans rfl,(hcl.cell 1).trans rfl,fun o=>hcl.free o,(hcl.cell 3).trans rfl,(fun e=>by cases e),fun _=>rfl⟩
 have hh:W.heap[w.heap.size+1]? = some (.cells #[.iface T (.pointer (some ⟨b,0,none⟩))] 31):=by rw [← hW];exact heap_new2 w _ _
 rw [hW]
 clear hW
 have hit:=(one_c (p:=(· < w.heap.size)) (cb:=w.heap.size) (fun b hb=>by have hb:b < w.heap.size:=hb;omega) t hg).item (K:=[]) (s:=none) (fun b hb=>by have hb:b < w.heap.size:=hb;omega) (fun q hq=>by simp at hq) (HR.out.keep (fun _ hb _=>hb) hB.size (fun b _ hb=>hB.block b hb)) hst (by rfl)
 refine Calls.mono (check1C hh (by omega) hst hit) ?_
 rintro e w1 ⟨rfl,k1,q,f,d0,d1,d2,d3,d4,d5⟩
 have hB2:Below w.heap.size w w1:=hB.trans ⟨k1.os,k1.tape,k1.output,k1.size,fun k hk=>k1.block k (by have:=hB.size;omega) (by omega)⟩
 have hcn:=chk_neg t hg []
 have d4:Aside (f=true→lostF (-1) (chk t [])=q∧0≤lostF (-1) (chk t [])):=d4
 have d5:Aside (f=false→lostF (-1) (chk t []) = -1):=d5
 have hcn:Aside (chk t [] = -1∨0≤chk t []):=hcn
 go_wp2_with fail
 go_quiet (fail)
 go_wp2_with fail
 go_ret2
 refine ⟨hB2.trans ((below_drewN4 _ _).mono hB2.size),q,f,rfl,fun e=>?_,fun e=>?_⟩
 ·have:=d4.out e
  rw [lostF_neg hcn.out] at this
  exact ⟨this.1,by omega⟩
 ·have:=d5.out e
  rw [lostF_neg hcn.out] at this
  exact this
end Go.Proofs.Tryz
namespace Go.Proofs.Tryz
set_option maxHeartbeats 16000000
open Go.RowKit
set_option maxRecDepth 10000
section
variable {a w : World} {b d cap : Nat}
structure MemR (a:World) (d dp i:Nat) (x:ByteArray) (lk lv:List Bs):Prop where
 how:a.cell? ⟨dp,i,none⟩=some (.string (howR x))
 key:∃ q S,a.cell? ⟨d,2 * i,none⟩=some (.pointer (some ⟨q,0,none⟩))∧HasT 6 (.pointer (some ⟨q,0,none⟩)) lk a∧q < a.heap.size∧a.cell? ⟨q,4,none⟩=some (.string S)∧(¬ x.data.toList=[40]→x.data.toList=[34]→lk=[quoteY S.data.toList])∧(¬ x.data.toList=[40]→¬ x.data.toList=[34]→S=x)∧(¬ x.data.toList=[40]→S.size≤2000)
 val:∃ q,a.cell? ⟨d,2 * i+1,none⟩=some (.pointer (some ⟨q,0,none⟩))∧HasT 6 (.pointer (some ⟨q,0,none⟩)) lv a
theorem gl_mem {i:Nat}{names:List ByteArray}{f:Nat→List Bs}{x:ByteArray} (hx:names.getD i ⟨#[]⟩=x):gl ([123] :: memsY (i+1) names f)=gl ([123] :: memsY i names f) ++ ((if 0 < i then [44] else []) ++ (gl (keyT x (f (2 * i))) ++ ([58] ++ gl (f (2 * i+1))))):=by
 rw [memsY_succ,hx]
 unfold memY
 by_cases h0:0 < i
 ·rw [if_pos h0,if_pos h0,show [123] :: (memsY i names f ++ ([[44]] ++ (keyT x (f (2 * i)) ++ [58] :: f (2 * i+1))))=([123] :: memsY i names f) ++ [44] :: (keyT x (f (2 * i)) ++ [58] :: f (2 * i+1)) by simp,gl_app (x:=[44]) rfl,gl_app (x:=[58]) rfl]
 ·have:i=0:=by omega
  subst this
  rw [if_neg h0,if_neg h0]
  have e:memsY 0 names f=[]:=rfl
  rw [e,show [123] :: ([] ++ ([] ++ (keyT x (f (2 * 0)) ++ [58] :: f (2 * 0+1))))=[123] :: (keyT x (f (2 * 0)) ++ [58] :: f (2 * 0+1)) by simp,gl_cons (x:=[123]) rfl,gl_app (x:=[58]) rfl,gl_one]
  simp
theorem gl_brk (l:List Bs):gl (brk l)=[40] ++ (gl l ++ [41]):=by
 unfold brk
 rw [gl_cons (x:=[40]) rfl,gl_app (x:=[41]) rfl,gl_nil]
 simp
theorem object_ok {names:List ByteArray}{f:Nat→List Bs}{n cap':Nat}{r r':Option Addr} (hl:names.length=n) (hn:n≤3000) (kw:Below a.heap.size a w) (hb:b < a.heap.size) (c7:a.cell? ⟨b,7,none⟩=some (.slice r (2 * n) cap)) (c8:a.cell? ⟨b,8,none⟩=some (.slice r' n cap'))
  (hm:0 < n→∃ d dp,r=some ⟨d,0,none⟩∧r'=some ⟨dp,0,none⟩∧d < a.heap.size∧dp < a.heap.size∧∀ i x,names[i]? = some x→MemR a d dp i x (f (2 * i)) (f (2 * i+1))) (hB:lenL ([123] :: (memsY n names f ++ [[125]]))≤1000000000) :
  Calls Tryz.prog 15 #[.pointer (some ⟨b,0,none⟩)] w (PlA (gl ([123] :: (memsY n names f ++ [[125]]))) a):=by
 have HL:Hid (names.length=n):=hl
 have HM:Aside (0 < n→∃ d dp,r=some ⟨d,0,none⟩∧r'=some ⟨dp,0,none⟩∧d < a.heap.size∧dp < a.heap.size∧∀ i x,names[i]? = some x→MemR a d dp i x (f (2 * i)) (f (2 * i+1))):=hm
 simp only [lenL_cons,lenL_app,lenL_nil,List.length_cons,List.length_nil] at hB
 clear hl hm
 go_enter Tryz.func15,Tryz.ntmps15
 go_wp2_with fail
 go_loopg [3,4] (n+1) (fun j t3 t4 wr=>∃ (i:Nat) (q:ByteArray),i+j=n+1∧i≤n∧t4 = .int .i64 i∧t3 = .string q∧q.data.toList=gl ([123] :: memsY i names f)∧Below a.heap.size a wr)
 case atStart=>exact ⟨0,_,by omega,by omega,rfl,rfl,rfl,kw⟩
 case round =>
  obtain ⟨i,q,hij,hin,rfl,rfl,hq,kr⟩:=hrel
  have u7:=(kr.cell (p:=⟨b,7,none⟩) hb).trans c7
  have u8:=(kr.cell (p:=⟨b,8,none⟩) hb).trans c8
  have hle:=memsY_le names f (i:=i) (n:=n) (by omega)
  have hqs:q.size≤2+lenL (memsY i names f):=by
   rw [← bsize,hq]
   have:=gl_len ([123] :: memsY i names f)
   rw [lenL_cons] at this
   simpa using this
  by_cases hi:i < n
  ·obtain ⟨d,dp,e1,e2,hd,hdp,hmm⟩:=HM.out (by omega)
   subst e1
   subst e2
   have hil:i < names.length:=by have:=HL.out;omega
   obtain ⟨x,hx⟩:∃ x,names[i]? = some x:=⟨_,List.getElem?_eq_getElem hil⟩
   obtain ⟨mh,⟨qk,S,mk,hk,hqk,mS,hS1,hS2,hSs⟩,⟨qv,mv,hv⟩⟩:=hmm i x hx
   have hgd:names.getD i ⟨#[]⟩=x:=by simp [hx]
   have hnx:=gl_mem (f:=f) hgd
   have hle2:=memsY_le names f (i:=i+1) (n:=n) (by omega)
   rw [memsY_succ,hgd,lenL_app] at hle2
   obtain ⟨lk,hlk⟩:∃ lk,f (2 * i)=lk:=⟨_,rfl⟩
   obtain ⟨lv,hlv⟩:∃ lv,f (2 * i+1)=lv:=⟨_,rfl⟩
   unfold memY at hle2
   rw [hlk,hlv] at hnx hle2
   rw [hlk] at hk hS1
   rw [hlv] at hv
   have hsk:=gl_len lk
   have hsv:=gl_len lv
   have hzk:=sz (gl lk)
   have hzv:=sz (gl lv)
   rw [lenL_app,lenL_app,lenL_cons] at hle2
   have hnx:Aside (∀ r:ByteArray,r.data.toList=q.data.toList ++ ((if 0 < i then [44] else []) ++ (gl (keyT x lk) ++ ([58] ++ gl lv)))→r.data.toList=gl ([123] :: memsY (i+1) names f)):=fun r hr=>by rw [hr,hnx,hq]
   have HK:Aside (HasT 6 (.pointer (some ⟨qk,0,none⟩)) lk a):=hk
   have HV:Aside (HasT 6 (.pointer (some ⟨qv,0,none⟩)) lv a):=hv
   have vh:=(kr.cell (p:=⟨dp,i,none⟩) hdp).trans mh
   have vk:=(kr.cell (p:=⟨d,2 * i,none⟩) hd).trans mk
   have vv:=(kr.cell (p:=⟨d,2 * i+1,none⟩) hd).trans mv
   have vS:=(kr.cell (p:=⟨qk,4,none⟩) hqk).trans mS
   have hi':(i:Int) < (n:Int):=by omega
   have hi0:(0:Int)≤(i:Int):=by omega
   have j1:(0:Int)≤2 * (i:Int):=by omega
   have j2:2 * (i:Int) < 2 * (n:Int):=by omega
   have j3:(0:Int)≤2 * (i:Int)+1:=by omega
   have j4:2 * (i:Int)+1 < 2 * (n:Int):=by omega
   have j5:(2 * (i:Int)).toNat=2 * i:=by omega
   have j6:(2 * (i:Int)+1).toNat=2 * i+1:=by omega
   clear hq hx hgd hmm hlk hlv hk hv
   unfold howR at vh
   by_cases hx1:x.data.toList=[40]
   ·rw [if_pos hx1] at vh
    have e:keyT x lk=brk lk:=by unfold keyT;rw [if_pos hx1]
    rw [e,lenL_brk] at hle2
    have hkey:Hid (gl (keyT x lk)=[40] ++ (gl lk ++ [41])):=by show _=_;rw [e,gl_brk]
    clear e
    clear hx1 hS1 hS2 hSs
    by_cases h0:0 < i
    ·have h0':(0:Int) < (i:Int):=by omega
     go_wp2_with fail
     refine Calls.mono (HK.out _ kr) ?_
     rintro e w1 ⟨rfl,k1⟩
     have y7:=(k1.cell (p:=⟨b,7,none⟩) hb).trans c7
     have yv:=(k1.cell (p:=⟨d,2 * i+1,none⟩) hd).trans mv
     go_wp2_with fail
     refine Calls.mono (HV.out _ k1) ?_
     rintro e w2 ⟨rfl,k2⟩
     go_wp2_with fail
     go_roundg (n+1 - (i+1))
     case measure=>omega
     case rel =>
      refine ⟨i+1,_,by omega,by omega,by go_num,rfl,hnx.out _ ?_,k2⟩
      rw [hkey.out]
      rw [if_pos h0]
      simp
    ·have hi00:i=0:=by omega
     subst hi00
     go_wp2_with fail
     refine Calls.mono (HK.out _ kr) ?_
     rintro e w1 ⟨rfl,k1⟩
     have y7:=(k1.cell (p:=⟨b,7,none⟩) hb).trans c7
     have yv:=(k1.cell (p:=⟨d,2 * 0+1,none⟩) hd).trans mv
     go_wp2_with fail
     refine Calls.mono (HV.out _ k1) ?_
     rintro e w2 ⟨rfl,k2⟩
     go_wp2_with fail
     go_roundg (n+1 - (0+1))
     case measure=>omega
     case rel =>
      refine ⟨0+1,_,by omega,by omega,by go_num,rfl,hnx.out _ ?_,k2⟩
      rw [hkey.out]
      simp
   ·by_cases hx2:x.data.toList=[34]
    ·have hSz:=hSs hx1
     rw [if_neg hx1,if_pos hx2] at vh
     have hS:=hS1 hx1 hx2
     have e:keyT x lk=lk:=by unfold keyT;rw [if_neg hx1,if_pos hx2]
     rw [e] at hle2
     have hkey:Hid (gl (keyT x lk)=quoteY S.data.toList):=by show _=_;rw [e,hS,gl_one]
     have hzq:=sz (quoteY S.data.toList)
     have hlq:=quoteY_len S.data.toList
     rw [bsize] at hlq
     clear e hS
     clear hx1 hx2 hS1 hS2 hSs
     by_cases h0:0 < i
     ·have h0':(0:Int) < (i:Int):=by omega
      go_wp2_with fail
      refine Calls.mono (Quote_ok S _ hSz) ?_
      rintro e w1 ⟨rfl,k0⟩
      have k1:Below a.heap.size a w1:=kr.trans (k0.mono kr.size)
      have y7:=(k1.cell (p:=⟨b,7,none⟩) hb).trans c7
      have yv:=(k1.cell (p:=⟨d,2 * i+1,none⟩) hd).trans mv
      go_wp2_with fail
      refine Calls.mono (HV.out _ k1) ?_
      rintro e w2 ⟨rfl,k2⟩
      go_wp2_with fail
      go_roundg (n+1 - (i+1))
      case measure=>omega
      case rel =>
       refine ⟨i+1,_,by omega,by omega,by go_num,rfl,hnx.out _ ?_,k2⟩
       rw [hkey.out]
       rw [if_pos h0]
       simp
     ·have hi00:i=0:=by omega
      subst hi00
      go_wp2_with fail
      refine Calls.mono (Quote_ok S _ hSz) ?_
      rintro e w1 ⟨rfl,k0⟩
      have k1:Below a.heap.size a w1:=kr.trans (k0.mono kr.size)
      have y7:=(k1.cell (p:=⟨b,7,none⟩) hb).trans c7
      have yv:=(k1.cell (p:=⟨d,2 * 0+1,none⟩) hd).trans mv
      go_wp2_with fail
      refine Calls.mono (HV.out _ k1) ?_
      rintro e w2 ⟨rfl,k2⟩
      go_wp2_with fail
      go_roundg (n+1 - (0+1))
      case measure=>omega
      case rel =>
       refine ⟨0+1,_,by omega,by omega,by go_num,rfl,hnx.out _ ?_,k2⟩
       rw [hkey.out]
       simp
    ·have hSz:=hSs hx1
     rw [if_neg hx1,if_neg hx2] at vh
     have hS:=hS2 hx1 hx2
     have e:keyT x lk=[x.data.toList]:=by unfold keyT;rw [if_neg hx1,if_neg hx2]
     rw [e] at hle2
     simp only [lenL_cons,lenL_nil,bsize] at hle2
     have hkey:Hid (gl (keyT x lk)=S.data.toList):=by show _=_;rw [e,hS,gl_one]
     clear e hS hS1 hS2
     clear hx1 hx2 hSs
     by_cases h0:0 < i
     ·have h0':(0:Int) < (i:Int):=by omega
      go_wp2_with fail
      refine Calls.mono (HV.out _ kr) ?_
      rintro e w2 ⟨rfl,k2⟩
      go_wp2_with fail
      go_roundg (n+1 - (i+1))
      case measure=>omega
      case rel =>
       refine ⟨i+1,_,by omega,by omega,by go_num,rfl,hnx.out _ ?_,k2⟩
       rw [hkey.out]
       rw [if_pos h0]
       simp
     ·have hi00:i=0:=by omega
      subst hi00
      go_wp2_with fail
      refine Calls.mono (HV.out _ kr) ?_
      rintro e w2 ⟨rfl,k2⟩
      go_wp2_with fail
      go_roundg (n+1 - (0+1))
      case measure=>omega
      case rel =>
       refine ⟨0+1,_,by omega,by omega,by go_num,rfl,hnx.out _ ?_,k2⟩
       rw [hkey.out]
       simp
  ·have hi':¬ (i:Int) < (n:Int):=by omega
   have hin':i=n:=by omega
   have hfin:Hid ((q ++ ⟨#[125]⟩:ByteArray)=⟨(gl ([123] :: (memsY n names f ++ [[125]]))).toArray⟩):=ba_eq (by
    rw [show [123] :: (memsY n names f ++ [[125]])=([123] :: memsY n names f) ++ [[125]] by simp,gl_app (x:=[125]) rfl,gl_nil,← hin',← hq]
    simp)
   clear hq hin'
   go_wp2_with fail
   go_ret
   exact ⟨by rw [← hfin.out];rfl,kr⟩
end
end Go.Proofs.Tryz
namespace Go.Proofs.Tryz
set_option maxHeartbeats 16000000
open Go.RowKit
set_option maxRecDepth 10000
theorem Rn.op {p:Nat→Prop}{w:World}{q:Nat}:∀ {t:Tn},Gdt t→Rn p w t (.pointer (some ⟨q,0,none⟩))→q < w.heap.size∧∃ op,w.cell? ⟨q,0,none⟩=some (.string op)∧(kindT t=0→op=⟨#[46]⟩)∧(kindT t≠0→(op.toList == [46])=false)
 | .done _,h,_=>h.elim
 | .ask _ kind k,hg,hr=>by
  obtain ⟨b,_,_,e,hb,hc,_⟩:=hr.view
  cases e
  refine ⟨hb,opR kind (payN (k 0)),hc 0 _ rfl,fun e=>?_,fun e=>?_⟩
  ·have e:kind=0:=e
   rw [e]
   rfl
  ·exact (op_other (kind_lt hg.1.cnt) (fun e=>hg.1.op e)).2.2.2 e
theorem Rn.str {p:Nat→Prop}{w:World}{q:Nat}:∀ {t:Tn},Rn p w t (.pointer (some ⟨q,0,none⟩))→∃ S,w.cell? ⟨q,4,none⟩=some (.string S)∧((valT t).1=4→S=(valT t).2.2)
 | .done _,h=>h.elim
 | .ask _ kind k,hr=>by
  obtain ⟨b,_,_,e,hb,hc,_⟩:=hr.view
  cases e
  refine ⟨_,hc 4 _ rfl,fun e=>?_⟩
  have e:(payN (k 0)).val.1=4:=e
  rw [if_pos e]
  rfl
theorem lit_toks:∀ {t:Tn},Gdt t→kindT t=2→(valT t).1=4→toksT t=[quoteY (valT t).2.2.data.toList]∧(valT t).2.2.size≤2000
 | .done _,h,_,_=>h.elim
 | .ask _ kind k,hg,hk,hv=>by
  have hk:kind=2:=hk
  subst hk
  have hv:(payN (k 0)).val.1=4:=hv
  have hG:=hg.1.val rfl
  refine ⟨?_,hG.2.2 hv⟩
  show [litB (payN (k 0)).val]=_
  unfold litB
  rw [hv]
  rfl
section
theorem rp_obj {a w:World}{b:Nat}{l:List Bs} (kw:Below a.heap.size a w) (hb:b < a.heap.size) (c0:a.cell? ⟨b,0,none⟩=some (.string ⟨#[111,98,106,101,99,116]⟩)) (h:HasT 15 (.pointer (some ⟨b,0,none⟩)) l a):Calls Tryz.prog 6 #[.pointer (some ⟨b,0,none⟩)] w (PlA (gl l) a):=by
 have H:Aside (HasT 15 (.pointer (some ⟨b,0,none⟩)) l a):=h
 clear h
 have u0:=(kw.cell (p:=⟨b,0,none⟩) hb).trans c0
 go_enter Tryz.func6,Tryz.ntmps6
 go_wp2_with fail
 refine Calls.mono (H.out w kw) ?_
 rintro e w1 ⟨rfl,k1⟩
 go_wp2_with fail
 go_ret
 exact ⟨rfl,k1⟩
theorem ref_w (hIt:ItoaAt):∀ (t:Tn),Gdt t→RefOk t
 | .done _,h=>h.elim
 | .ask nm kind k,⟨hg,hkids⟩=>by
  have ih:∀ i,i < (payN (k 0)).cnt→RefOk (k (i+1)):=fun i hi=>ref_w hIt (k (i+1)) (hkids i hi)
  have ib:∀ i,i < (payN (k 0)).cnt→BaseOk (k (i+1)):=fun i hi=>base_ok (hkids i hi) (ih i hi)
  have ig:∀ i,i < (payN (k 0)).cnt→AllG (toksT (k (i+1))):=fun i hi=>(toks_good (k (i+1)) (hkids i hi)).1
  intro p a w v hr ht kw hB
  rw [toks_ask] at hB ⊢
  obtain ⟨b,aa,cap,rfl,hb,hc,c7,hkid,a',cap',c8,hpar⟩:=hr.view
  have kidP:∀ i,i < (payN (k 0)).cnt→lenL (toksT (k (i+1)))≤1000000000→∀ q,Rn p a (k (i+1)) (.pointer (some ⟨q,0,none⟩))→HasT 6 (.pointer (some ⟨q,0,none⟩)) (toksT (k (i+1))) a:=fun i hi hl q hr w kw=>ih i hi p a w _ hr ht kw hl
  have kidB:∀ i,i < (payN (k 0)).cnt→lenL (primT (kindT (k (i+1))) (toksT (k (i+1))))≤1000000000→∀ q,Rn p a (k (i+1)) (.pointer (some ⟨q,0,none⟩))→HasT 17 (.pointer (some ⟨q,0,none⟩)) (primT (kindT (k (i+1))) (toksT (k (i+1)))) a:=fun i hi hl q hr w kw=>ib i hi p a w _ hr ht kw hl
  rcases kind_cases hg.cnt with ⟨rfl,hq⟩ | ⟨rfl,hq⟩ | ⟨rfl,hq⟩ | ⟨rfl,hq⟩ | ⟨rfl,hq⟩ | ⟨rfl,hq⟩ | ⟨rfl,hq⟩ | ⟨rfl,hq⟩ | ⟨rfl,hq⟩ | ⟨rfl,hq⟩ | ⟨rfl,hq⟩ | ⟨rfl,hq⟩ | ⟨rfl,hq⟩ | ⟨rfl,hq⟩ | ⟨rfl,hq⟩ | ⟨rfl,hq⟩ | ⟨rfl,hq⟩ | ⟨rfl,hq⟩ | ⟨rfl,hq⟩ | ⟨rfl,hq⟩ | ⟨rfl,hq⟩
  ·have c0:a.cell? ⟨b,0,none⟩=some (.string ⟨#[46]⟩):=hc 0 _ rfl
   exact rp_dot kw hb c0
  ·have c0:a.cell? ⟨b,0,none⟩=some (.string ⟨#[46,46]⟩):=hc 0 _ rfl
   exact rp_dots kw hb c0
  ·have c0:a.cell? ⟨b,0,none⟩=some (.string ⟨#[118,97,108]⟩):=hc 0 _ rfl
   exact rp_val hIt (hg.val rfl) ht kw hb c0 (fun j u hu=>hc (j+2) u hu)
  ·have c0:a.cell? ⟨b,0,none⟩=some (.string ⟨#[118,97,114]⟩):=hc 0 _ rfl
   have c1:a.cell? ⟨b,1,none⟩=some (.string (payN (k 0)).name):=hc 1 _ rfl
   exact rp_var kw hb c0 c1 (hg.name rfl).2.2
  ·have c0:a.cell? ⟨b,0,none⟩=some (.string ⟨#[98,114,101,97,107]⟩):=hc 0 _ rfl
   have c1:a.cell? ⟨b,1,none⟩=some (.string (payN (k 0)).name):=hc 1 _ rfl
   exact rp_break kw hb c0 c1 (hg.name rfl).2.2
  ·have c0:a.cell? ⟨b,0,none⟩=some (.string ⟨#[102,105,101,108,100]⟩):=hc 0 _ rfl
   have c1:a.cell? ⟨b,1,none⟩=some (.string (payN (k 0)).name):=hc 1 _ rfl
   rw [hq] at c7 hkid kidP kidB ig
   obtain ⟨d,rfl,hd,hk⟩:=hkid (by omega)
   obtain ⟨q0,e0,r0⟩:=hk 0 (by omega)
   have hg0:=hkids 0 (by omega)
   obtain ⟨hq0,op0,o0,ho1,ho2⟩:=r0.op hg0
   by_cases hk0:kindT (k 1)=0
   ·have e0':tokN 5 (payN (k 0)) (fun i=>toksT (k (i+1))) (fun i=>kindT (k (i+1)))=[[46],(payN (k 0)).name.data.toList]:=by show (if kindT (k 1)=0 then [] else _) ++ _=_;rw [if_pos hk0];rfl
    rw [e0']
    rw [ho1 hk0] at o0
    have h46:toksT (k 1)=[[46]]:=by
     cases hh:k 1 with
     | done _=>rw [hh] at hg0;exact hg0.elim
     | ask _ kk k'=>rw [hh] at hk0;have hk0:kk=0:=hk0;rw [hk0];rfl
    have hpl:lenL (primT (kindT (k 1)) (toksT (k 1)))≤1000000000:=by rw [hk0,h46];decide
    exact rp_behind (.inl rfl) kw hb c0 (fun w kw=>bh_field0 kw hb c0 c1 (hg.name rfl).2.2 c7 hd e0 (kidB 0 (by omega) hpl q0 r0) hpl o0 hq0)
   ·have e0':tokN 5 (payN (k 0)) (fun i=>toksT (k (i+1))) (fun i=>kindT (k (i+1)))=primT (kindT (k 1)) (toksT (k 1)) ++ [[46],(payN (k 0)).name.data.toList]:=by show (if kindT (k 1)=0 then [] else _) ++ _=_;rw [if_neg hk0]
    rw [e0'] at hB ⊢
    have hL:=hB
    rw [lenL_app] at hL
    have b0:lenL (primT (kindT (k 1)) (toksT (k 1)))≤1000000000:=by omega
    exact rp_behind (.inl rfl) kw hb c0 (fun w kw=>bh_field1 kw hb c0 c1 (hg.name rfl).2.2 c7 hd e0 (kidB 0 (by omega) b0 q0 r0) b0 o0 (ho2 hk0) hq0)
  ·have c0:a.cell? ⟨b,0,none⟩=some (.string ⟨#[105,110,100,101,120]⟩):=hc 0 _ rfl
   rw [hq] at c7 hkid kidP kidB ig
   obtain ⟨d,rfl,hd,hk⟩:=hkid (by omega)
   obtain ⟨q0,e0,r0⟩:=hk 0 (by omega)
   obtain ⟨q1,e1,r1⟩:=hk 1 (by omega)
   have hL:lenL (primT (kindT (k 1)) (toksT (k 1)) ++ [91] :: (toksT (k 2) ++ [[93]]))≤1000000000:=hB
   simp only [lenL_cons,lenL_app,lenL_nil,lenL_brk,List.length_cons,List.length_nil] at hL
   have b0:lenL (primT (kindT (k 1)) (toksT (k 1)))≤1000000000:=by omega
   have p1:lenL (toksT (k 2))≤1000000000:=by omega
   exact rp_behind (.inr (.inr (.inl rfl))) kw hb c0 (fun w kw=>bh_index kw hb c0 c7 hd e0 e1 (kidB 0 (by omega) b0 q0 r0) b0 (kidP 1 (by omega) p1 q1 r1) p1)
  ·have c0:a.cell? ⟨b,0,none⟩=some (.string ⟨#[101,97,99,104]⟩):=hc 0 _ rfl
   rw [hq] at c7 hkid kidP kidB ig
   obtain ⟨d,rfl,hd,hk⟩:=hkid (by omega)
   obtain ⟨q0,e0,r0⟩:=hk 0 (by omega)
   have hL:lenL (primT (kindT (k 1)) (toksT (k 1)) ++ [[91],[93]])≤1000000000:=hB
   simp only [lenL_cons,lenL_app,lenL_nil,lenL_brk,List.length_cons,List.length_nil] at hL
   have b0:lenL (primT (kindT (k 1)) (toksT (k 1)))≤1000000000:=by omega
   exact rp_behind (.inr (.inl rfl)) kw hb c0 (fun w kw=>bh_each kw hb c0 c7 hd e0 (kidB 0 (by omega) b0 q0 r0) b0)
  ·have c0:a.cell? ⟨b,0,none⟩=some (.string ⟨#[63]⟩):=hc 0 _ rfl
   rw [hq] at c7 hkid kidP kidB ig
   obtain ⟨d,rfl,hd,hk⟩:=hkid (by omega)
   obtain ⟨q0,e0,r0⟩:=hk 0 (by omega)
   have hL:lenL (primT (kindT (k 1)) (toksT (k 1)) ++ [[63]])≤1000000000:=hB
   simp only [lenL_cons,lenL_app,lenL_nil,lenL_brk,List.length_cons,List.length_nil] at hL
   have b0:lenL (primT (kindT (k 1)) (toksT (k 1)))≤1000000000:=by omega
   exact rp_behind (.inr (.inr (.inr rfl))) kw hb c0 (fun w kw=>bh_ask kw hb c0 c7 hd e0 (kidB 0 (by omega) b0 q0 r0) b0)
  ·have c0:a.cell? ⟨b,0,none⟩=some (.string ⟨#[108,105,115,116]⟩):=hc 0 _ rfl
   by_cases h0:(payN (k 0)).cnt=0
   ·have e0':tokN 9 (payN (k 0)) (fun i=>toksT (k (i+1))) (fun i=>kindT (k (i+1)))=[[91],[93]]:=by show [91] :: ((if (payN (k 0)).cnt=0 then [] else _) ++ _)=_;rw [if_pos h0];rfl
    rw [e0']
    rw [h0] at c7
    exact rp_list0 kw hb c0 c7
   ·have h1:(payN (k 0)).cnt=1:=by omega
    have e0':tokN 9 (payN (k 0)) (fun i=>toksT (k (i+1))) (fun i=>kindT (k (i+1)))=[91] :: (toksT (k 1) ++ [[93]]):=by show [91] :: ((if (payN (k 0)).cnt=0 then [] else _) ++ _)=_;rw [if_neg h0]
    rw [e0'] at hB ⊢
    have hL:=hB
    rw [lenL_cons,lenL_app] at hL
    rw [h1] at c7 hkid kidP
    obtain ⟨d,rfl,hd,hk⟩:=hkid (by omega)
    obtain ⟨q0,e0,r0⟩:=hk 0 (by omega)
    have p0:lenL (toksT (k 1))≤1000000000:=by omega
    exact rp_list kw hb c0 c7 hd e0 (kidP 0 (by omega) p0 q0 r0) p0
  ·have c0:a.cell? ⟨b,0,none⟩=some (.string ⟨#[111,98,106,101,99,116]⟩):=hc 0 _ rfl
   have hpl:(parR 10 (payN (k 0))).length=(payN (k 0)).names.length:=by show ((payN (k 0)).names.map howR).length=_;rw [List.length_map]
   rw [hpl] at c8 hpar
   rw [hq] at c7
   refine rp_obj kw hb c0 (fun w kw=>object_ok (names:=(payN (k 0)).names) (f:=fun i=>toksT (k (i+1))) rfl hg.fewn kw hb c7 c8 (fun h0=>?_) hB)
   obtain ⟨d,rfl,hd,hk⟩:=hkid (by omega)
   obtain ⟨dp,rfl,hdp,hpc⟩:=hpar h0
   refine ⟨d,dp,rfl,rfl,hd,hdp,fun i x hx=>?_⟩
   have hil:=(List.getElem?_eq_some_iff.1 hx).1
   obtain ⟨qk,ek,rk⟩:=hk (2 * i) (by omega)
   obtain ⟨qv,ev,rv⟩:=hk (2 * i+1) (by omega)
   have hgk:=hkids (2 * i) (by omega)
   obtain ⟨S,cS,hS⟩:=rk.str
   have hm:=hg.mems rfl i x hx
   have hle:=memsY_le (payN (k 0)).names (fun i=>toksT (k (i+1))) (i:=i+1) (n:=(payN (k 0)).names.length) (by omega)
   have hgd:(payN (k 0)).names.getD i ⟨#[]⟩=x:=by simp [hx]
   rw [memsY_succ,hgd,lenL_app] at hle
   unfold memY at hle
   rw [lenL_app,lenL_app,lenL_cons] at hle
   have hL:lenL ([123] :: (memsY (payN (k 0)).names.length (payN (k 0)).names (fun i=>toksT (k (i+1))) ++ [[125]]))≤1000000000:=hB
   rw [lenL_cons,lenL_app] at hL
   have hkl:lenL (toksT (k (2 * i+1)))≤1000000000:=by
    by_cases h40:x.data.toList=[40]
    ·have e:keyT x (toksT (k (2 * i+1)))=brk (toksT (k (2 * i+1))):=by unfold keyT;rw [if_pos h40]
     simp only [e,lenL_brk] at hle
     omega
    ·rcases hm with h | ⟨h1,h2,_⟩
     ·exact absurd h h40
     ·obtain ⟨h3,h4⟩:=lit_toks hgk h1 h2
      rw [h3,lenL_cons,lenL_nil]
      have:=quoteY_len (valT (k (2 * i+1))).2.2.data.toList
      rw [bsize] at this
      omega
   refine ⟨hpc i _ (by show ((payN (k 0)).names.map howR)[i]? = _;rw [List.getElem?_map,hx];rfl),⟨qk,S,ek,kidP (2 * i) (by omega) hkl qk rk,(rk.op hgk).1,cS,fun n40 e34=>?_,fun n40 n34=>?_,fun n40=>?_⟩,⟨qv,ev,kidP (2 * i+1) (by omega) (by simp only at hle;omega) qv rv⟩⟩
   ·rcases hm with h | ⟨h1,h2,_⟩
    ·exact absurd h n40
    ·rw [hS h2];exact (lit_toks hgk h1 h2).1
   ·rcases hm with h | ⟨h1,h2,h | ⟨_,h⟩⟩
    ·exact absurd h n40
    ·exact absurd h n34
    ·rw [hS h2];exact h
   ·rcases hm with h | ⟨h1,h2,_⟩
    ·exact absurd h n40
    ·rw [hS h2];exact (lit_toks hgk h1 h2).2
  ·have c0:a.cell? ⟨b,0,none⟩=some (.string ⟨#[99,97,108,108]⟩):=hc 0 _ rfl
   have c1:a.cell? ⟨b,1,none⟩=some (.string (payN (k 0)).name):=hc 1 _ rfl
   have hL:lenL ((payN (k 0)).name.data.toList :: (if 0 < (payN (k 0)).cnt then brk (semiT (payN (k 0)).cnt fun i=>toksT (k (i+1))) else []))≤1000000000:=hB
   have hL2:lenL ((payN (k 0)).name.data.toList :: brk (semiT (payN (k 0)).cnt fun i=>toksT (k (i+1))))≤1000000000:=by
    split at hL
    ·exact hL
    ·have e:(payN (k 0)).cnt=0:=by omega
     have hns:=(hg.name rfl).2.2
     rw [e,lenL_cons,lenL_brk,bsize]
     have:lenL (semiT 0 fun i=>toksT (k (i+1)))=0:=rfl
     omega
   refine rp_call (f:=fun i=>toksT (k (i+1))) kw hb c0 c1 (hg.name rfl).2.2 c7 hg.few (fun h0=>?_) hL2
   obtain ⟨d,rfl,hd,hk⟩:=hkid h0
   refine ⟨d,rfl,hd,fun i hi=>?_⟩
   obtain ⟨q,e,r⟩:=hk i hi
   have hle:=semiT_le (fun i=>toksT (k (i+1))) (i:=i+1) (n:=(payN (k 0)).cnt) (by omega)
   rw [semiT_succ,lenL_app,lenL_app] at hle
   rw [lenL_cons,lenL_brk] at hL2
   exact ⟨q,e,kidP i hi (by first | omega | (simp only at hle;omega)) q r⟩
  ·have c0:a.cell? ⟨b,0,none⟩=some (.string (payN (k 0)).name):=hc 0 _ rfl
   rw [hq] at c7 hkid kidP kidB ig
   obtain ⟨d,rfl,hd,hk⟩:=hkid (by omega)
   obtain ⟨q0,e0,r0⟩:=hk 0 (by omega)
   obtain ⟨q1,e1,r1⟩:=hk 1 (by omega)
   have hL:lenL (brk (toksT (k 1) ++ (payN (k 0)).name.data.toList :: toksT (k 2)))≤1000000000:=hB
   simp only [lenL_cons,lenL_app,lenL_nil,lenL_brk,List.length_cons,List.length_nil] at hL
   have p0:lenL (toksT (k 1))≤1000000000:=by omega
   have p1:lenL (toksT (k 2))≤1000000000:=by omega
   have hI:lenL (toksT (k 1) ++ (payN (k 0)).name.data.toList :: toksT (k 2))≤1000000000:=by simp only [lenL_cons,lenL_app,lenL_nil,lenL_brk,List.length_cons,List.length_nil];omega
   refine rp_inner (.inl (hg.op rfl)) kw hb c0 (fun w kw=>in_bin kw hb c0 (hg.op rfl) c7 hd e0 e1 (kidP 0 (by omega) p0 q0 r0) (ig 0 (by omega)) (kidP 1 (by omega) p1 q1 r1) (ig 1 (by omega)) hI) hB
  ·have c0:a.cell? ⟨b,0,none⟩=some (.string ⟨#[110,101,103]⟩):=hc 0 _ rfl
   rw [hq] at c7 hkid kidP kidB ig
   obtain ⟨d,rfl,hd,hk⟩:=hkid (by omega)
   obtain ⟨q0,e0,r0⟩:=hk 0 (by omega)
   have hL:lenL (brk ([45] :: toksT (k 1)))≤1000000000:=hB
   simp only [lenL_cons,lenL_app,lenL_nil,lenL_brk,List.length_cons,List.length_nil] at hL
   have p0:lenL (toksT (k 1))≤1000000000:=by omega
   have hI:lenL ([45] :: toksT (k 1))≤1000000000:=by simp only [lenL_cons,lenL_app,lenL_nil,lenL_brk,List.length_cons,List.length_nil];omega
   refine rp_inner (.inr (by decide)) kw hb c0 (fun w kw=>in_neg kw hb c0 c7 hd e0 (kidP 0 (by omega) p0 q0 r0) p0) hB
  ·have c0:a.cell? ⟨b,0,none⟩=some (.string ⟨#[116,114,121]⟩):=hc 0 _ rfl
   rcases hq with hq | hq
   ·rw [hq] at c7 hkid kidP kidB ig
    obtain ⟨d,rfl,hd,hk⟩:=hkid (by omega)
    obtain ⟨q0,e0,r0⟩:=hk 0 (by omega)
    have e0':tokN 14 (payN (k 0)) (fun i=>toksT (k (i+1))) (fun i=>kindT (k (i+1)))=brk ([116,114,121] :: toksT (k 1)):=by show brk ([116,114,121] :: (_ ++ (if (payN (k 0)).cnt=1 then [] else _)))=_;rw [if_pos hq];simp
    rw [e0'] at hB ⊢
    have hL:lenL (brk ([116,114,121] :: toksT (k 1)))≤1000000000:=hB
    simp only [lenL_cons,lenL_app,lenL_nil,lenL_brk,List.length_cons,List.length_nil] at hL
    have p0:lenL (toksT (k 1))≤1000000000:=by omega
    have hI:lenL ([116,114,121] :: toksT (k 1))≤1000000000:=by simp only [lenL_cons,lenL_app,lenL_nil,lenL_brk,List.length_cons,List.length_nil];omega
    refine rp_inner (.inr (by decide)) kw hb c0 (fun w kw=>in_try1 kw hb c0 c7 hd e0 (kidP 0 (by omega) p0 q0 r0) (ig 0 (by omega)) hI) hB
   ·rw [hq] at c7 hkid kidP kidB ig
    obtain ⟨d,rfl,hd,hk⟩:=hkid (by omega)
    obtain ⟨q0,e0,r0⟩:=hk 0 (by omega)
    obtain ⟨q1,e1,r1⟩:=hk 1 (by omega)
    have e0':tokN 14 (payN (k 0)) (fun i=>toksT (k (i+1))) (fun i=>kindT (k (i+1)))=brk ([116,114,121] :: (toksT (k 1) ++ [99,97,116,99,104] :: toksT (k 2))):=by show brk ([116,114,121] :: (_ ++ (if (payN (k 0)).cnt=1 then [] else _)))=_;rw [if_neg (by omega)]
    rw [e0'] at hB ⊢
    have hL:lenL (brk ([116,114,121] :: (toksT (k 1) ++ [99,97,116,99,104] :: toksT (k 2))))≤1000000000:=hB
    simp only [lenL_cons,lenL_app,lenL_nil,lenL_brk,List.length_cons,List.length_nil] at hL
    have p0:lenL (toksT (k 1))≤1000000000:=by omega
    have p1:lenL (toksT (k 2))≤1000000000:=by omega
    have hI:lenL ([116,114,121] :: (toksT (k 1) ++ [99,97,116,99,104] :: toksT (k 2)))≤1000000000:=by simp only [lenL_cons,lenL_app,lenL_nil,lenL_brk,List.length_cons,List.length_nil];omega
    refine rp_inner (.inr (by decide)) kw hb c0 (fun w kw=>in_try2 kw hb c0 c7 hd e0 e1 (kidP 0 (by omega) p0 q0 r0) (ig 0 (by omega)) (kidP 1 (by omega) p1 q1 r1) (ig 1 (by omega)) hI) hB
  ·have c0:a.cell? ⟨b,0,none⟩=some (.string ⟨#[105,102]⟩):=hc 0 _ rfl
   rw [hq] at c7 hkid kidP kidB ig
   obtain ⟨d,rfl,hd,hk⟩:=hkid (by omega)
   obtain ⟨q0,e0,r0⟩:=hk 0 (by omega)
   obtain ⟨q1,e1,r1⟩:=hk 1 (by omega)
   obtain ⟨q2,e2,r2⟩:=hk 2 (by omega)
   have hL:lenL ([105,102] :: (toksT (k 1) ++ [116,104,101,110] :: (toksT (k 2) ++ [101,108,115,101] :: (toksT (k 3) ++ [[101,110,100]]))))≤1000000000:=hB
   simp only [lenL_cons,lenL_app,lenL_nil,lenL_brk,List.length_cons,List.length_nil] at hL
   have p0:lenL (toksT (k 1))≤1000000000:=by omega
   have p1:lenL (toksT (k 2))≤1000000000:=by omega
   have p2:lenL (toksT (k 3))≤1000000000:=by omega
   exact rp_if kw hb c0 c7 hd e0 e1 e2 (kidP 0 (by omega) p0 q0 r0) (ig 0 (by omega)) (kidP 1 (by omega) p1 q1 r1) (ig 1 (by omega)) (kidP 2 (by omega) p2 q2 r2) (ig 2 (by omega)) hB
  ·have c0:a.cell? ⟨b,0,none⟩=some (.string ⟨#[97,115]⟩):=hc 0 _ rfl
   have c1:a.cell? ⟨b,1,none⟩=some (.string (payN (k 0)).name):=hc 1 _ rfl
   rw [hq] at c7 hkid kidP kidB ig
   obtain ⟨d,rfl,hd,hk⟩:=hkid (by omega)
   obtain ⟨q0,e0,r0⟩:=hk 0 (by omega)
   obtain ⟨q1,e1,r1⟩:=hk 1 (by omega)
   have hL:lenL (brk (primT (kindT (k 1)) (toksT (k 1)) ++ [97,115] :: varT (payN (k 0)) :: [124] :: toksT (k 2)))≤1000000000:=hB
   simp only [lenL_cons,lenL_app,lenL_nil,lenL_brk,List.length_cons,List.length_nil] at hL
   have b0:lenL (primT (kindT (k 1)) (toksT (k 1)))≤1000000000:=by omega
   have p1:lenL (toksT (k 2))≤1000000000:=by omega
   have hI:lenL (primT (kindT (k 1)) (toksT (k 1)) ++ [97,115] :: varT (payN (k 0)) :: [124] :: toksT (k 2))≤1000000000:=by simp only [lenL_cons,lenL_app,lenL_nil,lenL_brk,List.length_cons,List.length_nil];omega
   refine rp_inner (.inr (by decide)) kw hb c0 (fun w kw=>in_as kw hb c0 c1 (hg.name rfl) c7 hd e0 e1 (kidB 0 (by omega) b0 q0 r0) ((ig 0 (by omega)).prim _) (kidP 1 (by omega) p1 q1 r1) (ig 1 (by omega)) hI) hB
  ·have c0:a.cell? ⟨b,0,none⟩=some (.string ⟨#[108,97,98,101,108]⟩):=hc 0 _ rfl
   have c1:a.cell? ⟨b,1,none⟩=some (.string (payN (k 0)).name):=hc 1 _ rfl
   rw [hq] at c7 hkid kidP kidB ig
   obtain ⟨d,rfl,hd,hk⟩:=hkid (by omega)
   obtain ⟨q0,e0,r0⟩:=hk 0 (by omega)
   have hL:lenL (brk ([108,97,98,101,108] :: varT (payN (k 0)) :: [124] :: toksT (k 1)))≤1000000000:=hB
   simp only [lenL_cons,lenL_app,lenL_nil,lenL_brk,List.length_cons,List.length_nil] at hL
   have p0:lenL (toksT (k 1))≤1000000000:=by omega
   have hI:lenL ([108,97,98,101,108] :: varT (payN (k 0)) :: [124] :: toksT (k 1))≤1000000000:=by simp only [lenL_cons,lenL_app,lenL_nil,lenL_brk,List.length_cons,List.length_nil];omega
   refine rp_inner (.inr (by decide)) kw hb c0 (fun w kw=>in_label kw hb c0 c1 (hg.name rfl) c7 hd e0 (kidP 0 (by omega) p0 q0 r0) (ig 0 (by omega)) hI) hB
  ·have c0:a.cell? ⟨b,0,none⟩=some (.string ⟨#[114,101,100,117,99,101]⟩):=hc 0 _ rfl
   have c1:a.cell? ⟨b,1,none⟩=some (.string (payN (k 0)).name):=hc 1 _ rfl
   rw [hq] at c7 hkid kidP kidB ig
   obtain ⟨d,rfl,hd,hk⟩:=hkid (by omega)
   obtain ⟨q0,e0,r0⟩:=hk 0 (by omega)
   obtain ⟨q1,e1,r1⟩:=hk 1 (by omega)
   obtain ⟨q2,e2,r2⟩:=hk 2 (by omega)
   have e2':(semiT 2 fun i=>toksT (k (i+1+1)))=toksT (k 2) ++ [59] :: toksT (k 3):=by simp [semiT,List.range,List.range.loop]
   have e0':tokN 18 (payN (k 0)) (fun i=>toksT (k (i+1))) (fun i=>kindT (k (i+1)))=[114,101,100,117,99,101] :: (primT (kindT (k 1)) (toksT (k 1)) ++ [97,115] :: (36 :: (payN (k 0)).name.data.toList) :: brk (toksT (k 2) ++ [59] :: toksT (k 3))):=by rw [← e2'];rfl
   rw [e0'] at hB ⊢
   have hL:=hB
   simp only [lenL_cons,lenL_app,lenL_nil,lenL_brk,List.length_cons,List.length_nil] at hL
   have b0:lenL (primT (kindT (k 1)) (toksT (k 1)))≤1000000000:=by omega
   have p1:lenL (toksT (k 2))≤1000000000:=by omega
   have p2:lenL (toksT (k 3))≤1000000000:=by omega
   exact rp_reduce kw hb c0 c1 (hg.name rfl) c7 hd e0 e1 e2 (kidB 0 (by omega) b0 q0 r0) ((ig 0 (by omega)).prim _) (kidP 1 (by omega) p1 q1 r1) (ig 1 (by omega)) (kidP 2 (by omega) p2 q2 r2) (ig 2 (by omega)) hB
  ·have c0:a.cell? ⟨b,0,none⟩=some (.string ⟨#[102,111,114,101,97,99,104]⟩):=hc 0 _ rfl
   have c1:a.cell? ⟨b,1,none⟩=some (.string (payN (k 0)).name):=hc 1 _ rfl
   rw [hq] at c7 hkid kidP kidB ig
   obtain ⟨d,rfl,hd,hk⟩:=hkid (by omega)
   obtain ⟨q0,e0,r0⟩:=hk 0 (by omega)
   obtain ⟨q1,e1,r1⟩:=hk 1 (by omega)
   obtain ⟨q2,e2,r2⟩:=hk 2 (by omega)
   obtain ⟨q3,e3,r3⟩:=hk 3 (by omega)
   have e2':(semiT 3 fun i=>toksT (k (i+1+1)))=toksT (k 2) ++ [59] :: (toksT (k 3) ++ [59] :: toksT (k 4)):=by simp [semiT,List.range,List.range.loop]
   have e0':tokN 19 (payN (k 0)) (fun i=>toksT (k (i+1))) (fun i=>kindT (k (i+1)))=[102,111,114,101,97,99,104] :: (primT (kindT (k 1)) (toksT (k 1)) ++ [97,115] :: (36 :: (payN (k 0)).name.data.toList) :: brk (toksT (k 2) ++ [59] :: (toksT (k 3) ++ [59] :: toksT (k 4)))):=by rw [← e2'];rfl
   rw [e0'] at hB ⊢
   have hL:=hB
   simp only [lenL_cons,lenL_app,lenL_nil,lenL_brk,List.length_cons,List.length_nil] at hL
   have b0:lenL (primT (kindT (k 1)) (toksT (k 1)))≤1000000000:=by omega
   have p1:lenL (toksT (k 2))≤1000000000:=by omega
   have p2:lenL (toksT (k 3))≤1000000000:=by omega
   have p3:lenL (toksT (k 4))≤1000000000:=by omega
   exact rp_foreach kw hb c0 c1 (hg.name rfl) c7 hd e0 e1 e2 e3 (kidB 0 (by omega) b0 q0 r0) ((ig 0 (by omega)).prim _) (kidP 1 (by omega) p1 q1 r1) (ig 1 (by omega)) (kidP 2 (by omega) p2 q2 r2) (ig 2 (by omega)) (kidP 3 (by omega) p3 q3 r3) (ig 3 (by omega)) hB
  ·have c0:a.cell? ⟨b,0,none⟩=some (.string ⟨#[100,101,102]⟩):=hc 0 _ rfl
   have c1:a.cell? ⟨b,1,none⟩=some (.string (payN (k 0)).name):=hc 1 _ rfl
   rw [hq] at c7 hkid kidP kidB ig
   obtain ⟨d,rfl,hd,hk⟩:=hkid (by omega)
   obtain ⟨q0,e0,r0⟩:=hk 0 (by omega)
   obtain ⟨q1,e1,r1⟩:=hk 1 (by omega)
   have hL:lenL (brk ([100,101,102] :: (payN (k 0)).name.data.toList :: (parT (payN (k 0)).names.length (payN (k 0)).names ++ ((if 0 < (payN (k 0)).names.length then [[41]] else []) ++ [58] :: (toksT (k 1) ++ [59] :: toksT (k 2))))))≤1000000000:=hB
   simp only [lenL_cons,lenL_app,lenL_nil,lenL_brk,List.length_cons,List.length_nil] at hL
   have p0:lenL (toksT (k 1))≤1000000000:=by omega
   have p1:lenL (toksT (k 2))≤1000000000:=by omega
   have hI:lenL ([100,101,102] :: (payN (k 0)).name.data.toList :: (parT (payN (k 0)).names.length (payN (k 0)).names ++ ((if 0 < (payN (k 0)).names.length then [[41]] else []) ++ [58] :: (toksT (k 1) ++ [59] :: toksT (k 2)))))≤1000000000:=by simp only [lenL_cons,lenL_app,lenL_nil,lenL_brk,List.length_cons,List.length_nil];omega
   refine rp_inner (l:=[100,101,102] :: (payN (k 0)).name.data.toList :: (parT (payN (k 0)).names.length (payN (k 0)).names ++ ((if 0 < (payN (k 0)).names.length then [[41]] else []) ++ [58] :: (toksT (k 1) ++ [59] :: toksT (k 2))))) (.inr (by decide)) kw hb c0 (fun w kw=>in_def (l:=(payN (k 0)).names) rfl hg.fewn kw hb c0 c1 (hg.name rfl) (hg.names rfl) c7 hd e0 e1 (kidP 0 (by omega) p0 q0 r0) (kidP 1 (by omega) p1 q1 r1) c8 (fun h0=>hpar h0) hI) hB
end
end Go.Proofs.Tryz
