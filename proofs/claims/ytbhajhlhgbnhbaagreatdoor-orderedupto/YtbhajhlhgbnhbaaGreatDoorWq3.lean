import Derived.Test.YtbhajhlhgbnhbaaGreatDoorOk4
set_option linter.all false
namespace Go.Proofs.Tryz
set_option maxHeartbeats 16000000
open Go.RowKit
set_option maxRecDepth 10000
theorem ChainOn.to {p q:Nat→Prop}{w:World}{base:Option Addr} (hq:∀ k,p k→k < w.heap.size→q k):∀ {es:List (ByteArray×Int)}{kn:Option Addr},ChainOn p w base es kn→ChainOn q w base es kn
 | [],_,h=>h
 | e :: es,kn,⟨b,db,around,h1,h2,h3,h4⟩=>⟨b,db,around,h1,hq b h2 h3.lt,h3,ChainOn.to hq h4⟩
theorem GivenS.to {p q:Nat→Prop}{w:World}{kn:Option Addr} (h:GivenS p w kn) (hq:∀ k,p k→k < w.heap.size→q k):GivenS q w kn:=by
 obtain ⟨mb,sb,h1,⟨g2,gb,gd,go,gc,gx,g3,g4,g5,g6,g7,g8,g9⟩,h2,db,pd,po,pc,x,h3,h4,h5,h6,h7,h8,h9⟩:=h
 exact ⟨mb,sb,h1.to hq,⟨hq sb g2 g3.lt,gb,gd,go,gc,gx,g3,hq gb g4 (lt_cell g6),hq gd g5 (lt_cell g7),g6,g7,g8,g9.to (fun b o u hb hu=>⟨hq b hb (cell_lt hu),hu⟩)⟩,hq mb h2 h3.lt,db,pd,po,pc,x,h3,hq db h4 (lt_cell h6),hq pd h5 (lt_cell h7),h6,h7,h8,h9.to (fun b o u hb hu=>⟨hq b hb (cell_lt hu),hu⟩)⟩
theorem GivenS.move {p:Nat→Prop}{w w':World}{kn:Option Addr} (h:GivenS p w kn) (hs:SameOn p w w'):GivenS p w' kn:=by
 obtain ⟨mb,sb,h1,h2,h3⟩:=h
 exact ⟨mb,sb,h1.move (hs.mono (fun _ h=>h.1)),h2.move hs,h3.move hs⟩
def OpenTop (B:Nat) (w0:World) (v:Value) (x:IV) (Ls:List SP):Prop:=∀ (n:Nat) (w:World) (kn:Option Addr),SameOn (· < B) w0 w→B≤n→n≤w.heap.size→GivenS (fun k=>n≤k∧k < w.heap.size) w kn→
 Calls Tryz.prog 22 #[.agg #[.pointer kn,.int .i64 50],v,.agg #[iv x,.pointer none]] w (MadeC Ls (fun k=>k < B∨n≤k∧k < w.heap.size) w)
theorem top_low {B n:Nat}{Ls:List SP}{w wo w':World}{e:Ending} (h:MadeC Ls (fun k=>k < B∨n≤k∧k < wo.heap.size) wo e w') (hk:Below w.heap.size w wo) (hn:w.heap.size≤n):MadeC Ls (· < B) w e w':=by
 obtain ⟨k,K,cap,rfl,hM⟩:=h
 exact ⟨hk.trans (k.mono hk.size),K,cap,rfl,hM.low hk.size (fun k hk=>by rcases hk with h | h;exact .inl h;exact .inr (by omega))⟩
theorem start1_50g (hI:ParsesInt) {B db fb ib:Nat}{w0 w:World}{T T1 b1:Nat}{u:Value}{Ls:List SP} (hd:Box w db (.int .i64 50) 3) (hf:Box w fb (.iface T1 (.pointer (some ⟨b1,0,none⟩))) 37) (hi:Box w ib (.iface T u) 32) (hO:OpenTop B w0 (.iface T1 (.pointer (some ⟨b1,0,none⟩))) (T,u) Ls) (hS:SignsIn w0) (hg:0 < B) (hs:SameOn (· < B) w0 w) (hB:B≤w.heap.size) :
    Calls Tryz.prog 20 #[.pointer (some ⟨db,0,none⟩),.pointer (some ⟨fb,0,none⟩),.pointer (some ⟨ib,0,none⟩)] w (MadeC Ls (· < B) w):=by
  have d0:=hd.cell
  have hdl:=hd.lt
  have f0:=hf.cell
  have i0:=hi.cell
  have HO:Aside (∀ (n:Nat) (w:World) (kn:Option Addr),SameOn (· < B) w0 w→B≤n→n≤w.heap.size→GivenS (fun k=>n≤k∧k < w.heap.size) w kn→Calls Tryz.prog 22 #[.agg #[.pointer kn,.int .i64 50],.iface T1 (.pointer (some ⟨b1,0,none⟩)),.agg #[.iface T u,.pointer none]] w (MadeC Ls (fun k=>k < B∨n≤k∧k < w.heap.size) w)):=hO
  clear hO
  have hfl:=hf.lt
  have hil:=hi.lt
  have hG2:∀ w',Below w.heap.size w w'→Calls Tryz.prog 21 #[] w' fun e w''=>∃ kn,e = .returned (.pointer kn)∧Below w'.heap.size w' w''∧w''.cell? ⟨db,0,none⟩=some (.int .i64 50)∧Below w.heap.size w w''∧w''.cell? ⟨fb,0,none⟩=some (.iface T1 (.pointer (some ⟨b1,0,none⟩)))∧w''.cell? ⟨ib,0,none⟩=some (.iface T u)∧fb < w''.heap.size∧ib < w''.heap.size∧Aside (GivenS (fun k=>w'.heap.size≤k∧k < w''.heap.size) w'' kn):=by
    intro w' kW
    refine (given_ok3 hI _ (hS.same (hs.trans (fun k hk=>kW.block k (Nat.lt_of_lt_of_le hk hB))) hg (Nat.le_trans hB kW.size))).mono ?_
    rintro e w1 ⟨kn,rfl,k1,hgv⟩
    have kY:=kW.trans (k1.mono kW.size)
    exact ⟨kn,rfl,k1,(kY.cell (p:=⟨db,0,none⟩) hd.lt).trans d0,kY,(kY.cell (p:=⟨fb,0,none⟩) hfl).trans f0,(kY.cell (p:=⟨ib,0,none⟩) hil).trans i0,Nat.lt_of_lt_of_le hfl kY.size,Nat.lt_of_lt_of_le hil kY.size,hgv.to (fun k a b=>⟨a,b⟩)⟩
  have nf1:¬ w.heap.size=fb:=by omega
  have nf2:¬ fb=w.heap.size:=by omega
  have ni1:¬ w.heap.size=ib:=by omega
  have ni2:¬ ib=w.heap.size:=by omega
  go_enter Tryz.func20,Tryz.ntmps20
  go_wp2_with fail
  go_region_held3 (fun w'=>w'.cell? ⟨db,0,none⟩=some (.int .i64 50)) (first | exact e4 | exact keep2 hdl e4 | go_keep)
    (first
      | (go_at_call 21;refine (hG2 _ (by first | exact (Below.refl _ _).drew | exact (Below.refl _ _).drew.alloc (by simp) _)).mono ?_;rintro e w1 ⟨kn,rfl,kX,e4,kY,f1,i1,fl,il,HGV⟩;first | (have q:PlaceBox w1 w.heap.size none 0:=PlaceBox.same (heap_new w.drew _) (kX.block _ (by simp));obtain ⟨q0,q1,q2,q3,q4⟩:=q.facts) | skip))
  all_goals first
    | (go_wp2_with (go_at_call 22;refine (HO.out w.heap.size _ kn (hs.trans (fun k hk=>(kY.alloc kY.size _).block k (Nat.lt_of_lt_of_le hk hB))) hB (by have:=kY.size;simp;omega) ((HGV.out.move (fun k hk=>(below_alloc w1 _).block k hk.2)).to (fun k hk _=>⟨hk.1,by have:=hk.2;simp;omega⟩))).mono ?_;rintro e w2 hM;have hM2:=top_low (w:=w) hM (kY.alloc kY.size _) (Nat.le_refl _);clear hM;obtain ⟨k2,K,cap,rfl,hQ⟩:=hM2)
       go_ret
       exact ⟨k2,K,cap,rfl,hQ⟩)
    | (go_wp2_with (go_at_call 22;refine (HO.out (w.heap.size+1) _ kn (hs.trans (fun k hk=>((kY.setCell (p:=⟨w.heap.size,0,none⟩) (Nat.le_refl _) _).setCell (p:=⟨w.heap.size,1,none⟩) (Nat.le_refl _) _).block k (Nat.lt_of_lt_of_le hk hB))) (by omega) (by have:=kX.size;simpa using this) ((HGV.out.move (fun k hk=>by have:=hk.1;simp at this;rw [Below.heap_setCell _ _ _ _ (by simp;omega),Below.heap_setCell _ _ _ _ (by simp;omega)])).to (fun k hk _=>⟨by simpa using hk.1,by simpa using hk.2⟩))).mono ?_;rintro e w2 hM;have hM2:=top_low (w:=w) hM ((kY.setCell (p:=⟨w.heap.size,0,none⟩) (Nat.le_refl _) _).setCell (p:=⟨w.heap.size,1,none⟩) (Nat.le_refl _) _) (by omega);clear hM;obtain ⟨k2,K,cap,rfl,hQ⟩:=hM2)
       go_ret
       exact ⟨k2,K,cap,rfl,hQ⟩)
theorem start_secg (hI:ParsesInt) {B db fb ib:Nat}{w0 w:World}{T T1 b1:Nat}{u:Value}{Ls:List SP} (hd:Box w db (.int .i64 50) 3) (hf:Box w fb (.iface T1 (.pointer (some ⟨b1,0,none⟩))) 37) (hi:Box w ib (.iface T u) 32) (hO:OpenTop B w0 (.iface T1 (.pointer (some ⟨b1,0,none⟩))) (T,u) Ls) (hS:SignsIn w0) (hg:0 < B) (hs:SameOn (· < B) w0 w) (hB:B≤w.heap.size) :
  SecG (fun k=>k < B∨k=db∨k=fb∨k=ib) w (.func (.func 20) #[] #[.pointer (some ⟨db,0,none⟩),.pointer (some ⟨fb,0,none⟩),.pointer (some ⟨ib,0,none⟩)]) Ls:=by
 have hdl:=hd.lt
 have hfl:=hf.lt
 have hil:=hi.lt
 refine ⟨_,_,rfl,enters_start1,by grind,fun w' hs' hl=>?_⟩
 refine (start1_50g hI (hd.same (hs' _ (by simp))) (hf.same (hs' _ (by simp))) (hi.same (hs' _ (by simp))) hO hS hg (hs.trans (fun k hk=>hs' k (.inl hk))) (Nat.le_trans hB hl)).mono ?_
 intro e w'' hM
 exact hM.more (fun k hk=>.inl (.inl hk))
theorem Start_g (hI:ParsesInt) {B:Nat}{w0 w:World}{T T1 b1:Nat}{u:Value}{P:SP}{L:List SP} (hO:OpenTop B w0 (.iface T1 (.pointer (some ⟨b1,0,none⟩))) (T,u) (P :: L)) (hS:SignsIn w0) (hg:0 < B) (hs:SameOn (· < B) w0 w) (hB:B≤w.heap.size) :
  Calls Tryz.prog 10 #[.iface T1 (.pointer (some ⟨b1,0,none⟩)),.iface T u,.int .i64 50] w fun e w'=>Below w.heap.size w w'∧∃ sb f F D,e = .returned (.pointer (some ⟨sb,0,none⟩))∧StreamBox w' sb f∧StG (P :: L) F D w' f∧(∀ k,F k→k < B∨w.heap.size≤k)∧(∀ k,D k→w.heap.size≤k)∧¬ F sb∧w.heap.size≤sb:=by
 have k3:=below_alloc3 w (.cells #[.iface T1 (.pointer (some ⟨b1,0,none⟩))] 37) (.cells #[.iface T u] 32) (.cells #[.int .i64 50] 3)
 have x0:Box _ w.heap.size _ 37:=heap_at1 w (.cells #[.iface T1 (.pointer (some ⟨b1,0,none⟩))] 37) (.cells #[.iface T u] 32) (.cells #[.int .i64 50] 3)
 have x1:Box _ (w.heap.size+1) _ 32:=heap_at2 w (.cells #[.iface T1 (.pointer (some ⟨b1,0,none⟩))] 37) (.cells #[.iface T u] 32) (.cells #[.int .i64 50] 3)
 have x2:Box _ (w.heap.size+1+1) _ 3:=heap_new3 w (.cells #[.iface T1 (.pointer (some ⟨b1,0,none⟩))] 37) (.cells #[.iface T u] 32) (.cells #[.int .i64 50] 3)
 have hsec:=start_secg hI x2 x0 x1 hO hS hg (hs.trans (fun k hk=>k3.block k (Nat.lt_of_lt_of_le hk hB))) (Nat.le_trans hB k3.size)
 have hbe:=behind_g hsec
 have HBE:Aside _:=hbe
 clear hsec x0 x1 x2 hbe
 go_enter Tryz.func10,Tryz.ntmps10
 go_wp2_with (go_at_call 18;refine Calls.mono HBE.out ?_;rintro e w1 ⟨k1,K,cap,rfl,F,D,hsk,hF,hD⟩)
 have k1s:=k1.size
 go_ret
 refine ⟨(k3.trans (k1.mono k3.size)).alloc (by have:=k3.size;omega) _,_,_,F,D,rfl,heap_new w1 _,hsk.move (fun k hk=>(below_alloc w1 _).block k (hsk.lt k hk)) (by simp),?_,?_,?_,by have:=k3.size;omega⟩
 ·intro k hk
  rcases hF k hk with (h | h | h | h) | h
  ·exact .inl h
  ·exact .inr (by omega)
  ·exact .inr (by omega)
  ·exact .inr (by omega)
  ·exact .inr (by have:=k3.size;omega)
 ·intro k hk
  have:=hD k hk
  have:=k3.size
  omega
 ·intro hk
  have:=hsk.lt _ hk
  omega
end Go.Proofs.Tryz
