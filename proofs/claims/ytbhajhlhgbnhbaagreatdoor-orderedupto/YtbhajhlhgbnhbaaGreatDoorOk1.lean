import Derived.Test.YtbhajhlhgbnhbaaGreatDoorWk6
import Derived.Test.YtbhajhlhgbnhbaaGreatDoorNames7
import Derived.Test.YtbhajhlhgbnhbaaGreatDoorLex4
import Derived.Test.YtbhajhlhgbnhbaaGreatDoorStep14
set_option linter.all false
namespace Go.Proofs.Tryz
set_option maxHeartbeats 16000000
open Go.RowKit
def step (P:Pars):Pars
 | .ok none,l=>stepFilter P l
 | .error r,l=>stepOper P r l
 | .ok (some none),l=>stepMinus P l
 | .ok (some (some none)),l=>stepBound P l
 | .ok (some (some (some false))),l=>stepPostfix P l
 | .ok (some (some (some true))),l=>stepPrimary P l
def parse:Nat→Pars
 | 0=>fun _ _=>none
 | n+1=>step (parse n)
theorem parse_sound (hI:ParsesInt):∀ n,Sound (parse n)
 | 0=>fun _ _ _ _ _ _ _ h _=>by cases h
 | n+1=>fun c l t l' w rb tb h hr=>by
  have hP:=parse_sound hI n
  match c,h with
  | .ok none,h=>exact filter_step hP h hr
  | .error r,h=>exact oper_step hP h hr
  | .ok (some none),h=>exact minus_step hP h hr
  | .ok (some (some none)),h=>exact bound_step hP h hr
  | .ok (some (some (some false))),h=>exact pfix_step hP h hr
  | .ok (some (some (some true))),h=>exact primary_step hI hP h hr
set_option maxRecDepth 10000
theorem firstUnknown_ok {p:Nat→Prop}{w:World}{v:Value}{t:Tr} (h:Rep p w v t) (ho:okT [] t=true) :
  Calls Tryz.prog 17 #[v] w fun e w'=>e = .returned (.tuple #[.int .i64 0,.bool false])∧Below w.heap.size w w':=by
 obtain ⟨T,b,rfl⟩:=h.shape
 go_enter Tryz.func17,Tryz.ntmps17
 go_wp2_with (go_at_call 40;refine (check1 (by exact heap_new2 w _ _) ⟨_,_,rfl⟩ (by exact (fine_all t (p:=p) (env:=[]) ho (h.upon ((below_alloc _ _).alloc (by simp) _)) rfl))).mono ?_;rintro e w1 ⟨rfl,k1⟩;have q0:=(k1.cell (p:=⟨w.heap.size,0,none⟩) (by simp;omega));have q1:=(k1.cell (p:=⟨w.heap.size,1,none⟩) (by simp;omega));simp at q0 q1;have hB:Below w.heap.size w w1:=((below_alloc _ _).alloc (by simp) _).trans (k1.mono (by simp;omega)))
 go_quiet (fail)
 go_wp2_with fail
 go_ret2
 exact ⟨rfl,hB.trans ((below_drewN _ _).mono hB.size)⟩
theorem rd_start {w:World}{g cap T:Nat}{toks:List Tok} (htk:Toks w g 0 toks) (hg:g < w.heap.size) (hc:toks.length≤cap) (hc2:cap≤maxLen):Rd (w.alloc (.cells #[.slice (some ⟨g,0,none⟩) toks.length cap] T)) w.heap.size g toks :=
 ⟨0,cap,box_cell _ _ _ _,hc,hc2,by simp,by omega,by simp;omega,Toks.same ((below_alloc w _).block g hg) htk⟩
theorem Left.belowOf {w w1 w2:World}{g T:Nat}{cs:Array Value}{l:List Tok} (h:Left (w1.alloc (.cells cs T)) w2 w1.heap.size g l) (hw:w.heap.size≤w1.heap.size):Below w.heap.size w1 w2 :=
 ⟨h.kept.os,h.kept.tape,h.kept.output,by have:=h.kept.size;simp at this;omega,fun k hk=>(h.kept.block k (by simp;omega) (by omega)).trans ((below_alloc w1 _).block k (by omega))⟩
theorem read_ok (hI:ParsesInt) (s:ByteArray) (n m:Nat) (toks:List Tok) (z:Tok) (t:Tr) (w:World) (hs:s.size≤2000) (hm:m≤3000) (hS:SignsIn w) (hl:lexL s m 0=some toks) (hp:parse n .filter toks=some (t,[z])) (hz:z.kind=0) (ho:okT [] t=true) :
  Calls Tryz.prog 9 #[.string s] w fun e w'=>∃ T b,e = .returned (.tuple #[.iface T (.pointer (some ⟨b,0,none⟩)),.int .i64 0,.int .i64 0])∧Below w.heap.size w w'∧Rep (w.heap.size≤·) w' (.iface T (.pointer (some ⟨b,0,none⟩))) t:=by
 have hs':¬ (2000:Int) < (s.size:Int):=by omega
 go_enter Tryz.func9,Tryz.ntmps9
 go_wp2_with (first
  | (go_at_call 15;refine (readTokens_ok s m toks _ hs hm hS hl).mono ?_;rintro e w1 ⟨g,cap,rfl,hg1,hg2,htk,hc1,hc2,k1⟩)
  | (go_at_call 16;refine ((parse_sound hI n).filter hp (rd_start htk hg2 hc1 hc2)).mono ?_;rintro e w2 ⟨T,b,rfl,h2,r2⟩;have hr2:=h2.rd;obtain ⟨o,c,⟨d1,d2,d3,d4,d5,d6,⟨d7,d8,d9,_⟩⟩⟩:=hr2;have q1:=h2.kept.size;simp only [List.length_singleton,hz] at d1 d2 d7;have hB2:Below w.heap.size w w2:=k1.trans (Left.belowOf h2 k1.size)))
 have hb2:w1.heap.size < w2.heap.size:=by simp at q1;omega
 go_wp2_with (first
  | (go_at_call 17;refine (firstUnknown_ok (r2.upon (below_alloc _ _)) ho).mono ?_;rintro e w3 ⟨rfl,k3⟩))
 go_ret3
 have hs1:=k1.size
 exact ⟨_,_,rfl,(hB2.alloc hB2.size _).trans (k3.mono (by have:=hB2.size;simp;omega)),(((r2.low (by simp;omega)).upon (below_alloc _ _)).upon k3)⟩
set_option maxRecDepth 100000
def readAs (s:ByteArray):Option Tr :=
 match lexL s 1000 0 with
 | none=>none
 | some l=>match parse 60 .filter l with
  | some (t,[z])=>if z.kind=0∧okT [] t=true then some t else none
  | _=>none
theorem readAs_ok (hI:ParsesInt) {s:ByteArray}{t:Tr} (h:readAs s=some t) (w:World) (hs:s.size≤2000) (hS:SignsIn w) :
  Calls Tryz.prog 9 #[.string s] w fun e w'=>∃ T b,e = .returned (.tuple #[.iface T (.pointer (some ⟨b,0,none⟩)),.int .i64 0,.int .i64 0])∧Below w.heap.size w w'∧Rep (w.heap.size≤·) w' (.iface T (.pointer (some ⟨b,0,none⟩))) t:=by
 unfold readAs at h
 split at h
 ·cases h
 ·rename_i l hl
  split at h
  ·rename_i t' z hp
   split at h
   ·rename_i hz
    cases h
    exact read_ok hI s 60 1000 l z t w hs (by omega) hS hl hp hz.1 hz.2
   ·cases h
  ·cases h
def fDefs:ByteArray:=⟨#[10,100,101,102,32,109,97,112,40,102,41,58,32,91,46,91,93,32,124,32,102,93,59,10,100,101,102,32,115,101,108,101,99,116,40,102,41,58,32,105,102,32,102,32,116,104,101,110,32,46,32,101,108,115,101,32,101,109,112,116,121,32,101,110,100,59,10,100,101,102,32,114,101,99,117,114,115,101,40,102,41,58,32,46,44,32,40,102,32,124,32,114,101,99,117,114,115,101,40,102,41,41,59,10,100,101,102,32,117,110,116,105,108,40,99,59,32,102,41,58,32,105,102,32,99,32,116,104,101,110,32,46,32,101,108,115,101,32,40,102,32,124,32,117,110,116,105,108,40,99,59,32,102,41,41,32,101,110,100,59,10,100,101,102,32,114,101,112,101,97,116,40,102,41,58,32,46,44,32,40,102,32,124,32,114,101,112,101,97,116,40,102,41,41,59,10,100,101,102,32,119,104,105,108,101,40,99,59,32,102,41,58,32,105,102,32,99,32,116,104,101,110,32,46,44,32,40,102,32,124,32,119,104,105,108,101,40,99,59,32,102,41,41,32,101,108,115,101,32,101,109,112,116,121,32,101,110,100,59,10,100,101,102,32,105,115,118,97,108,105,100,40,102,41,58,32,116,114,121,32,40,102,32,124,32,116,114,117,101,41,32,99,97,116,99,104,32,102,97,108,115,101,59,10,100,101,102,32,108,97,115,116,40,102,41,58,32,114,101,100,117,99,101,32,102,32,97,115,32,36,120,32,40,110,117,108,108,59,32,36,120,41,59,10,46]⟩
def chainB:Tr→Nat→Bool
 | .done _,_=>false
 | .ask _ kind k,n=>match kind,n with
  | 0,0=>true
  | 15,n+1=>chainB (k 2) n
  | 16,n+1=>chainB (k 2) n
  | _,_=>false
def defOk (o:Option Tr) (n:Nat):Bool:=match o with
 | some t=>chainB t n
 | none=>false
theorem chain_of {o:Option Tr}{n:Nat} (h:defOk o n=true):∃ t,o=some t∧chainB t n=true:=by
 cases o with
 | none=>cases h
 | some t=>exact ⟨t,rfl,h⟩
theorem defsRead:defOk (readAs fDefs) 8=true:=by kernel_rfl
theorem defs_chain:∃ t,readAs fDefs=some t∧chainB t 8=true:=chain_of defsRead
theorem chain_end {p:Nat→Prop}{w:World}{v:Value}{t:Tr} (h:Rep p w v t) (hc:chainB t 0=true):∃ b,v = .iface 125 (.pointer (some ⟨b,0,none⟩)):=by
 cases t with
 | done y=>cases hc
 | ask s0 kind k =>
  match kind,h,hc with
  | 0,h,hc=>exact h
  | 1,_,hc=>cases hc
  | 2,_,hc=>cases hc
  | 3,_,hc=>cases hc
  | 4,_,hc=>cases hc
  | 5,_,hc=>cases hc
  | 6,_,hc=>cases hc
  | 7,_,hc=>cases hc
  | 8,_,hc=>cases hc
  | 9,_,hc=>cases hc
  | 10,_,hc=>cases hc
  | 11,_,hc=>cases hc
  | 12,_,hc=>cases hc
  | 13,_,hc=>cases hc
  | 14,_,hc=>cases hc
  | 15,_,hc=>cases hc
  | 16,_,hc=>cases hc
  | 17,_,hc=>cases hc
  | 18,_,hc=>cases hc
  | 19,_,hc=>cases hc
  | 20,_,hc=>cases hc
  | _+21,h,_=>exact h.elim
set_option maxRecDepth 10000
theorem SignsIn.same {B:Nat}{w w':World} (h:SignsIn w) (hs:SameOn (· < B) w w') (hg:0 < B) (hl:B≤w'.heap.size):SignsIn w' :=
 ⟨fun j v hv=>(World.cell?_of_block (w:=w) (hs _ hg)).trans (h.1 j v hv),Nat.lt_of_lt_of_le hg hl⟩
theorem PlaceBox.facts {w:World}{b:Nat}{kn:Option Addr}{d:Int} (h:PlaceBox w b kn d):w.cell? ⟨b,0,none⟩=some (.pointer kn)∧w.cell? ⟨b,1,none⟩=some (.int .i64 d)∧w.frozen? ⟨b,0,none⟩=false∧w.frozen? ⟨b,1,none⟩=false∧b < w.heap.size :=
 ⟨h.c0,h.c1,by simp [World.frozen?,PlaceBox] at *;simp [h],by simp [World.frozen?,PlaceBox] at *;simp [h],h.lt⟩
theorem keep2 {w1:World}{db n:Nat}{a1 a2 v:Value} (h:db < n) (e:w1.cell? ⟨db,0,none⟩=some v):((w1.setCell ⟨n,0,none⟩ a1).setCell ⟨n,1,none⟩ a2).cell? ⟨db,0,none⟩=some v:=by
 rw [World.cell?_setCell_far _ _ _ _ (by simp;omega),World.cell?_setCell_far _ _ _ _ (by simp;omega)]
 exact e
theorem enters_start1:Enters Tryz.prog 20:=enters_of Tryz.func20 (by kernel_rfl) rfl
set_option maxRecDepth 100000
def nm1:Tr→ByteArray×Int
 | .done _=>(e0,0)
 | .ask _ kind k=>((payOf (k 0)).s,if kind=15 then 1 else 2)
def defNames:Tr→Nat→List (ByteArray×Int)
 | _,0=>[]
 | .done _,_+1=>[]
 | .ask s kind k,n+1=>nm1 (.ask s kind k) :: defNames (k 2) n
def headOf:Tr→Nat×ByteArray×ByteArray×Tr
 | .done _=>(0,e0,e0,Tr.no)
 | .ask _ kind k=>(kind,(payOf (k 0)).s,(payOf (k 0)).q,k 1)
def sMap:ByteArray:=⟨#[109,97,112]⟩
def sF:ByteArray:=⟨#[102]⟩
def mapBody:Tr:=.collect (.bin (.each .ident) ⟨#[124]⟩ (.call0 sF 20))
theorem defs_head:(readAs fDefs).map headOf=some (15,sMap,sF,mapBody):=by kernel_rfl
def sOthers:List (ByteArray×Int):=[(⟨#[108,97,115,116]⟩,1),(⟨#[105,115,118,97,108,105,100]⟩,1),(⟨#[119,104,105,108,101]⟩,2),(⟨#[114,101,112,101,97,116]⟩,1),(⟨#[117,110,116,105,108]⟩,2),(⟨#[114,101,99,117,114,115,101]⟩,1),(⟨#[115,101,108,101,99,116]⟩,1)]
def ChainOn (p:Nat→Prop) (w:World) (base:Option Addr):List (ByteArray×Int)→Option Addr→Prop
 | [],kn=>kn=base
 | e :: es,kn=>∃ (b db:Nat) (around:Option Addr),kn=some ⟨b,0,none⟩∧p b∧KnB w b 2 e.1 e.2 .nilIface (.pointer (some ⟨db,0,none⟩)) .nilIface (.pointer none) (.pointer around)∧ChainOn p w base es around
theorem ChainOn.move {p:Nat→Prop}{w w':World}{base:Option Addr} (hs:SameOn (fun k=>p k∧k < w.heap.size) w w'):∀ {es:List (ByteArray×Int)}{kn:Option Addr},ChainOn p w base es kn→ChainOn p w' base es kn
 | [],_,h=>h
 | e :: es,kn,⟨b,db,around,h1,h2,h3,h4⟩=>⟨b,db,around,h1,h2,h3.same (hs b ⟨h2,h3.lt⟩),ChainOn.move hs h4⟩
def MapB (p:Nat→Prop) (w:World) (mb:Nat):Prop:=p mb∧∃ (db pd po pc:Nat) (x:Value),KnB w mb 2 sMap 1 .nilIface (.pointer (some ⟨db,0,none⟩)) .nilIface (.pointer none) (.pointer none)∧p db∧p pd∧w.cell? ⟨db,1,none⟩=some (.slice (some ⟨pd,po,none⟩) 1 pc)∧w.cell? ⟨pd,po,none⟩=some (.string sF)∧w.cell? ⟨db,2,none⟩=some x∧Rep p w x mapBody
theorem MapB.upon {n:Nat}{w w':World}{mb:Nat} (h:MapB (n≤·) w mb) (k:Below w.heap.size w w'):MapB (n≤·) w' mb:=by
 obtain ⟨h1,db,pd,po,pc,x,h2,h3,h4,h5,h6,h7,h8⟩:=h
 exact ⟨h1,db,pd,po,pc,x,h2.same (k.block _ h2.lt),h3,h4,(k.cell (lt_cell h5)).trans h5,(k.cell (lt_cell h6)).trans h6,(k.cell (lt_cell h7)).trans h7,h8.upon k⟩
theorem withDef_ok2 {w:World}{kn:Option Addr}{b d o n c:Nat}{name:ByteArray} (c0:w.cell? ⟨b,0,none⟩=some (.string name)) (c1:w.cell? ⟨b,1,none⟩=some (.slice (some ⟨d,o,none⟩) n c)) :
  Calls Tryz.prog 42 #[.pointer kn,.pointer (some ⟨b,0,none⟩)] w fun e w'=>∃ nb,e = .returned (.pointer (some ⟨nb,0,none⟩))∧w.heap.size≤nb∧KnB w' nb 2 name n .nilIface (.pointer (some ⟨b,0,none⟩)) .nilIface (.pointer none) (.pointer kn)∧Below w.heap.size w w':=by
 go_enter Tryz.func42,Tryz.ntmps42
 go_wp2
 go_region_held3 (fun w'=>w'.cell? ⟨b,0,none⟩=some (.string name)∧w'.cell? ⟨b,1,none⟩=some (.slice (some ⟨d,o,none⟩) n c)) (go_keep) (fail)
 all_goals
  go_wp2
  go_ret
  exact ⟨w.heap.size,rfl,Nat.le_refl _,heap_new w.drew _,(Below.refl w.heap.size w).drew.alloc (Nat.le_refl _) _⟩
def GivenC (p:Nat→Prop) (w:World) (kn:Option Addr):Prop:=∃ mb,ChainOn p w (some ⟨mb,0,none⟩) sOthers kn∧MapB p w mb
def restOf:Tr→Tr
 | .done y=>.done y
 | .ask _ _ k=>k 2
def sSelect:ByteArray:=⟨#[115,101,108,101,99,116]⟩
def selBody:Tr:=.ite (.call0 sF 42) .ident (.call0 ⟨#[101,109,112,116,121]⟩ 56)
theorem defs_second:(readAs fDefs).map (fun t=>headOf (restOf t))=some (15,sSelect,sF,selBody):=by kernel_rfl
def sLater:List (ByteArray×Int):=[(⟨#[108,97,115,116]⟩,1),(⟨#[105,115,118,97,108,105,100]⟩,1),(⟨#[119,104,105,108,101]⟩,2),(⟨#[114,101,112,101,97,116]⟩,1),(⟨#[117,110,116,105,108]⟩,2),(⟨#[114,101,99,117,114,115,101]⟩,1)]
theorem defs_later:(readAs fDefs).map (fun t=>(defNames t 8).tail.tail.reverse)=some sLater:=by kernel_rfl
def DefB (p:Nat→Prop) (w:World) (mb:Nat) (name q:ByteArray) (body:Tr) (around:Option Addr):Prop:=p mb∧∃ (db pd po pc:Nat) (x:Value),KnB w mb 2 name 1 .nilIface (.pointer (some ⟨db,0,none⟩)) .nilIface (.pointer none) (.pointer around)∧p db∧p pd∧w.cell? ⟨db,1,none⟩=some (.slice (some ⟨pd,po,none⟩) 1 pc)∧w.cell? ⟨pd,po,none⟩=some (.string q)∧w.cell? ⟨db,2,none⟩=some x∧Rep p w x body
theorem DefB.upon {n:Nat}{w w':World}{mb:Nat}{name q:ByteArray}{body:Tr}{around:Option Addr} (h:DefB (n≤·) w mb name q body around) (k:Below w.heap.size w w'):DefB (n≤·) w' mb name q body around:=by
 obtain ⟨h1,db,pd,po,pc,x,h2,h3,h4,h5,h6,h7,h8⟩:=h
 exact ⟨h1,db,pd,po,pc,x,h2.same (k.block _ h2.lt),h3,h4,(k.cell (lt_cell h5)).trans h5,(k.cell (lt_cell h6)).trans h6,(k.cell (lt_cell h7)).trans h7,h8.upon k⟩
theorem chain_step3 {p:Nat→Prop}{w:World}{v:Value}{t:Tr}{n:Nat} (h:Rep p w v t) (hc:chainB t (n+1)=true) :
  ∃ b d o m c x,v = .iface 120 (.pointer (some ⟨b,0,none⟩))∧w.cell? ⟨b,0,none⟩=some (.string (nm1 t).1)∧w.cell? ⟨b,1,none⟩=some (.slice (some ⟨d,o,none⟩) m c)∧w.cell? ⟨b,3,none⟩=some x∧Rep p w x (restOf t)∧chainB (restOf t) n=true∧(nm1 t).2=(m:Nat)∧defNames t (n+1)=nm1 t :: defNames (restOf t) n:=by
 cases t with
 | done y=>cases hc
 | ask s0 kind k =>
  match kind,h,hc with
  | 15,h,hc=>obtain ⟨b,d,o,c,x,y,rfl,a,a',c0,c1,c2,c3,c4,r1,r2⟩:=h;exact ⟨_,_,_,_,_,_,rfl,c0,c1,c4,r2,hc,rfl,rfl⟩
  | 16,h,hc=>obtain ⟨b,d,o,c,x,y,rfl,a,a',c0,c1,c2,c2',c3,c4,r1,r2⟩:=h;exact ⟨_,_,_,_,_,_,rfl,c0,c1,c4,r2,hc,rfl,rfl⟩
  | 0,_,hc=>cases hc
  | 1,_,hc=>cases hc
  | 2,_,hc=>cases hc
  | 3,_,hc=>cases hc
  | 4,_,hc=>cases hc
  | 5,_,hc=>cases hc
  | 6,_,hc=>cases hc
  | 7,_,hc=>cases hc
  | 8,_,hc=>cases hc
  | 9,_,hc=>cases hc
  | 10,_,hc=>cases hc
  | 11,_,hc=>cases hc
  | 12,_,hc=>cases hc
  | 13,_,hc=>cases hc
  | 14,_,hc=>cases hc
  | 17,_,hc=>cases hc
  | 18,_,hc=>cases hc
  | 19,_,hc=>cases hc
  | 20,_,hc=>cases hc
  | _+21,h,_=>exact h.elim
theorem head_rep1 {p:Nat→Prop}{w:World}{v:Value}{t:Tr}{name q:ByteArray}{body:Tr} (h:Rep p w v t) (hh:headOf t=(15,name,q,body)):∃ b pd po pc x,v = .iface 120 (.pointer (some ⟨b,0,none⟩))∧p b∧p pd∧w.cell? ⟨b,0,none⟩=some (.string name)∧w.cell? ⟨b,1,none⟩=some (.slice (some ⟨pd,po,none⟩) 1 pc)∧w.cell? ⟨pd,po,none⟩=some (.string q)∧w.cell? ⟨b,2,none⟩=some x∧Rep p w x body:=by
 cases t with
 | done y=>exact h.elim
 | ask s0 kind k =>
  simp only [headOf,Prod.mk.injEq] at hh
  obtain ⟨rfl,h1,h2,h3⟩:=hh
  obtain ⟨b,d,o,c,x,y,rfl,a,a',c0,c1,c2,c3,c4,r1,r2⟩:=h
  rw [h1] at c0
  rw [h2] at c2
  rw [h3] at r1
  exact ⟨b,d,o,c,x,rfl,a,a',c0,c1,c2,c3,r1⟩
def GivenS (p:Nat→Prop) (w:World) (kn:Option Addr):Prop:=∃ mb sb,ChainOn p w (some ⟨sb,0,none⟩) sLater kn∧DefB p w sb sSelect sF selBody (some ⟨mb,0,none⟩)∧MapB p w mb
theorem chain_on {p:Nat→Prop}{w:World}{base sb:Option Addr}{e:ByteArray×Int} (hb:ChainOn p w base [e] sb):∀ {es:List (ByteArray×Int)}{kn:Option Addr},ChainOn p w sb es kn→ChainOn p w base (es ++ [e]) kn
 | [],kn,h=>by
  have:kn=sb:=h
  subst this
  exact hb
 | _ :: es,kn,⟨b,db,around,h1,h2,h3,h4⟩=>⟨b,db,around,h1,h2,h3,chain_on hb h4⟩
theorem GivenS.given {p:Nat→Prop}{w:World}{kn:Option Addr} (h:GivenS p w kn):GivenC p w kn:=by
 obtain ⟨mb,sb,h1,⟨h2,db,_,_,_,_,h3,_⟩,h4⟩:=h
 exact ⟨mb,chain_on (es:=sLater) (e:=(sSelect,1)) ⟨sb,db,some ⟨mb,0,none⟩,rfl,h2,h3,rfl⟩ h1,h4⟩
theorem given_ok3 (hI:ParsesInt) (w:World) (hS:SignsIn w):Calls Tryz.prog 21 #[] w fun e w'=>∃ kn,e = .returned (.pointer kn)∧Below w.heap.size w w'∧GivenS (w.heap.size≤·) w' kn:=by
 obtain ⟨t,ht,hc⟩:=defs_chain
 have hR:=readAs_ok hI ht w (of_decide_eq_true (by kernel_rfl)) hS
 have HH:Hid (headOf t=(15,sMap,sF,mapBody)):=by
  have:=defs_head
  rw [ht] at this
  exact Option.some.inj this
 have HH2:Hid (headOf (restOf t)=(15,sSelect,sF,selBody)):=by
  have:=defs_second
  rw [ht] at this
  exact Option.some.inj this
 have HNm:Hid ((defNames t 8).tail.tail.reverse=sLater):=by
  have:=defs_later
  rw [ht] at this
  exact Option.some.inj this
 have hD:=hitDef
 have hM:=missDef
 go_enter Tryz.func21,Tryz.ntmps21
 go_wp2_with (go_at_call 9;refine hR.mono ?_;rintro e w1 ⟨T,b,rfl,k1,r1⟩)
 go_loopg [1,2] 8 (fun k v tv wr=>∃ kn tr,v = .pointer kn∧Rep (w.heap.size≤·) wr tv tr∧chainB tr k=true∧Below w.heap.size w wr∧Aside ((k=8∧tr=t∧kn=none)∨(k=7∧tr=restOf t∧∃ mb,kn=some ⟨mb,0,none⟩∧MapB (w.heap.size≤·) wr mb∧defNames (restOf t) 7=(defNames t 8).tail)∨∃ mb sb es,ChainOn (w.heap.size≤·) wr (some ⟨sb,0,none⟩) es kn∧DefB (w.heap.size≤·) wr sb sSelect sF selBody (some ⟨mb,0,none⟩)∧MapB (w.heap.size≤·) wr mb∧es.reverse ++ defNames tr k=(defNames t 8).tail.tail))
 case atStart=>exact ⟨none,t,rfl,r1,hc,k1,.inl ⟨rfl,rfl,rfl⟩⟩
 case round =>
  obtain ⟨kn,tr,rfl,hr,hch,hb,HR⟩:=hrel
  match gk,hch,HR with
  | 0,hch,HR =>
   obtain ⟨b',rfl⟩:=chain_end hr hch
   go_wp2_with fail
   go_ret
   refine ⟨kn,rfl,hb,?_⟩
   rcases HR.out with ⟨h0,_⟩ | ⟨h0,_⟩ | ⟨mb,sb,es,h1,h2,h2',h3⟩
   ·cases h0
   ·cases h0
   ·have:es=sLater:=by
     rw [← HNm.out,← h3]
     simp [defNames]
    subst this
    exact ⟨mb,sb,h1,h2,h2'⟩
  | k+1,hch,HR =>
   obtain ⟨b',d,o,m,c,x,rfl,c0,c1,c3,r3,hch',hm,hdn⟩:=chain_step3 hr hch
   have hlt:=cell_lt c3
   obtain ⟨T3,b3,rfl⟩:=r3.shape
   have HDN:Hid (defNames tr (k+1)=nm1 tr :: defNames (restOf tr) k):=hdn
   have HM:Hid ((nm1 tr).2=(m:Nat)):=hm
   have HRR:Aside (Rep (w.heap.size≤·) wr (.iface 120 (.pointer (some ⟨b',0,none⟩))) tr):=hr
   clear hdn hm hr
   obtain ⟨N1,hN1⟩:∃ N1,(nm1 tr).1=N1:=⟨_,rfl⟩
   rw [hN1] at c0
   have HN1:Hid ((nm1 tr).1=N1):=hN1
   clear hN1
   go_wp2_with (go_at_call 42;refine (withDef_ok2 c0 c1).mono ?_;rintro e w2 ⟨nb,rfl,hnb,hkn,k2⟩;have c3':=(k2.cell (p:=⟨b',3,none⟩) hlt).trans c3)
   go_roundg k
   case measure=>omega
   case rel =>
    have hnb':w.heap.size≤nb:=Nat.le_trans hb.size hnb
    have mk:∀ (name q:ByteArray) (body:Tr),headOf tr=(15,name,q,body)→DefB (w.heap.size≤·) w2 nb name q body kn:=fun name q body hh=>by
     obtain ⟨b5,pd,po,pc,x5,e5,q1,q2,q3,q4,q5,q6,q7⟩:=head_rep1 HRR.out hh
     cases e5
     have e6:N1=name:=by rw [c0] at q3;simpa using q3
     have e7:m=1:=by
      rw [c1] at q4
      simp only [Option.some.injEq,Value.slice.injEq] at q4
      exact q4.2.1
     subst e6
     subst e7
     exact ⟨hnb',b',pd,po,pc,x5,hkn,q1,q2,(k2.cell (lt_cell q4)).trans q4,(k2.cell (lt_cell q5)).trans q5,(k2.cell (lt_cell q6)).trans q6,q7.upon k2⟩
    refine ⟨_,restOf tr,rfl,r3.upon k2,hch',hb.trans (k2.mono hb.size),.inr ?_⟩
    rcases HR.out with ⟨h0,h1,h2⟩ | ⟨h0,h1,mb,h2,h3,h4⟩ | ⟨mb,sb,es,h1,h2,h2',h3⟩
    ·have hk7:k=7:=by omega
     subst hk7
     subst h1
     subst h2
     refine .inl ⟨rfl,rfl,nb,rfl,mk _ _ _ HH.out,?_⟩
     rw [HDN.out]
     rfl
    ·have hk6:k=6:=by omega
     subst hk6
     subst h1
     subst h2
     refine .inr ⟨mb,nb,[],rfl,mk _ _ _ HH2.out,h3.upon k2,?_⟩
     rw [← h4,HDN.out]
     rfl
    ·refine .inr ⟨mb,sb,(N1,(m:Int)) :: es,⟨nb,b',kn,rfl,hnb',hkn,h1.move (fun j hj=>k2.block j hj.2)⟩,h2.upon k2,h2'.upon k2,?_⟩
     rw [← h3,HDN.out,← HN1.out,← HM.out]
     simp
end Go.Proofs.Tryz
