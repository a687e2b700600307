import Derived.Test.YtndoeeampclfaaaGreatDoorFs1
set_option linter.all false
namespace Go.Proofs.Tryz
set_option maxHeartbeats 16000000
set_option maxRecDepth 10000
section
variable {α : Type}
def swp (L:List α) (i j:Nat):List α:=match L[i]?,L[j]? with
 | some x,some y=>(L.set i y).set j x
 | _,_=>L
def swpR (L:List α) (a b:Nat):Nat→List α
 | 0=>L
 | n+1=>swp (swpR L a b n) (a+n) (b+n)
theorem swp_len (L:List α) (i j:Nat):(swp L i j).length=L.length:=by
 unfold swp
 split
 ·simp
 ·rfl
theorem swpR_len (L:List α) (a b:Nat):∀ n,(swpR L a b n).length=L.length
 | 0=>rfl
 | n+1=>by rw [swpR,swp_len,swpR_len L a b n]
theorem swp_eq {L:List α}{i j:Nat}{x y:α}(hi:L[i]? = some x) (hj:L[j]? = some y):swp L i j=(L.set i y).set j x:=by
 unfold swp;rw [hi,hj]
theorem swp_at {L:List α}{i j:Nat}(hi:i < L.length) (hj:j < L.length) (k:Nat):(swp L i j)[k]? = if k=j then L[i]? else if k=i then L[j]? else L[k]?:=by
 rw [swp_eq (List.getElem?_eq_getElem hi) (List.getElem?_eq_getElem hj)]
 simp only [List.getElem?_set,List.length_set]
 by_cases h1:k=j
 ·subst h1;simp [hj,hi]
 ·have h1':¬ j=k:=fun e=>h1 e.symm
  rw [if_neg h1',if_neg h1]
  by_cases h2:k=i
  ·subst h2;simp [hi,hj]
  ·have h2':¬ i=k:=fun e=>h2 e.symm
   rw [if_neg h2',if_neg h2]
theorem swpR_at {L:List α}{a b:Nat}:∀ {n:Nat},a+n≤b→b+n≤L.length→∀ k,(swpR L a b n)[k]? = if a≤k∧k < a+n then L[k - a+b]? else if b≤k∧k < b+n then L[k - b+a]? else L[k]?
 | 0,_,_,k=>by
  rw [if_neg (by omega),if_neg (by omega)];rfl
 | n+1,h1,h2,k=>by
  have ih:=@swpR_at L a b n (by omega) (by omega)
  rw [swpR,swp_at (by rw [swpR_len];omega) (by rw [swpR_len];omega)]
  by_cases k1:k=b+n
  ·subst k1
   rw [if_pos rfl,ih,if_neg (by omega),if_neg (by omega),if_neg (by omega),if_pos (by omega)]
   congr 1;omega
  ·rw [if_neg k1]
   by_cases k2:k=a+n
   ·subst k2
    rw [if_pos rfl,ih,if_neg (by omega),if_neg (by omega),if_pos (by omega)]
    congr 1;omega
   ·rw [if_neg k2,ih]
    by_cases k3:a≤k∧k < a+n
    ·rw [if_pos k3,if_pos (by omega)]
    ·rw [if_neg k3,if_neg (by omega:¬ (a≤k∧k < a+(n+1)))]
     by_cases k4:b≤k∧k < b+n
     ·rw [if_pos k4,if_pos (by omega)]
     ·rw [if_neg k4,if_neg (by omega)]
theorem app_at (A B:List α) (k:Nat):(A ++ B)[k]? = if k < A.length then A[k]? else B[k - A.length]?:=List.getElem?_append
theorem swpR_app (X A M B Y:List α) (h:A.length=B.length):swpR (X ++ (A ++ (M ++ (B ++ Y)))) X.length (X.length+(A.length+M.length)) A.length=X ++ (B ++ (M ++ (A ++ Y))):=by
 apply List.ext_getElem?
 intro k
 rw [swpR_at (by omega) (by simp only [List.length_append];omega)]
 by_cases k1:k < X.length
 ·rw [if_neg (by omega),if_neg (by omega),app_at,if_pos k1,app_at,if_pos k1]
 ·by_cases k2:k < X.length+A.length
  ·rw [if_pos (by omega),app_at,if_neg (by omega),app_at,if_neg (by omega),app_at,if_neg (by omega),app_at,if_pos (by omega),app_at,if_neg (by omega),app_at,if_pos (by omega)]
   congr 1;omega
  ·rw [if_neg (by omega)]
   by_cases k3:k < X.length+(A.length+M.length)
   ·rw [if_neg (by omega),app_at,if_neg (by omega),app_at,if_neg (by omega),app_at,if_pos (by omega),app_at,if_neg (by omega),app_at,if_neg (by omega),app_at,if_pos (by omega)]
    congr 1;omega
   ·by_cases k4:k < X.length+(A.length+M.length)+A.length
    ·rw [if_pos (by omega),app_at,if_neg (by omega),app_at,if_pos (by omega),app_at,if_neg (by omega),app_at,if_neg (by omega),app_at,if_neg (by omega),app_at,if_pos (by omega)]
     congr 1;omega
    ·rw [if_neg (by omega),app_at,if_neg (by omega),app_at,if_neg (by omega),app_at,if_neg (by omega),app_at,if_neg (by omega),app_at,if_neg (by omega),app_at,if_neg (by omega),app_at,if_neg (by omega),app_at,if_neg (by omega)]
     congr 1;omega
end
end Go.Proofs.Tryz
