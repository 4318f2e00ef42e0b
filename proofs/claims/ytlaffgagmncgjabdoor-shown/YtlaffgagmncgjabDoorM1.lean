import Derived.Test.YtlaffgagmncgjabDoorT25
namespace Go.Proofs.YtlaffgagmncgjabDoor
open Go Go.Pat Go.Proofs
theorem Square.same {n:Nat} {m m':List (List Bool)} (x:Square n m) (y:Square n m') (h:∀ i j,i<n→j<n→getB m i j=getB m' i j):m=m':=by
 apply List.ext_getElem (by rw [x.len,y.len])
 intro i h1 h2
 have r1:=x.rows _ (List.getElem_mem h1)
 have r2:=y.rows _ (List.getElem_mem h2)
 apply List.ext_getElem (by rw [r1,r2])
 intro j g1 g2
 have:=h i j (by rw [x.len] at h1;exact h1) (by rw [r1] at g1;exact g1)
 simpa [getB,List.getD_eq_getElem?_getD,h1,h2,g1,g2] using this
theorem thrJ_sq {n k i:Nat}:∀ (l:List Nat) {m:List (List Bool)},Square n m→Square n (thrJ k i l m):=by
 intro l
 induction l with
 | nil=>intro m h;exact h
 | cons a l ih=>intro m h;exact ih (h.set _ _ _)
theorem thrI_sq {n k:Nat}:∀ (l:List Nat) {m:List (List Bool)},Square n m→Square n (thrI n k l m):=by
 intro l
 induction l with
 | nil=>intro m h;exact h
 | cons a l ih=>intro m h;exact ih (thrJ_sq _ h)
theorem thrK_sq {n:Nat}:∀ (l:List Nat) {m:List (List Bool)},Square n m→Square n (thrK n l m):=by
 intro l
 induction l with
 | nil=>intro m h;exact h
 | cons a l ih=>intro m h;exact ih (thrI_sq _ h)
theorem thrJ_get {n k i:Nat} {m:List (List Bool)} (sq:Square n m) (hi:i<n):∀ (t:Nat),t≤n→∀ a b,getB (thrJ k i (List.range t) m) a b=if a=i∧b<t then getB m i b||getB m i k&&getB m k b else getB m a b:=by
 intro t
 induction t with
 | zero=>intro _ a b;simp [thrJ]
 | succ t ih =>
  intro ht a b
  have e:thrJ k i (List.range (t+1)) m=thrS (thrJ k i (List.range t) m) k i t:=by simp [thrJ,List.range_succ,List.foldl_append]
  rw [e,thrS,getB_setB (thrJ_sq _ sq) _ hi (by omega)]
  have ih':=ih (by omega)
  have g1:getB (thrJ k i (List.range t) m) i t=getB m i t:=by rw [ih' i t,if_neg (by omega)]
  have g2:getB (thrJ k i (List.range t) m) i k=getB m i k:=by
   rw [ih' i k]
   split
   ·cases getB m i k<;>rfl
   ·rfl
  have g3:getB (thrJ k i (List.range t) m) k t=getB m k t:=by rw [ih' k t,if_neg (by omega)]
  rw [g1,g2,g3,ih' a b]
  by_cases hab:a=i∧b=t
  ·obtain ⟨rfl,rfl⟩:=hab
   rw [if_pos ⟨rfl,rfl⟩,if_pos ⟨rfl,by omega⟩]
  ·rw [if_neg hab]
   by_cases hat:a=i∧b<t
   ·rw [if_pos hat,if_pos ⟨hat.1,by omega⟩]
   ·rw [if_neg hat,if_neg (by omega)]
theorem thrI_get {n k:Nat} {m:List (List Bool)} (sq:Square n m) (hk:k<n):∀ (t:Nat),t≤n→∀ a b,b<n→getB (thrI n k (List.range t) m) a b=if a<t then getB m a b||getB m a k&&getB m k b else getB m a b:=by
 intro t
 induction t with
 | zero=>intro _ a b _;simp [thrI]
 | succ t ih =>
  intro ht a b hb
  have e:thrI n k (List.range (t+1)) m=thrJ k t (List.range n) (thrI n k (List.range t) m):=by simp [thrI,List.range_succ,List.foldl_append]
  rw [e,thrJ_get (thrI_sq _ sq) (by omega) n (Nat.le_refl _)]
  have ih':=ih (by omega)
  have g1:getB (thrI n k (List.range t) m) t b=getB m t b:=by rw [ih' t b hb,if_neg (by omega)]
  have g2:getB (thrI n k (List.range t) m) t k=getB m t k:=by rw [ih' t k hk,if_neg (by omega)]
  have g3:getB (thrI n k (List.range t) m) k b=getB m k b:=by
   rw [ih' k b hb]
   split
   ·cases getB m k b<;>cases getB m k k<;>rfl
   ·rfl
  rw [g1,g2,g3,ih' a b hb]
  by_cases hat:a=t
  ·subst hat
   rw [if_pos ⟨rfl,hb⟩,if_pos (by omega)]
  ·rw [if_neg (fun e=>hat e.1)]
   by_cases h1:a<t
   ·rw [if_pos h1,if_pos (by omega)]
   ·rw [if_neg h1,if_neg (by omega)]
theorem thrK_succ (n t:Nat) (m:List (List Bool)):thrK n (List.range (t+1)) m=thrI n t (List.range n) (thrK n (List.range t) m):=by simp [thrK,List.range_succ,List.foldl_append]
theorem thrK_trans {n:Nat} {m:List (List Bool)} (sq:Square n m):∀ (t:Nat),t≤n→∀ a k b,k<t→a<n→b<n→getB (thrK n (List.range t) m) a k=true→getB (thrK n (List.range t) m) k b=true→getB (thrK n (List.range t) m) a b=true:=by
 intro t
 induction t with
 | zero=>intro _ a k b hk;omega
 | succ t ih =>
  intro ht a k b hk ha hb h1 h2
  have ih':=ih (by omega)
  have sq':=thrK_sq (List.range t) sq
  rw [thrK_succ] at h1 h2 ⊢
  rw [thrI_get sq' (by omega) n (Nat.le_refl _) a k (by omega),if_pos ha] at h1
  rw [thrI_get sq' (by omega) n (Nat.le_refl _) k b hb,if_pos (by omega)] at h2
  rw [thrI_get sq' (by omega) n (Nat.le_refl _) a b hb,if_pos ha]
  generalize thrK n (List.range t) m=M at *
  simp only [Bool.or_eq_true,Bool.and_eq_true] at h1 h2 ⊢
  by_cases hkt:k=t
  ·subst hkt
   have g1:getB M a k=true:=by rcases h1 with e | e;exact e;exact e.1
   have g2:getB M k b=true:=by rcases h2 with e | e;exact e;exact e.2
   exact .inr ⟨g1,g2⟩
  ·have hk':k<t:=by omega
   rcases h1 with e | ⟨e1,e2⟩<;>rcases h2 with f | ⟨f1,f2⟩
   ·exact .inl (ih' a k b hk' ha hb e f)
   ·exact .inr ⟨ih' a k t hk' ha (by omega) e f1,f2⟩
   ·exact .inr ⟨e1,ih' t k b hk' (by omega) hb e2 f⟩
   ·exact .inr ⟨e1,f2⟩
theorem sayS_sq {ls:List LineD} {a b:RefD} {n:Nat} {m:List (List Bool)} (h:Square n m):Square n (sayS ls a b m):=by
 unfold sayS;split
 ·exact h.set _ _ _
 ·exact h
theorem zeros_sq (n:Nat):Square n (zeros n):=by
 refine ⟨by simp [zeros],fun r hr=>?_⟩
 simp [zeros] at hr
 rw [hr.2];simp
theorem saidL_sq {all:List LineD} {n:Nat}:∀ (l:List LineD) {m:List (List Bool)},Square n m→Square n (saidL all l m):=by
 intro l
 induction l with
 | nil=>intro m h;exact h
 | cons a l ih=>intro m h;exact ih (sayS_sq (sayS_sq h))
theorem saidC_sq {all:List LineD} {n:Nat}:∀ (l:List ChangeD) {m:List (List Bool)},Square n m→Square n (saidC all l m):=by
 intro l
 induction l with
 | nil=>intro m h;exact h
 | cons a l ih =>
  intro m h
  refine ih ?_
  dsimp only
  split
  ·exact sayS_sq h
  ·exact h
theorem saidP_sq {all:List LineD} {n:Nat}:∀ (l:List PatchD) {m:List (List Bool)},Square n m→Square n (saidP all l m):=by
 intro l
 induction l with
 | nil=>intro m h;exact h
 | cons a l ih=>intro m h;exact ih (saidC_sq _ h)
def said0 (ps:List PatchD):List (List Bool):=saidP (linesS ps) ps (saidL (linesS ps) (linesS ps) (zeros (linesS ps).length))
theorem said0_sq (ps:List PatchD):Square (linesS ps).length (said0 ps):=saidP_sq _ (saidL_sq _ (zeros_sq _))
theorem onS_eq (ps:List PatchD):onS ps=thrK (linesS ps).length (List.range (linesS ps).length) (said0 ps):=rfl
theorem onS_sq (ps:List PatchD):Square (linesS ps).length (onS ps):=thrK_sq _ (said0_sq ps)
theorem onS_trans (ps:List PatchD) {a k b:Nat} (ha:a<(linesS ps).length) (hk:k<(linesS ps).length) (hb:b<(linesS ps).length) (h1:getB (onS ps) a k=true) (h2:getB (onS ps) k b=true):getB (onS ps) a b=true :=
 thrK_trans (said0_sq ps) _ (Nat.le_refl _) a k b hk ha hb h1 h2
def wayJ (k i:Nat) (l:List Nat) (m:List (List Bool)):List (List Bool):=l.foldl (fun m j=>if getB m k j=true then setB m i j true else m) m
def wayI (n k:Nat) (l:List Nat) (m:List (List Bool)):List (List Bool):=l.foldl (fun m i=>if getB m i k=true then wayJ k i (List.range n) m else m) m
def wayK (n:Nat) (l:List Nat) (m:List (List Bool)):List (List Bool):=l.foldl (fun m k=>wayI n k (List.range n) m) m
theorem wayJ_sq {n k i:Nat}:∀ (l:List Nat) {m:List (List Bool)},Square n m→Square n (wayJ k i l m):=by
 intro l
 induction l with
 | nil=>intro m h;exact h
 | cons a l ih =>
  intro m h
  refine ih ?_
  dsimp only
  split
  ·exact h.set _ _ _
  ·exact h
theorem wayI_sq {n k:Nat}:∀ (l:List Nat) {m:List (List Bool)},Square n m→Square n (wayI n k l m):=by
 intro l
 induction l with
 | nil=>intro m h;exact h
 | cons a l ih =>
  intro m h
  refine ih ?_
  dsimp only
  split
  ·exact wayJ_sq _ h
  ·exact h
theorem wayK_sq {n:Nat}:∀ (l:List Nat) {m:List (List Bool)},Square n m→Square n (wayK n l m):=by
 intro l
 induction l with
 | nil=>intro m h;exact h
 | cons a l ih=>intro m h;exact ih (wayI_sq _ h)
theorem wayJ_succ (k i t:Nat) (m:List (List Bool)):wayJ k i (List.range (t+1)) m=if getB (wayJ k i (List.range t) m) k t=true then setB (wayJ k i (List.range t) m) i t true else wayJ k i (List.range t) m:=by unfold wayJ;rw [List.range_succ,List.foldl_append];rfl
theorem wayI_succ (n k t:Nat) (m:List (List Bool)):wayI n k (List.range (t+1)) m=if getB (wayI n k (List.range t) m) t k=true then wayJ k t (List.range n) (wayI n k (List.range t) m) else wayI n k (List.range t) m:=by unfold wayI;rw [List.range_succ,List.foldl_append];rfl
theorem wayK_succ (n t:Nat) (m:List (List Bool)):wayK n (List.range (t+1)) m=wayI n t (List.range n) (wayK n (List.range t) m):=by simp [wayK,List.range_succ,List.foldl_append]
theorem wayJ_get {n k i:Nat} {m:List (List Bool)} (sq:Square n m) (hi:i<n):∀ (t:Nat),t≤n→∀ a b,getB (wayJ k i (List.range t) m) a b=if a=i∧b<t then getB m i b||getB m k b else getB m a b:=by
 intro t
 induction t with
 | zero=>intro _ a b;simp [wayJ]
 | succ t ih =>
  intro ht a b
  have ih':=ih (by omega)
  have hkt:getB (wayJ k i (List.range t) m) k t=getB m k t:=by rw [ih' k t,if_neg (by omega)]
  rw [wayJ_succ,hkt]
  cases hv:getB m k t
  ·simp only [Bool.false_eq_true,if_false]
   rw [ih' a b]
   by_cases hab:a=i∧b=t
   ·obtain ⟨rfl,rfl⟩:=hab
    rw [if_neg (by omega),if_pos ⟨rfl,by omega⟩,hv,Bool.or_false]
   ·by_cases hat:a=i∧b<t
    ·rw [if_pos hat,if_pos ⟨hat.1,by omega⟩]
    ·rw [if_neg hat,if_neg (by omega)]
  ·simp only [if_true]
   rw [getB_setB (wayJ_sq _ sq) _ hi (by omega),ih' a b]
   by_cases hab:a=i∧b=t
   ·obtain ⟨rfl,rfl⟩:=hab
    rw [if_pos ⟨rfl,rfl⟩,if_pos ⟨rfl,by omega⟩,hv,Bool.or_true]
   ·rw [if_neg hab]
    by_cases hat:a=i∧b<t
    ·rw [if_pos hat,if_pos ⟨hat.1,by omega⟩]
    ·rw [if_neg hat,if_neg (by omega)]
theorem wayI_get {n k:Nat} {m:List (List Bool)} (sq:Square n m) (hk:k<n):∀ (t:Nat),t≤n→∀ a b,b<n→getB (wayI n k (List.range t) m) a b=if a<t then getB m a b||getB m a k&&getB m k b else getB m a b:=by
 intro t
 induction t with
 | zero=>intro _ a b _;simp [wayI]
 | succ t ih =>
  intro ht a b hb
  have ih':=ih (by omega)
  have hkt:getB (wayI n k (List.range t) m) t k=getB m t k:=by rw [ih' t k hk,if_neg (by omega)]
  rw [wayI_succ,hkt]
  have ikb:getB (wayI n k (List.range t) m) k b=getB m k b:=by
   rw [ih' k b hb]
   split
   ·cases getB m k b<;>cases getB m k k<;>rfl
   ·rfl
  cases hv:getB m t k
  ·simp only [Bool.false_eq_true,if_false]
   rw [ih' a b hb]
   by_cases hat:a=t
   ·subst hat
    rw [if_neg (by omega),if_pos (by omega),hv];simp
   ·by_cases h1:a<t
    ·rw [if_pos h1,if_pos (by omega)]
    ·rw [if_neg h1,if_neg (by omega)]
  ·simp only [if_true]
   rw [wayJ_get (wayI_sq _ sq) (by omega) n (Nat.le_refl _),ikb,ih' t b hb,ih' a b hb,if_neg (Nat.lt_irrefl t)]
   by_cases hat:a=t
   ·subst hat
    rw [if_pos ⟨rfl,hb⟩,if_pos (by omega),hv];simp
   ·rw [if_neg (fun e=>hat e.1)]
    by_cases h1:a<t
    ·rw [if_pos h1,if_pos (by omega)]
    ·rw [if_neg h1,if_neg (by omega)]
theorem wayK_eq {n:Nat} {m:List (List Bool)} (sq:Square n m):∀ (t:Nat),t≤n→wayK n (List.range t) m=thrK n (List.range t) m:=by
 intro t
 induction t with
 | zero=>intro _;rfl
 | succ t ih =>
  intro ht
  rw [wayK_succ,thrK_succ,ih (by omega)]
  have sq':=thrK_sq (List.range t) sq
  refine Square.same (wayI_sq _ sq') (thrI_sq _ sq') fun i j hi hj=>?_
  rw [wayI_get sq' (by omega) n (Nat.le_refl _) i j hj,thrI_get sq' (by omega) n (Nat.le_refl _) i j hj]
end Go.Proofs.YtlaffgagmncgjabDoor
namespace Go.Proofs.YtlaffgagmncgjabDoor
open Go Go.Pat Go.Proofs
def aheadW (dd:Nat→Bool) (on:List (List Bool)) (a b:Nat):Bool:=(!dd a && !dd b)&&aheadS on a b
def setW (n:Nat) (dd:Nat→Bool) (on:List (List Bool)) (i:Nat):Bool:=!dd i&&(List.range n).all fun j=>(decide (j=i)||dd j)||(aheadW dd on j i||aheadW dd on i j)
def rankW (n:Nat) (dd:Nat→Bool) (on:List (List Bool)) (i:Nat):Nat:=((List.range n).filter fun j=>aheadW dd on j i).length
def blockW (n:Nat) (dd:Nat→Bool) (on:List (List Bool)) (fx:Nat→Bool) (i:Nat):Nat:=((List.range n).filter fun j=>aheadW dd on j i&&fx j).length
def ringW (n:Nat) (dd:Nat→Bool) (on:List (List Bool)) (i:Nat):Bool:=(List.range n).any fun j=>(!decide (j=i) && !dd j)&&(getB on i j&&getB on j i)
def liv (n:Nat) (dd:Nat→Bool):List Nat:=(List.range n).filter fun k=>!dd k
def nth (L:List Nat) (a:Nat):Nat:=L.getD a 0
theorem nth_get {L:List Nat} {a:Nat} (h:a<L.length):L[a]? = some (nth L a):=by simp [nth,List.getD_eq_getElem?_getD,h]
theorem nth_mem {L:List Nat} {a:Nat} (h:a<L.length):nth L a∈L:=List.mem_of_getElem? (nth_get h)
theorem liv_lt {n:Nat} {dd:Nat→Bool} {a:Nat} (h:a<(liv n dd).length):nth (liv n dd) a<n∧dd (nth (liv n dd) a)=false:=by
 have hm:nth (liv n dd) a∈(List.range n).filter fun k=>!dd k:=nth_mem h
 rw [List.mem_filter] at hm
 exact ⟨List.mem_range.1 hm.1,by simpa using hm.2⟩
theorem liv_sur {n:Nat} {dd:Nat→Bool} {k:Nat} (h:k<n) (hd:dd k=false):∃ a,a<(liv n dd).length∧nth (liv n dd) a=k:=by
 have hm:k∈liv n dd:=List.mem_filter.2 ⟨List.mem_range.2 h,by simp [hd]⟩
 obtain ⟨a,ha,e⟩:=List.mem_iff_getElem.1 hm
 exact ⟨a,ha,by simp [nth,List.getD_eq_getElem?_getD,ha,e]⟩
theorem liv_mono {n:Nat} {dd:Nat→Bool} {a b:Nat} (hab:a<b) (hb:b<(liv n dd).length):nth (liv n dd) a<nth (liv n dd) b:=by
 have h:(liv n dd).Pairwise (· < ·):=List.pairwise_lt_range.filter _
 rw [List.pairwise_iff_getElem] at h
 have:=h a b (by omega) hb hab
 simpa [nth,List.getD_eq_getElem?_getD,show a<(liv n dd).length by omega,hb] using this
theorem liv_inj {n:Nat} {dd:Nat→Bool} {a b:Nat} (ha:a<(liv n dd).length) (hb:b<(liv n dd).length) (e:nth (liv n dd) a=nth (liv n dd) b):a=b:=by
 rcases Nat.lt_trichotomy a b with h | h | h
 ·have:=liv_mono h hb;omega
 ·exact h
 ·have:=liv_mono h ha;omega
theorem liv_lt_iff {n:Nat} {dd:Nat→Bool} {a b:Nat} (ha:a<(liv n dd).length) (hb:b<(liv n dd).length):nth (liv n dd) a<nth (liv n dd) b↔a<b:=by
 constructor
 ·intro h
  rcases Nat.lt_or_ge a b with e | e
  ·exact e
  ·rcases Nat.lt_or_ge b a with e' | e'
   ·have:=liv_mono e' ha;omega
   ·have:a=b:=by omega
    subst this;omega
 ·intro h;exact liv_mono h hb
theorem ld_get (on:List (List Bool)) (L:List Nat) {a b:Nat} (ha:a<L.length) (hb:b<L.length):getB (ldS on L L) a b=getB on (nth L a) (nth L b):=by
 simp [getB,ldS,nth,List.getD_eq_getElem?_getD,ha,hb]
theorem map_nth (L:List Nat):(List.range L.length).map (nth L)=L:=by
 apply List.ext_getElem (by simp)
 intro i h1 h2
 simp [nth,List.getD_eq_getElem?_getD,h2]
theorem count_nth (L:List Nat) (p:Nat→Bool):((List.range L.length).filter fun a=>p (nth L a)).length=(L.filter p).length:=by
 conv=>rhs;rw [← map_nth L]
 rw [List.filter_map,List.length_map];rfl
theorem count_liv (n:Nat) (dd:Nat→Bool) (p:Nat→Bool) (hp:∀ k,p k=true→dd k=false):((List.range (liv n dd).length).filter fun a=>p (nth (liv n dd) a)).length=((List.range n).filter p).length:=by
 rw [count_nth,liv,List.filter_filter]
 congr 1
 refine List.filter_congr fun k _=>?_
 cases h:p k
 ·simp
 ·simp [hp k h]
section
variable {n:Nat} {dd:Nat→Bool} {on:List (List Bool)}
theorem aheadL {a b:Nat} (ha:a<(liv n dd).length) (hb:b<(liv n dd).length):aheadS (ldS on (liv n dd) (liv n dd)) a b=aheadW dd on (nth (liv n dd) a) (nth (liv n dd) b):=by
 simp [aheadW,aheadS,ld_get,ha,hb,(liv_lt ha).2,(liv_lt hb).2]
theorem aheadW_irr (a:Nat):aheadW dd on a a=false:=by simp [aheadW,aheadS]
theorem rankL {a:Nat} (ha:a<(liv n dd).length):rankS (liv n dd).length (ldS on (liv n dd) (liv n dd)) a=rankW n dd on (nth (liv n dd) a):=by
 unfold rankS rankW
 rw [← count_liv n dd (fun k=>aheadW dd on k (nth (liv n dd) a)) (fun k hk=>by simp [aheadW] at hk;exact hk.1.1)]
 congr 1
 refine List.filter_congr fun j hj=>?_
 have hj':=List.mem_range.1 hj
 rw [aheadL hj' ha]
 by_cases e:j=a
 ·subst e;simp [aheadW_irr]
 ·simp [e]
theorem setL {a:Nat} (ha:a<(liv n dd).length):settledS (liv n dd).length (ldS on (liv n dd) (liv n dd)) a=setW n dd on (nth (liv n dd) a):=by
 have hda:=(liv_lt ha).2
 rw [Bool.eq_iff_iff]
 unfold settledS setW
 rw [List.all_eq_true,hda,Bool.not_false,Bool.true_and,List.all_eq_true]
 constructor
 ·intro h k hk
  have hk':=List.mem_range.1 hk
  cases hd:dd k
  ·obtain ⟨j,hj,rfl⟩:=liv_sur hk' hd
   have:=h j (List.mem_range.2 hj)
   by_cases e:j=a
   ·subst e;simp
   ·rw [ld_get _ _ ha hj,ld_get _ _ hj ha] at this
    simp only [e,decide_false,Bool.false_or] at this
    simp only [aheadW,aheadS,hda,hd]
    cases h1:getB on (nth (liv n dd) a) (nth (liv n dd) j)<;>cases h2:getB on (nth (liv n dd) j) (nth (liv n dd) a)<;>simp_all
  ·simp
 ·intro h j hj
  have hj':=List.mem_range.1 hj
  have hd:=liv_lt hj'
  have:=h (nth (liv n dd) j) (List.mem_range.2 hd.1)
  by_cases e:j=a
  ·subst e;simp
  ·have hne:nth (liv n dd) j≠nth (liv n dd) a:=fun e'=>e (liv_inj hj' ha e')
   rw [ld_get _ _ ha hj',ld_get _ _ hj' ha]
   simp only [aheadW,aheadS,hda,hd.2,hne,decide_false,Bool.false_or] at this
   cases h1:getB on (nth (liv n dd) a) (nth (liv n dd) j)<;>cases h2:getB on (nth (liv n dd) j) (nth (liv n dd) a)<;>simp_all
theorem ringL {a:Nat} (ha:a<(liv n dd).length):ringS (liv n dd).length (ldS on (liv n dd) (liv n dd)) a=ringW n dd on (nth (liv n dd) a):=by
 rw [Bool.eq_iff_iff]
 unfold ringS ringW
 rw [List.any_eq_true,List.any_eq_true]
 constructor
 ·rintro ⟨j,hj,h⟩
  have hj':=List.mem_range.1 hj
  have hd:=liv_lt hj'
  rw [ld_get _ _ ha hj',ld_get _ _ hj' ha] at h
  simp only [Bool.and_eq_true,Bool.not_eq_true',decide_eq_false_iff_not] at h
  refine ⟨nth (liv n dd) j,List.mem_range.2 hd.1,?_⟩
  simp only [Bool.and_eq_true,Bool.not_eq_true',decide_eq_false_iff_not]
  exact ⟨⟨fun e=>h.1 (liv_inj hj' ha e),hd.2⟩,h.2⟩
 ·rintro ⟨k,hk,h⟩
  simp only [Bool.and_eq_true,Bool.not_eq_true',decide_eq_false_iff_not] at h
  obtain ⟨j,hj,rfl⟩:=liv_sur (List.mem_range.1 hk) h.1.2
  refine ⟨j,List.mem_range.2 hj,?_⟩
  rw [ld_get _ _ ha hj,ld_get _ _ hj ha]
  simp only [Bool.and_eq_true,Bool.not_eq_true',decide_eq_false_iff_not]
  exact ⟨fun e=>h.1.1 (by rw [e]),h.2⟩
theorem fxL {a:Nat} (ha:a<(liv n dd).length):(fxS (liv n dd).length (ldS on (liv n dd) (liv n dd))).getD a false=setW n dd on (nth (liv n dd) a):=by
 rw [← setL ha]
 simp [fxS,List.getD_eq_getElem?_getD,ha]
theorem cntL {a:Nat} (ha:a<(liv n dd).length):cntS (liv n dd).length (ldS on (liv n dd) (liv n dd)) (fxS (liv n dd).length (ldS on (liv n dd) (liv n dd))) a=blockW n dd on (setW n dd on) (nth (liv n dd) a):=by
 unfold cntS blockW
 rw [← count_liv n dd (fun k=>aheadW dd on k (nth (liv n dd) a)&&setW n dd on k) (fun k hk=>by simp [aheadW] at hk;exact hk.1.1.1)]
 congr 1
 refine List.filter_congr fun j hj=>?_
 have hj':=List.mem_range.1 hj
 unfold cntP
 rw [aheadL hj' ha,fxL hj']
 by_cases e:j=a
 ·subst e;simp [aheadW_irr]
 ·simp [e,Bool.and_comm]
theorem blkL {a:Nat} (ha:a<(liv n dd).length):(blS (liv n dd).length (ldS on (liv n dd) (liv n dd)) (fxS (liv n dd).length (ldS on (liv n dd) (liv n dd)))).getD a 0=if setW n dd on (nth (liv n dd) a)=true then -1 else (blockW n dd on (setW n dd on) (nth (liv n dd) a):Int):=by
 have e:(blS (liv n dd).length (ldS on (liv n dd) (liv n dd)) (fxS (liv n dd).length (ldS on (liv n dd) (liv n dd)))).getD a 0=blockS (liv n dd).length (ldS on (liv n dd) (liv n dd)) (fxS (liv n dd).length (ldS on (liv n dd) (liv n dd))) a:=by
  simp [blS,List.getD_eq_getElem?_getD,ha]
 rw [e]
 unfold blockS
 rw [fxL ha,← cntL ha]
 split
 ·rfl
 ·congr 2
  refine List.filter_congr fun j _=>?_
  unfold cntP
  by_cases e:j=a
  ·subst e;simp [aheadS]
  ·simp [e]
def looseW (dd fx:Nat→Bool) (k:Nat):Bool:=!dd k && !fx k
def bndW (dd fx:Nat→Bool) (bk:Nat→Nat) (on:List (List Bool)) (a b:Nat):Bool:=looseW dd fx b&&(decide (bk a=bk b)&&(getB on a b||getB on b a))
def ConnW (n:Nat) (dd fx:Nat→Bool) (bk:Nat→Nat) (on:List (List Bool)) (i k:Nat):Prop:=∀ S:Nat→Prop,S i→(∀ a b:Nat,S a→b<n→bndW dd fx bk on a b=true→S b)→S k
theorem ConnW.refl {fx:Nat→Bool} {bk:Nat→Nat} {i:Nat}:ConnW n dd fx bk on i i:=fun _ h _=>h
theorem ConnW.step {fx:Nat→Bool} {bk:Nat→Nat} {i a b:Nat} (h1:ConnW n dd fx bk on i a) (h2:b<n) (h3:bndW dd fx bk on a b=true):ConnW n dd fx bk on i b:=fun S r s=>s a b (h1 S r s) h2 h3
theorem ConnW.trans {fx:Nat→Bool} {bk:Nat→Nat} {i a b:Nat} (h1:ConnW n dd fx bk on i a) (h2:ConnW n dd fx bk on a b):ConnW n dd fx bk on i b:=fun S r s=>h2 S (h1 S r s) s
theorem ConnW.loose {fx:Nat→Bool} {bk:Nat→Nat} {i k:Nat} (hi:i<n) (hl:looseW dd fx i=true) (h:ConnW n dd fx bk on i k):k<n∧looseW dd fx k=true :=
 h (fun k=>k<n∧looseW dd fx k=true) ⟨hi,hl⟩ fun a b _ hb hbd=>⟨hb,by unfold bndW at hbd;simp only [Bool.and_eq_true] at hbd;exact hbd.1⟩
theorem ConnW.symm {fx:Nat→Bool} {bk:Nat→Nat} {i k:Nat} (hi:i<n) (hl:looseW dd fx i=true) (h:ConnW n dd fx bk on i k):ConnW n dd fx bk on k i:=by
 have:=h (fun k=>(k<n∧looseW dd fx k=true)∧ConnW n dd fx bk on k i) ⟨⟨hi,hl⟩,.refl⟩ (fun a b ha hb hbd=>by
  have hbl:looseW dd fx b=true:=by unfold bndW at hbd;simp only [Bool.and_eq_true] at hbd;exact hbd.1
  refine ⟨⟨hb,hbl⟩,ConnW.trans (ConnW.step .refl ha.1.1 ?_) ha.2⟩
  unfold bndW at hbd ⊢
  simp only [Bool.and_eq_true,Bool.or_eq_true,decide_eq_true_eq] at hbd ⊢
  exact ⟨ha.1.2,hbd.2.1.symm,hbd.2.2.symm⟩)
 exact this.2
structure IsStrW (n:Nat) (dd fx:Nat→Bool) (bk:Nat→Nat) (on:List (List Bool)) (i r:Nat):Prop where
 conn:ConnW n dd fx bk on i r
 least:∀ k,ConnW n dd fx bk on i k→r≤k
theorem bndL {a b:Nat} (ha:a<(liv n dd).length) (hb:b<(liv n dd).length) (hl:setW n dd on (nth (liv n dd) a)=false) :
  bndS (ldS on (liv n dd) (liv n dd)) (blS (liv n dd).length (ldS on (liv n dd) (liv n dd)) (fxS (liv n dd).length (ldS on (liv n dd) (liv n dd)))) a b=bndW dd (setW n dd on) (blockW n dd on (setW n dd on)) on (nth (liv n dd) a) (nth (liv n dd) b):=by
 unfold bndS bndW looseW
 rw [blkL ha,blkL hb,ld_get _ _ ha hb,ld_get _ _ hb ha,(liv_lt hb).2,hl]
 simp only [Bool.false_eq_true,if_false,Bool.not_false,Bool.true_and]
 cases hs:setW n dd on (nth (liv n dd) b)
 ·simp only [Bool.false_eq_true,if_false,Bool.not_false,Bool.true_and]
  congr 1
  exact decide_eq_decide.2 (by omega)
 ·simp only [if_true,Bool.not_true,Bool.false_and]
  rw [decide_eq_false (by omega)];rfl
theorem connL {a b:Nat} (ha:a<(liv n dd).length) (hl:setW n dd on (nth (liv n dd) a)=false)
  (h:Conn (liv n dd).length (ldS on (liv n dd) (liv n dd)) (blS (liv n dd).length (ldS on (liv n dd) (liv n dd)) (fxS (liv n dd).length (ldS on (liv n dd) (liv n dd)))) a b) :
  (b<(liv n dd).length∧setW n dd on (nth (liv n dd) b)=false)∧ConnW n dd (setW n dd on) (blockW n dd on (setW n dd on)) on (nth (liv n dd) a) (nth (liv n dd) b):=by
 refine h (fun b=>(b<(liv n dd).length∧setW n dd on (nth (liv n dd) b)=false)∧ConnW n dd (setW n dd on) (blockW n dd on (setW n dd on)) on (nth (liv n dd) a) (nth (liv n dd) b)) ⟨⟨ha,hl⟩,.refl⟩ fun x y hx hy hbd=>?_
 rw [bndL hx.1.1 hy hx.1.2] at hbd
 refine ⟨⟨hy,?_⟩,hx.2.step (liv_lt hy).1 hbd⟩
 unfold bndW looseW at hbd
 simp only [Bool.and_eq_true,Bool.not_eq_true'] at hbd
 exact hbd.1.2
theorem connR {a k:Nat} (ha:a<(liv n dd).length) (hl:setW n dd on (nth (liv n dd) a)=false) (h:ConnW n dd (setW n dd on) (blockW n dd on (setW n dd on)) on (nth (liv n dd) a) k) :
  ∃ b,b<(liv n dd).length∧nth (liv n dd) b=k∧Conn (liv n dd).length (ldS on (liv n dd) (liv n dd)) (blS (liv n dd).length (ldS on (liv n dd) (liv n dd)) (fxS (liv n dd).length (ldS on (liv n dd) (liv n dd)))) a b:=by
 have:=h (fun k=>∃ b,(b<(liv n dd).length∧setW n dd on (nth (liv n dd) b)=false)∧nth (liv n dd) b=k∧Conn (liv n dd).length (ldS on (liv n dd) (liv n dd)) (blS (liv n dd).length (ldS on (liv n dd) (liv n dd)) (fxS (liv n dd).length (ldS on (liv n dd) (liv n dd)))) a b)
  ⟨a,⟨ha,hl⟩,rfl,.refl⟩ (fun x y hx hy hbd=>by
   obtain ⟨b,⟨hb,hbl⟩,rfl,hc⟩:=hx
   have hy2:dd y=false∧setW n dd on y=false:=by unfold bndW looseW at hbd;simp only [Bool.and_eq_true,Bool.not_eq_true'] at hbd;exact hbd.1
   obtain ⟨c,hc',rfl⟩:=liv_sur hy hy2.1
   exact ⟨c,⟨hc',hy2.2⟩,rfl,hc.step hc' (by rw [bndL hb hc' hbl];exact hbd)⟩)
 obtain ⟨b,h1,h2,h3⟩:=this
 exact ⟨b,h1.1,h2,h3⟩
theorem strandL {a r k:Nat} (ha:a<(liv n dd).length) (hl:setW n dd on (nth (liv n dd) a)=false)
  (h:IsStrand (liv n dd).length (ldS on (liv n dd) (liv n dd)) (blS (liv n dd).length (ldS on (liv n dd) (liv n dd)) (fxS (liv n dd).length (ldS on (liv n dd) (liv n dd)))) a r)
  (hw:IsStrW n dd (setW n dd on) (blockW n dd on (setW n dd on)) on (nth (liv n dd) a) k):r<(liv n dd).length∧nth (liv n dd) r=k:=by
 obtain ⟨⟨hr,_⟩,hc⟩:=connL ha hl h.conn
 refine ⟨hr,?_⟩
 have h1:=hw.least _ hc
 obtain ⟨b,hb,rfl,hb2⟩:=connR ha hl hw.conn
 have h2:=h.least b hb2
 rcases Nat.lt_or_ge r b with e | e
 ·have:=liv_mono e hb;omega
 ·have:r=b:=by omega
  rw [this]
end
end Go.Proofs.YtlaffgagmncgjabDoor
namespace Go.Proofs.YtlaffgagmncgjabDoor
open Go Go.Pat Go.Proofs
theorem filter_le {p q:Nat→Bool}:∀ (l:List Nat),(∀ x∈l,p x=true→q x=true)→(l.filter p).length≤(l.filter q).length:=by
 intro l
 induction l with
 | nil=>intro _;simp
 | cons a l ih =>
  intro h
  have:=ih fun x hx=>h x (by simp [hx])
  have ha:=h a (by simp)
  cases hp:p a
  ·cases hq:q a<;>simp [hp,hq]<;>omega
  ·simp [hp,ha hp];omega
theorem filter_lt {p q:Nat→Bool}:∀ (l:List Nat),(∀ x∈l,p x=true→q x=true)→∀ y∈l,q y=true→p y=false→(l.filter p).length<(l.filter q).length:=by
 intro l
 induction l with
 | nil=>intro _ y hy;simp at hy
 | cons a l ih =>
  intro h y hy hq hp
  have hle:=filter_le l fun x hx=>h x (by simp [hx])
  have ha:=h a (by simp)
  rcases List.mem_cons.1 hy with e | e
  ·subst e;simp [hp,hq];omega
  ·have:=ih (fun x hx=>h x (by simp [hx])) y e hq hp
   cases hpa:p a
   ·cases hqa:q a<;>simp [hpa,hqa]<;>omega
   ·simp [hpa,ha hpa];omega
theorem between {N:Nat} {A:Nat→Nat→Bool} {f:Nat→Bool} (irr:∀ i,A i i=false) (tr:∀ i j k,i<N→j<N→k<N→A i j=true→A j k=true→A i k=true)
  (st:∀ j,j<N→f j=true→∀ i,i<N→i≠j→A i j=true∨A j i=true) {x y:Nat} (hx:x<N) (hfx:f x=false)
  (hc:((List.range N).filter fun j=>f j&&A j x).length<((List.range N).filter fun j=>f j&&A j y).length) :
  ∃ s,s<N∧f s=true∧((List.range N).filter fun j=>f j&&A j s).length=((List.range N).filter fun j=>f j&&A j x).length:=by
 have more:∀ z,((List.range N).filter fun j=>f j&&A j x).length<((List.range N).filter fun j=>f j&&A j z).length→∃ t,t<N∧f t=true∧A t z=true∧A t x=false:=fun z hz=>by
  apply Classical.byContradiction
  intro hno
  have:=filter_le (p:=fun j=>f j&&A j z) (q:=fun j=>f j&&A j x) (List.range N) fun j hj hp=>by
   simp only [Bool.and_eq_true] at hp ⊢
   refine ⟨hp.1,?_⟩
   cases h:A j x
   ·exact absurd ⟨j,List.mem_range.1 hj,hp.1,hp.2,h⟩ hno
   ·rfl
  omega
 have key:∀ m t,((List.range N).filter fun j=>f j&&A j t).length≤m→t<N→f t=true→A t x=false→∃ s,s<N∧f s=true∧((List.range N).filter fun j=>f j&&A j s).length=((List.range N).filter fun j=>f j&&A j x).length:=by
  intro m
  induction m with
  | zero =>
   intro t hm ht hf ha
   have hne:x≠t:=fun e=>by rw [← e,hfx] at hf;cases hf
   have hxt:A x t=true:=by
    rcases st t ht hf x hx hne with e | e
    ·exact e
    ·rw [ha] at e;cases e
   have:=filter_le (p:=fun j=>f j&&A j x) (q:=fun j=>f j&&A j t) (List.range N) fun j hj hp=>by
    simp only [Bool.and_eq_true] at hp ⊢
    exact ⟨hp.1,tr j x t (List.mem_range.1 hj) hx ht hp.2 hxt⟩
   exact ⟨t,ht,hf,by omega⟩
  | succ m ih =>
   intro t hm ht hf ha
   have hne:x≠t:=fun e=>by rw [← e,hfx] at hf;cases hf
   have hxt:A x t=true:=by
    rcases st t ht hf x hx hne with e | e
    ·exact e
    ·rw [ha] at e;cases e
   have hle:=filter_le (p:=fun j=>f j&&A j x) (q:=fun j=>f j&&A j t) (List.range N) fun j hj hp=>by
    simp only [Bool.and_eq_true] at hp ⊢
    exact ⟨hp.1,tr j x t (List.mem_range.1 hj) hx ht hp.2 hxt⟩
   rcases Nat.lt_or_ge ((List.range N).filter fun j=>f j&&A j x).length ((List.range N).filter fun j=>f j&&A j t).length with e | e
   ·obtain ⟨u,hu,hfu,hut,hux⟩:=more t e
    have:=filter_lt (p:=fun j=>f j&&A j u) (q:=fun j=>f j&&A j t) (List.range N) (fun j hj hp=>by
     simp only [Bool.and_eq_true] at hp ⊢
     exact ⟨hp.1,tr j u t (List.mem_range.1 hj) hu ht hp.2 hut⟩) u (List.mem_range.2 hu) (by simp [hfu,hut]) (by simp [irr])
    exact ih u (by omega) hu hfu hux
   ·exact ⟨t,ht,hf,by omega⟩
 obtain ⟨t,h1,h2,_,h4⟩:=more y hc
 exact key _ t (Nat.le_refl _) h1 h2 h4
theorem OP.all (o:OP) (k:Nat):∀ i,i<k→o.sh i∈o.to k:=by
 induction k with
 | zero=>intro i h;omega
 | succ k ih =>
  intro i h
  rw [OP.to_succ,OP.ins]
  by_cases e:i=k
  ·subst e;simp
  ·have hm:=ih i (by omega)
   rw [← List.takeWhile_append_dropWhile (p:=fun x:ShD=>lessS (o.key x.i) (o.key k)) (l:=o.to k)] at hm
   rcases List.mem_append.1 hm with h1 | h1
   ·exact List.mem_append_left _ h1
   ·exact List.mem_append_right _ (List.mem_cons_of_mem _ h1)
theorem less_a {x y:Key} (h:lessS x y=true):x.a≤y.a:=by
 unfold lessS at h
 simp only [lessFrom,Key.get] at h
 by_cases e:x.a=y.a
 ·omega
 ·simp [e] at h;omega
theorem less_na {x y:Key} (h:lessS x y=false):y.a≤x.a:=by
 unfold lessS at h
 simp only [lessFrom,Key.get] at h
 by_cases e:x.a=y.a
 ·omega
 ·simp [e] at h;omega
theorem tw_all {α:Type} {p:α→Bool}:∀ {l:List α},∀ x∈l.takeWhile p,p x=true:=by
 intro l
 induction l with
 | nil=>simp
 | cons a l ih =>
  intro x hx
  cases h:p a
  ·simp [h] at hx
  ·simp [h] at hx
   rcases hx with e | e
   ·rw [e];exact h
   ·exact ih x e
theorem dropWhile_head {α:Type} {p:α→Bool}:∀ {l:List α} {x:α} {r:List α},l.dropWhile p=x::r→p x=false:=by
 intro l
 induction l with
 | nil=>intro x r h;simp at h
 | cons a l ih =>
  intro x r h
  cases hp:p a
  ·simp [hp] at h;rw [← h.1];exact hp
  ·simp [hp] at h;exact ih h
theorem OP.rises (o:OP) (k:Nat):(o.to k).Pairwise fun x y=>(o.key x.i).a≤(o.key y.i).a:=by
 induction k with
 | zero=>simp [OP.to]
 | succ k ih =>
  rw [OP.to_succ,OP.ins]
  rw [List.pairwise_append]
  have h1:=ih.sublist (List.takeWhile_sublist fun x:ShD=>lessS (o.key x.i) (o.key k))
  have h2:=ih.sublist (List.dropWhile_sublist fun x:ShD=>lessS (o.key x.i) (o.key k))
  have hdrop:∀ y∈(o.to k).dropWhile (fun x:ShD=>lessS (o.key x.i) (o.key k)),(o.key k).a≤(o.key y.i).a:=by
   cases hd:(o.to k).dropWhile (fun x:ShD=>lessS (o.key x.i) (o.key k)) with
   | nil=>simp
   | cons z r =>
    intro y hy
    have hz0:lessS (o.key z.i) (o.key k)=false:=dropWhile_head (p:=fun x:ShD=>lessS (o.key x.i) (o.key k)) hd
    have hz:=less_na hz0
    rcases List.mem_cons.1 hy with e | e
    ·rw [e];exact hz
    ·rw [hd] at h2
     have:=(List.pairwise_cons.1 h2).1 y e
     omega
  refine ⟨h1,List.pairwise_cons.2 ⟨fun y hy=>hdrop y hy,h2⟩,fun x hx y hy=>?_⟩
  have hxk:=less_a (tw_all x hx)
  rcases List.mem_cons.1 hy with e | e
  ·rw [e];exact hxk
  ·have:=hdrop y e;omega
def Adj (L:List ShD):Prop:=∀ (k:Nat) (x y:ShD),L[k]? = some x→L[k+1]? = some y→0≤x.block→0≤y.block→x.block=y.block
theorem adj_of {o:OP} (hfx:∀ i,i<o.n→o.fx.getD i false=settledS o.n o.ld i) (hbl:∀ i,i<o.n→o.blk i=if o.fx.getD i false=true then -1 else (cntS o.n o.ld o.fx i:Int))
  (tr:∀ i j k,i<o.n→j<o.n→k<o.n→getB o.ld i j=true→getB o.ld j k=true→getB o.ld i k=true):Adj (o.to o.n):=by
 intro k x y hx hy bx by_
 obtain ⟨hxi,hxe⟩:=o.to_mem o.n x (List.mem_of_getElem? hx)
 obtain ⟨hyi,hye⟩:=o.to_mem o.n y (List.mem_of_getElem? hy)
 have ex:x.block=o.blk x.i:=by rw [hxe];rfl
 have ey:y.block=o.blk y.i:=by rw [hye];rfl
 have hp:=o.rises o.n
 rw [List.pairwise_iff_getElem] at hp
 obtain ⟨kx,gx⟩:=List.getElem?_eq_some_iff.1 hx
 obtain ⟨ky,gy⟩:=List.getElem?_eq_some_iff.1 hy
 have hle:=hp k (k+1) kx ky (by omega)
 rw [gx,gy] at hle
 have fx0:o.fx.getD x.i false=false:=by
  cases h:o.fx.getD x.i false
  ·rfl
  ·rw [ex,hbl x.i hxi,if_pos h] at bx;omega
 have fy0:o.fx.getD y.i false=false:=by
  cases h:o.fx.getD y.i false
  ·rfl
  ·rw [ey,hbl y.i hyi,if_pos h] at by_;omega
 have bx':o.blk x.i=(cntS o.n o.ld o.fx x.i:Int):=by rw [hbl x.i hxi,if_neg (by rw [fx0];simp)]
 have by':o.blk y.i=(cntS o.n o.ld o.fx y.i:Int):=by rw [hbl y.i hyi,if_neg (by rw [fy0];simp)]
 have kax:(o.key x.i).a=2*(cntS o.n o.ld o.fx x.i:Int):=by unfold OP.key;rw [if_neg (by omega)];simp
 have kay:(o.key y.i).a=2*(cntS o.n o.ld o.fx y.i:Int):=by unfold OP.key;rw [if_neg (by omega)];simp
 rw [ex,ey,bx',by']
 rw [kax,kay] at hle
 apply Classical.byContradiction
 intro hne
 have hlt:cntS o.n o.ld o.fx x.i<cntS o.n o.ld o.fx y.i:=by omega
 have ce:∀ i,cntS o.n o.ld o.fx i=((List.range o.n).filter fun j=>o.fx.getD j false&&aheadS o.ld j i).length:=fun i=>by
  unfold cntS
  congr 1
  refine List.filter_congr fun j _=>?_
  unfold cntP
  by_cases e:j=i
  ·subst e;simp [aheadS]
  ·simp [e]
 rw [ce,ce] at hlt
 obtain ⟨s,hs,hfs,hcs⟩:=between (N:=o.n) (A:=aheadS o.ld) (f:=fun j=>o.fx.getD j false) (fun i=>by simp [aheadS]) (fun i j k hi hj hk h1 h2=>by
   simp only [aheadS,Bool.and_eq_true,Bool.not_eq_true'] at h1 h2 ⊢
   refine ⟨tr i j k hi hj hk h1.1 h2.1,?_⟩
   cases h:getB o.ld k i
   ·rfl
   ·have:=tr k i j hk hi hj h h1.1
    rw [h2.2] at this;cases this) (fun j hj hf i hi hne'=>by
   rw [hfx j hj] at hf
   unfold settledS at hf
   rw [List.all_eq_true] at hf
   have:=hf i (List.mem_range.2 hi)
   simp only [hne',decide_false,Bool.false_or] at this
   simp only [aheadS]
   clear hf hlt hne ce hle kax kay hp
   generalize getB o.ld i j=p at *
   generalize getB o.ld j i=q at *
   cases p<;>cases q<;>simp at this ⊢) hxi fx0 hlt
 rw [← ce,← ce] at hcs
 have kas:(o.key s).a=2*(cntS o.n o.ld o.fx x.i:Int)+1:=by
  unfold OP.key
  rw [if_pos (by rw [hbl s hs,if_pos hfs];omega),hcs];simp
 obtain ⟨p,hp1,hp2⟩:=List.mem_iff_getElem.1 (o.all o.n s hs)
 have hsi:(o.sh s).i=s:=rfl
 rcases Nat.lt_trichotomy p k with e | e | e
 ·have:=hp p k hp1 kx e
  rw [hp2,gx,hsi,kas,kax] at this;omega
 ·subst e
  rw [gx] at hp2
  rw [hp2,hsi,kas] at kax;omega
 ·rcases Nat.lt_or_ge (k+1) p with e' | e'
  ·have:=hp (k+1) p ky hp1 e'
   rw [hp2,gy,hsi,kas,kay] at this;rw [← ce,← ce] at hlt;omega
  ·have:p=k+1:=by omega
   subst this
   rw [gy] at hp2
   rw [hp2,hsi,kas] at kay;omega
end Go.Proofs.YtlaffgagmncgjabDoor
namespace Go.Proofs.YtlaffgagmncgjabDoor
open Go Go.Pat Go.Proofs
def firstW (fx:Nat→Bool) (bk rk:Nat→Nat) (sd:Nat→Int) (a b:Nat):Bool :=
 if bk a≠bk b then decide (bk a<bk b) else if fx a≠fx b then fx b else if sd a≠sd b then decide (sd a<sd b) else if rk a≠rk b then decide (rk a<rk b) else decide (a<b)
def insW (fst:Nat→Nat→Bool) (i:Nat) (out:List Nat):List Nat:=out.takeWhile (fun x=>fst x i)++i::out.dropWhile (fun x=>fst x i)
def ordTo (dd:Nat→Bool) (fst:Nat→Nat→Bool) (t:Nat):List Nat:=(List.range t).foldl (fun out i=>if dd i=true then out else insW fst i out) []
theorem ordTo_succ (dd:Nat→Bool) (fst:Nat→Nat→Bool) (t:Nat):ordTo dd fst (t+1)=if dd t=true then ordTo dd fst t else insW fst t (ordTo dd fst t):=by simp [ordTo,List.range_succ,List.foldl_append]
theorem ordTo_mem {dd:Nat→Bool} {fst:Nat→Nat→Bool}:∀ {t:Nat},∀ x∈ordTo dd fst t,x<t∧dd x=false:=by
 intro t
 induction t with
 | zero=>simp [ordTo]
 | succ t ih =>
  intro x hx
  rw [ordTo_succ] at hx
  have h0:∀ y∈ordTo dd fst t,y<t+1∧dd y=false:=fun y hy=>⟨by have:=(ih y hy).1;omega,(ih y hy).2⟩
  split at hx
  ·exact h0 x hx
  ·rename_i hd
   rcases List.mem_append.1 hx with e | e
   ·exact h0 x ((List.takeWhile_sublist _).mem e)
   ·rcases List.mem_cons.1 e with e | e
    ·subst e;exact ⟨Nat.lt_succ_self _,by simpa using hd⟩
    ·exact h0 x ((List.dropWhile_sublist _).mem e)
theorem insW_length (fst:Nat→Nat→Bool) (i:Nat) (out:List Nat):(insW fst i out).length=out.length+1:=by
 unfold insW
 have:(out.takeWhile (fun x=>fst x i)).length+(out.dropWhile (fun x=>fst x i)).length=out.length:=by rw [← List.length_append,List.takeWhile_append_dropWhile]
 simp only [List.length_append,List.length_cons];omega
theorem ordTo_length (dd:Nat→Bool) (fst:Nat→Nat→Bool) (t:Nat):(ordTo dd fst t).length≤t:=by
 induction t with
 | zero=>simp [ordTo]
 | succ t ih =>
  rw [ordTo_succ]
  split
  ·omega
  ·rw [insW_length];omega
theorem while_congr {α:Type} {p q:α→Bool}:∀ {l:List α},(∀ x∈l,p x=q x)→l.takeWhile p=l.takeWhile q∧l.dropWhile p=l.dropWhile q:=by
 intro l
 induction l with
 | nil=>intro _;simp
 | cons a l ih =>
  intro h
  have ha:=h a (by simp)
  obtain ⟨e1,e2⟩:=ih fun x hx=>h x (by simp [hx])
  cases hq:q a
  ·rw [hq] at ha;simp [ha,hq]
  ·rw [hq] at ha;simp [ha,hq,e1,e2]
theorem order_eq {n:Nat} {dd:Nat→Bool} {fst:Nat→Nat→Bool} (o:OP) (h:∀ a b,a<(liv n dd).length→b<(liv n dd).length→lessS (o.key a) (o.key b)=fst (nth (liv n dd) a) (nth (liv n dd) b)) :
  ordTo dd fst n=(o.to (liv n dd).length).map fun s=>nth (liv n dd) s.i:=by
 have h1:ordTo dd fst n=(liv n dd).foldl (fun out i=>insW fst i out) []:=by
  unfold ordTo liv
  rw [List.foldl_filter]
  congr 1
  funext out i
  cases dd i<;>simp
 rw [h1]
 conv=>lhs;rw [← map_nth (liv n dd)]
 rw [List.foldl_map]
 have key:∀ k,k≤(liv n dd).length→(List.range k).foldl (fun out a=>insW fst (nth (liv n dd) a) out) []=(o.to k).map fun s=>nth (liv n dd) s.i:=by
  intro k
  induction k with
  | zero=>intro _;rfl
  | succ k ih =>
   intro hk
   rw [List.range_succ,List.foldl_append,ih (by omega),OP.to_succ]
   simp only [List.foldl_cons,List.foldl_nil]
   unfold insW OP.ins
   obtain ⟨e1,e2⟩:=while_congr (p:=fun s:ShD=>fst (nth (liv n dd) s.i) (nth (liv n dd) k)) (q:=fun s:ShD=>lessS (o.key s.i) (o.key k)) (l:=o.to k) fun s hs=>(h s.i k (by have:=(o.to_mem k s hs).1;omega) (by omega)).symm
   rw [List.takeWhile_map,List.dropWhile_map,List.map_append,List.map_cons]
   have e1':(o.to k).takeWhile ((fun x=>fst x (nth (liv n dd) k)) ∘ fun s:ShD=>nth (liv n dd) s.i)=(o.to k).takeWhile (fun s:ShD=>lessS (o.key s.i) (o.key k)):=e1
   have e2':(o.to k).dropWhile ((fun x=>fst x (nth (liv n dd) k)) ∘ fun s:ShD=>nth (liv n dd) s.i)=(o.to k).dropWhile (fun s:ShD=>lessS (o.key s.i) (o.key k)):=e2
   rw [e1',e2']
   rfl
 exact key _ (Nat.le_refl _)
theorem ite_lex {c c':Prop} [Decidable c] [Decidable c'] {a a' b b':Bool} (hc:c↔c') (ha:c→a=a') (hb:¬ c→b=b'):(if c then a else b)=(if c' then a' else b'):=by
 by_cases h:c
 ·rw [if_pos h,if_pos (hc.1 h),ha h]
 ·rw [if_neg h,if_neg (fun e=>h (hc.2 e)),hb h]
theorem first_eq {n:Nat} {dd fx:Nat→Bool} {bk rk:Nat→Nat} {sd:Nat→Int} {o:OP} (hc:∀ a,a<(liv n dd).length→cntS o.n o.ld o.fx a=bk (nth (liv n dd) a)) (hb:∀ a,a<(liv n dd).length→(o.blk a<0↔fx (nth (liv n dd) a)=true))
  (hr:∀ a,a<(liv n dd).length→rankS o.n o.ld a=rk (nth (liv n dd) a)) (hs:∀ a,a<(liv n dd).length→fx (nth (liv n dd) a)=false→o.st a<(liv n dd).length∧sd (nth (liv n dd) a)=(nth (liv n dd) (o.st a):Int))
  (hs1:∀ a,a<(liv n dd).length→fx (nth (liv n dd) a)=true→sd (nth (liv n dd) a) = -1) {a b:Nat} (ha:a<(liv n dd).length) (hb':b<(liv n dd).length) :
  lessS (o.key a) (o.key b)=firstW fx bk rk sd (nth (liv n dd) a) (nth (liv n dd) b):=by
 have hab:=liv_lt_iff ha hb'
 have hba:=liv_lt_iff hb' ha
 unfold lessS firstW
 simp only [lessFrom,Key.get,OP.key,hc a ha,hc b hb',hr a ha,hr b hb']
 have last:(if (a:Int)≠(b:Int) then decide ((a:Int)<(b:Int)) else false)=decide (nth (liv n dd) a<nth (liv n dd) b):=by
  by_cases e:a=b
  ·subst e;simp
  ·rw [if_pos (by omega)];exact decide_eq_decide.2 (by omega)
 rw [last]
 have rks:(if (rk (nth (liv n dd) a):Int)≠(rk (nth (liv n dd) b):Int) then decide ((rk (nth (liv n dd) a):Int)<(rk (nth (liv n dd) b):Int)) else decide (nth (liv n dd) a<nth (liv n dd) b))=(if rk (nth (liv n dd) a)≠rk (nth (liv n dd) b) then decide (rk (nth (liv n dd) a)<rk (nth (liv n dd) b)) else decide (nth (liv n dd) a<nth (liv n dd) b)):=by
  by_cases e:rk (nth (liv n dd) a)=rk (nth (liv n dd) b)
  ·rw [if_neg (by omega),if_neg (by omega)]
  ·rw [if_pos (by omega),if_pos (by omega)];exact decide_eq_decide.2 (by omega)
 rw [rks]
 generalize (if rk (nth (liv n dd) a)≠rk (nth (liv n dd) b) then decide (rk (nth (liv n dd) a)<rk (nth (liv n dd) b)) else decide (nth (liv n dd) a<nth (liv n dd) b))=rest
 cases hfa:fx (nth (liv n dd) a)<;>cases hfb:fx (nth (liv n dd) b)
 ·have na:¬ o.blk a<0:=fun e=>by have:=(hb a ha).1 e;rw [hfa] at this;cases this
  have nb:¬ o.blk b<0:=fun e=>by have:=(hb b hb').1 e;rw [hfb] at this;cases this
  obtain ⟨sa,sa'⟩:=hs a ha hfa
  obtain ⟨sb,sb'⟩:=hs b hb' hfb
  have l1:=liv_lt_iff sa sb
  have l2:=liv_lt_iff sb sa
  simp only [OP.strd,na,nb,if_false,sa',sb',Nat.add_zero]
  refine ite_lex (by omega) (fun _=>decide_eq_decide.2 (by omega)) fun _=>?_
  rw [if_neg (c:=(false:Bool)≠false) (by simp)]
  exact ite_lex (by omega) (fun _=>decide_eq_decide.2 (by omega)) fun _=>rfl
 ·have na:¬ o.blk a<0:=fun e=>by have:=(hb a ha).1 e;rw [hfa] at this;cases this
  have nb:o.blk b<0:=(hb b hb').2 hfb
  simp only [na,nb,if_false,if_true]
  rw [if_pos (by omega)]
  by_cases e:bk (nth (liv n dd) a)=bk (nth (liv n dd) b)
  ·rw [if_neg (by omega),if_pos (by simp)];exact decide_eq_true (by omega)
  ·rw [if_pos (by omega)];exact decide_eq_decide.2 (by omega)
 ·have na:o.blk a<0:=(hb a ha).2 hfa
  have nb:¬ o.blk b<0:=fun e=>by have:=(hb b hb').1 e;rw [hfb] at this;cases this
  simp only [na,nb,if_false,if_true]
  rw [if_pos (by omega)]
  by_cases e:bk (nth (liv n dd) a)=bk (nth (liv n dd) b)
  ·rw [if_neg (by omega),if_pos (by simp)];exact decide_eq_false (by omega)
  ·rw [if_pos (by omega)];exact decide_eq_decide.2 (by omega)
 ·have na:o.blk a<0:=(hb a ha).2 hfa
  have nb:o.blk b<0:=(hb b hb').2 hfb
  simp only [OP.strd,na,nb,if_true,hs1 a ha hfa,hs1 b hb' hfb]
  refine ite_lex (by omega) (fun _=>decide_eq_decide.2 (by omega)) fun _=>?_
  rw [if_neg (c:=(true:Bool)≠true) (by simp)]
  exact ite_lex (by omega) (fun _=>decide_eq_decide.2 (by omega)) fun _=>rfl
def signW (a b:Int):List UInt8:=if a=b then [] else if a = -1 then [60] else if b = -1 then [62] else [61]
structure IT where
 (st:Int) (t:List UInt8)
def stW (I:List IT) (k:Nat):Int:=if k=0 then -1 else (I.getD (k-1) ⟨-1,[]⟩).st
def sgW (s:List UInt8):List (List UInt8):=if s=[] then [] else [s]
def itW (I:List IT) (k:Nat):List (List UInt8):=match I[k]? with
 | some x=>sgW (signW (stW I k) x.st)++[x.t]
 | none=>[]
def itTo (I:List IT) (k:Nat):List (List UInt8):=(List.range k).flatMap (itW I)
theorem itTo_succ (I:List IT) (k:Nat):itTo I (k+1)=itTo I k++itW I k:=by simp [itTo,List.range_succ,List.flatMap_append]
def endW (s:Int):List (List UInt8):=if s = -1 then [] else [[62]]
def showW (I:List IT):List (List UInt8):=itTo I I.length++endW (stW I I.length)
theorem stW_succ {I:List IT} {k:Nat} {x:IT} (h:I[k]? = some x):stW I (k+1)=x.st:=by
 unfold stW;rw [if_neg (by omega)];simp [List.getD_eq_getElem?_getD,h]
def pend (I:List IT) (k:Nat):List (List UInt8):=if stW I k = -1 then [] else match I[k]? with
 | some x=>if x.st = -1 then [[62]] else []
 | none=>[[62]]
theorem signs_eq {al:List LineD} {L:List ShD} {I:List IT} (hlen:I.length=L.length)
  (hI:∀ (k:Nat) (s:ShD) (x:IT),L[k]? = some s→I[k]? = some x→x.t=lineT al s∧(x.st = -1↔s.block<0))
  (heq:∀ (k:Nat) (s s':ShD) (x x':IT),L[k]? = some s→I[k]? = some x→L[k+1]? = some s'→I[k+1]? = some x'→0≤s.block→0≤s'.block→(x.st=x'.st↔s.strand=s'.strand))
  (hadj:Adj L):showTo al L L.length=showW I:=by
 have key:∀ k,k≤L.length→showTo al L k=itTo I k++pend I k:=by
  intro k
  induction k with
  | zero=>intro _;simp [showTo,itTo,pend,stW]
  | succ k ih =>
   intro hk
   have e1:L[k]? = some L[k]:=List.getElem?_eq_getElem (by omega)
   have e2:I[k]? = some (I[k]'(by omega)):=List.getElem?_eq_getElem (by omega)
   generalize L[k]=s at e1
   generalize I[k]'(by omega)=x at e2
   obtain ⟨ht,hx⟩:=hI k s x e1 e2
   rw [showTo_succ,itTo_succ,ih (by omega),List.append_assoc,List.append_assoc]
   congr 1
   have hA:showAt al L k=preP L k s++(lineT al s::preQ L k s):=by unfold showAt;rw [e1]
   have hB:itW I k=sgW (signW (stW I k) x.st)++[x.t]:=by unfold itW;rw [e2]
   rw [hA,hB,ht]
   have hQ:preQ L k s=pend I (k+1):=by
    unfold preQ pend preC
    rw [stW_succ e2]
    by_cases hb:s.block<0
    ·rw [if_pos (hx.2 hb),decide_eq_false (show ¬ (0≤s.block) by omega)];simp
    ·rw [if_neg (fun e=>hb (hx.1 e)),decide_eq_true (show 0≤s.block by omega),Bool.true_and]
     by_cases hl:k+1=L.length
     ·rw [List.getElem?_eq_none (by omega)];simp [hl]
     ·have f1:L[k+1]? = some (L[k+1]'(by omega)):=List.getElem?_eq_getElem (by omega)
      have f2:I[k+1]? = some (I[k+1]'(by omega)):=List.getElem?_eq_getElem (by omega)
      generalize L[k+1]'(by omega)=s' at f1
      generalize I[k+1]'(by omega)=x' at f2
      obtain ⟨_,hx'⟩:=hI (k+1) s' x' f1 f2
      rw [f2]
      have hgd:L.getD (k+1) sh0=s':=by simp [List.getD_eq_getElem?_getD,f1]
      rw [hgd]
      by_cases hb':s'.block<0
      ·rw [decide_eq_false hl,decide_eq_false (show ¬ (s'.block=s.block) by omega)]
       dsimp only
       rw [if_pos (hx'.2 hb')];simp
      ·have:=hadj k s s' e1 f1 (by omega) (by omega)
       rw [decide_eq_false hl,decide_eq_true this.symm]
       dsimp only
       rw [if_neg (fun e=>hb' (hx'.1 e))];simp
   have hP:pend I k++preP L k s=sgW (signW (stW I k) x.st):=by
    unfold pend preP preA preB
    rw [e2]
    dsimp only
    cases k with
    | zero =>
     have:stW I 0 = -1:=rfl
     rw [this,if_pos rfl]
     unfold signW sgW
     by_cases hb:s.block<0
     ·rw [hx.2 hb,decide_eq_false (show ¬ (0≤s.block) by omega)];simp
     ·have hne:x.st ≠ -1:=fun e=>hb (hx.1 e)
      rw [decide_eq_true (show 0≤s.block by omega),if_neg (c:=(-1:Int)=x.st) (fun e=>hne e.symm)];simp
    | succ j =>
     have f1:L[j]? = some (L[j]'(by omega)):=List.getElem?_eq_getElem (by omega)
     have f2:I[j]? = some (I[j]'(by omega)):=List.getElem?_eq_getElem (by omega)
     generalize L[j]'(by omega)=s' at f1
     generalize I[j]'(by omega)=x' at f2
     obtain ⟨_,hx'⟩:=hI j s' x' f1 f2
     rw [stW_succ f2]
     have hgd:L.getD (j+1-1) sh0=s':=by simp [List.getD_eq_getElem?_getD,f1]
     rw [hgd,decide_eq_false (show ¬ (j+1=0) by omega),Bool.false_or]
     unfold signW sgW
     by_cases hb:s.block<0
     ·rw [hx.2 hb,decide_eq_false (show ¬ (0≤s.block) by omega)]
      by_cases hb':s'.block<0
      ·rw [hx'.2 hb'];simp
      ·have hne:x'.st ≠ -1:=fun e=>hb' (hx'.1 e)
       simp [hne]
     ·have hne:x.st ≠ -1:=fun e=>hb (hx.1 e)
      rw [decide_eq_true (show 0≤s.block by omega)]
      by_cases hb':s'.block<0
      ·rw [hx'.2 hb',decide_eq_false (show ¬ (s'.block=s.block) by omega),if_neg (c:=(-1:Int)=x.st) (fun e=>hne e.symm)];simp
      ·have hne':x'.st ≠ -1:=fun e=>hb' (hx'.1 e)
       have hbb:=hadj j s' s f1 e1 (by omega) (by omega)
       have hst:=heq j s' s x' x f1 f2 e1 e2 (by omega) (by omega)
       rw [decide_eq_true hbb]
       by_cases hss:s'.strand=s.strand
       ·rw [decide_eq_true hss,hst.2 hss];simp [hne]
       ·have hsn:¬ x'.st=x.st:=fun e=>hss (hst.1 e)
        rw [decide_eq_false hss];simp [hne,hne',hsn]
   rw [← hQ,← hP]
   simp [List.append_assoc]
 rw [key _ (Nat.le_refl _)]
 unfold showW pend endW
 rw [hlen,List.getElem?_eq_none (by omega)]
end Go.Proofs.YtlaffgagmncgjabDoor
namespace Go.Proofs.YtlaffgagmncgjabDoor
open Go Go.Pat Go.Proofs
def nX (ps:List PatchD):Nat:=(linesS ps).length
def ddX (ps:List PatchD) (k:Nat):Bool:=!isLive ps (linesS ps) k
def fxX (ps:List PatchD):Nat→Bool:=setW (nX ps) (ddX ps) (onS ps)
def bkX (ps:List PatchD):Nat→Nat:=blockW (nX ps) (ddX ps) (onS ps) (fxX ps)
def rkX (ps:List PatchD):Nat→Nat:=rankW (nX ps) (ddX ps) (onS ps)
theorem liveS_eq (ps:List PatchD):liveS ps=liv (nX ps) (ddX ps):=by
 unfold liveS liveTo liv nX ddX
 refine List.filter_congr fun k _=>?_
 simp
theorem filterMap_get {all:List LineD}:∀ {L:List Nat},(∀ k∈L,k<all.length)→L.filterMap (fun k=>all[k]?)=L.map fun k=>all.getD k ⟨⟨0,0⟩,⟨0,0⟩,⟨0,0⟩,[]⟩:=by
 intro L
 induction L with
 | nil=>intro _;rfl
 | cons a L ih =>
  intro h
  have ha:=h a (by simp)
  rw [List.filterMap_cons,List.getElem?_eq_getElem ha,List.map_cons,ih fun k hk=>h k (by simp [hk])]
  simp [List.getD_eq_getElem?_getD,ha]
def lnX (ps:List PatchD) (k:Nat):LineD:=(linesS ps).getD k ⟨⟨0,0⟩,⟨0,0⟩,⟨0,0⟩,[]⟩
theorem lnX_get {ps:List PatchD} {k:Nat} (h:k<nX ps):(linesS ps)[k]? = some (lnX ps k):=by
 unfold nX at h
 simp [lnX,List.getD_eq_getElem?_getD,h]
theorem alS_map (ps:List PatchD):alS ps=(liv (nX ps) (ddX ps)).map (lnX ps):=by
 unfold alS alOf
 rw [liveS_eq]
 refine filterMap_get fun k hk=>?_
 have:=(List.mem_filter.1 hk).1
 exact List.mem_range.1 this
theorem alS_get {ps:List PatchD} {a:Nat} (ha:a<(liv (nX ps) (ddX ps)).length):(alS ps)[a]? = some (lnX ps (nth (liv (nX ps) (ddX ps)) a)):=by
 rw [alS_map,List.getElem?_map,nth_get ha];rfl
theorem alS_length (ps:List PatchD):(alS ps).length=(liv (nX ps) (ddX ps)).length:=by rw [alS_map,List.length_map]
structure StrX (ps:List PatchD) (sd:Nat→Int):Prop where
 loose:∀ i,i<nX ps→ddX ps i=false→fxX ps i=false→∃ r:Nat,IsStrW (nX ps) (ddX ps) (fxX ps) (bkX ps) (onS ps) i r∧sd i=(r:Int)
 fixed:∀ i,i<nX ps→ddX ps i=false→fxX ps i=true→sd i = -1
def markX (ps:List PatchD) (orp:Nat→Bool) (k:Nat):Nat:=if orp k=true then 33 else if ringW (nX ps) (ddX ps) (onS ps) k=true then 64 else if fxX ps k=true then 32 else 124
def ordX (ps:List PatchD) (sd:Nat→Int):List Nat:=ordTo (ddX ps) (firstW (fxX ps) (bkX ps) (rkX ps) sd) (nX ps)
def itemsX (ps:List PatchD) (sd:Nat→Int) (orp:Nat→Bool):List IT:=(ordX ps sd).map fun k=>⟨sd k,UInt8.ofNat (markX ps orp k)::(lnX ps k).text⟩
section
variable {ps:List PatchD} {st:Nat→Nat} {orp orx:Nat→Bool} {sd:Nat→Int}
theorem opOf_blk (ps:List PatchD) (st:Nat→Nat) (orp:Nat→Bool) {a:Nat} (ha:a<(liv (nX ps) (ddX ps)).length):(opOf ps st orp).blk a=if fxX ps (nth (liv (nX ps) (ddX ps)) a)=true then -1 else (bkX ps (nth (liv (nX ps) (ddX ps)) a):Int):=by
 have:=blkL (n:=nX ps) (dd:=ddX ps) (on:=onS ps) ha
 unfold bkX fxX
 rw [← this]
 simp only [OP.blk,opOf,blkS,fixS,leadS,liveS_eq,alS_length]
theorem opOf_neg {a:Nat} (ha:a<(liv (nX ps) (ddX ps)).length):(opOf ps st orp).blk a<0↔fxX ps (nth (liv (nX ps) (ddX ps)) a)=true:=by
 rw [opOf_blk ps st orp ha]
 split
 ·rename_i h;simp [h]
 ·rename_i h;constructor
  ·intro h2;omega
  ·intro h2;exact absurd h2 h
theorem opOf_cnt {a:Nat} (ha:a<(liv (nX ps) (ddX ps)).length):cntS (opOf ps st orp).n (opOf ps st orp).ld (opOf ps st orp).fx a=bkX ps (nth (liv (nX ps) (ddX ps)) a):=by
 have:=cntL (n:=nX ps) (dd:=ddX ps) (on:=onS ps) ha
 unfold bkX fxX
 rw [← this]
 simp only [opOf,fixS,leadS,liveS_eq,alS_length]
theorem opOf_rank {a:Nat} (ha:a<(liv (nX ps) (ddX ps)).length):rankS (opOf ps st orp).n (opOf ps st orp).ld a=rkX ps (nth (liv (nX ps) (ddX ps)) a):=by
 have:=rankL (n:=nX ps) (dd:=ddX ps) (on:=onS ps) ha
 unfold rkX
 rw [← this]
 simp only [opOf,leadS,liveS_eq,alS_length]
theorem opOf_ring {a:Nat} (ha:a<(liv (nX ps) (ddX ps)).length):ringS (opOf ps st orp).n (opOf ps st orp).ld a=ringW (nX ps) (ddX ps) (onS ps) (nth (liv (nX ps) (ddX ps)) a):=by
 have:=ringL (n:=nX ps) (dd:=ddX ps) (on:=onS ps) ha
 rw [← this]
 simp only [opOf,leadS,liveS_eq,alS_length]
theorem opOf_strand (hst:∀ i,IsStrand (alS ps).length (leadS ps) (blkS ps) i (st i)) (hsd:StrX ps sd) {a:Nat} (ha:a<(liv (nX ps) (ddX ps)).length) (hf:fxX ps (nth (liv (nX ps) (ddX ps)) a)=false) :
  st a<(liv (nX ps) (ddX ps)).length∧sd (nth (liv (nX ps) (ddX ps)) a)=(nth (liv (nX ps) (ddX ps)) (st a):Int):=by
 obtain ⟨h1,h2⟩:=liv_lt ha
 obtain ⟨r,hr,hs⟩:=hsd.loose _ h1 h2 hf
 have h3:=hst a
 simp only [blkS,fixS,leadS,liveS_eq,alS_length] at h3
 obtain ⟨h4,h5⟩:=strandL ha hf h3 hr
 exact ⟨h4,by rw [hs,h5]⟩
theorem opOf_mark (hor:∀ a,a<(liv (nX ps) (ddX ps)).length→orx (nth (liv (nX ps) (ddX ps)) a)=orp a) {a:Nat} (ha:a<(liv (nX ps) (ddX ps)).length):(opOf ps st orp).mark a=markX ps orx (nth (liv (nX ps) (ddX ps)) a):=by
 unfold OP.mark markX
 rw [opOf_ring ha,hor a ha]
 have hn:=opOf_neg (st:=st) (orp:=orp) ha
 show (if orp a=true then 33 else _)=_
 by_cases h:fxX ps (nth (liv (nX ps) (ddX ps)) a)=true
 ·rw [if_pos (hn.2 h),if_pos h]
 ·rw [if_neg (fun e=>h (hn.1 e)),if_neg h]
theorem ordX_eq (hst:∀ i,IsStrand (alS ps).length (leadS ps) (blkS ps) i (st i)) (hsd:StrX ps sd):ordX ps sd=((opOf ps st orp).to (alS ps).length).map fun s=>nth (liv (nX ps) (ddX ps)) s.i:=by
 rw [alS_length]
 refine order_eq (opOf ps st orp) fun a b ha hb=>?_
 exact first_eq (o:=opOf ps st orp) (fun a ha=>opOf_cnt ha) (fun a ha=>opOf_neg ha) (fun a ha=>opOf_rank ha) (fun a ha hf=>opOf_strand hst hsd ha hf) (fun a ha hf=>hsd.fixed _ (liv_lt ha).1 (liv_lt ha).2 hf) ha hb
theorem adjX (ps:List PatchD) (st:Nat→Nat) (orp:Nat→Bool):Adj ((opOf ps st orp).to (alS ps).length):=by
 refine adj_of (o:=opOf ps st orp) (fun i hi=>?_) (fun i hi=>?_) (fun i j k hi hj hk h1 h2=>?_)
 ·have hi':i<(alS ps).length:=hi
  simp [opOf,fixS,fxS,List.getD_eq_getElem?_getD,hi']
 ·have hi':i<(liv (nX ps) (ddX ps)).length:=by rw [← alS_length];exact hi
  rw [opOf_blk ps st orp hi',opOf_cnt hi']
  have:(opOf ps st orp).fx.getD i false=fxX ps (nth (liv (nX ps) (ddX ps)) i):=by
   have:=fxL (n:=nX ps) (dd:=ddX ps) (on:=onS ps) hi'
   unfold fxX
   rw [← this]
   simp only [opOf,fixS,leadS,liveS_eq,alS_length]
  rw [this]
 ·have e:(opOf ps st orp).n=(liv (nX ps) (ddX ps)).length:=alS_length ps
  rw [e] at hi hj hk
  have hld:(opOf ps st orp).ld=ldS (onS ps) (liv (nX ps) (ddX ps)) (liv (nX ps) (ddX ps)):=by simp only [opOf,leadS,liveS_eq]
  rw [hld] at h1 h2 ⊢
  rw [ld_get _ _ hi hj] at h1
  rw [ld_get _ _ hj hk] at h2
  rw [ld_get _ _ hi hk]
  exact onS_trans ps (liv_lt hi).1 (liv_lt hj).1 (liv_lt hk).1 h1 h2
theorem showX_eq (hst:∀ i,IsStrand (alS ps).length (leadS ps) (blkS ps) i (st i)) (hsd:StrX ps sd) (hor:∀ a,a<(liv (nX ps) (ddX ps)).length→orx (nth (liv (nX ps) (ddX ps)) a)=orp a) :
  showFull ps st orp=showW (itemsX ps sd orx):=by
 unfold showFull itemsX
 rw [ordX_eq (orp:=orp) hst hsd,List.map_map]
 have hL:=(opOf ps st orp).to_length (alS ps).length
 have hm:=(opOf ps st orp).to_mem (alS ps).length
 have hadj:=adjX ps st orp
 rw [← hL]
 rw [hL]
 generalize (opOf ps st orp).to (alS ps).length=L at *
 rw [show (alS ps).length=L.length from hL.symm]
 have hi:∀ (k:Nat) (s:ShD),L[k]? = some s→s.i<(liv (nX ps) (ddX ps)).length∧s=(opOf ps st orp).sh s.i:=fun k s hs=>by
  obtain ⟨h1,h2⟩:=hm s (List.mem_of_getElem? hs)
  rw [alS_length] at h1
  exact ⟨h1,h2⟩
 refine signs_eq (by simp) (fun k s x hs hx=>?_) (fun k s s' x x' hs hx hs' hx' hb hb'=>?_) hadj
 ·obtain ⟨h1,h2⟩:=hi k s hs
  rw [List.getElem?_map,hs] at hx
  simp only [Option.map_some,Option.some.injEq,Function.comp] at hx
  subst hx
  have hbl:s.block=(opOf ps st orp).blk s.i:=by rw [h2];rfl
  have hmk:s.mark=(opOf ps st orp).mark s.i:=by rw [h2];rfl
  refine ⟨?_,?_⟩
  ·unfold lineT
   rw [alS_get h1,hmk,opOf_mark hor h1]
  ·dsimp only
   rw [hbl,opOf_neg h1]
   constructor
   ·intro e
    cases hf:fxX ps (nth (liv (nX ps) (ddX ps)) s.i)
    ·have:=(opOf_strand hst hsd h1 hf).2
     omega
    ·rfl
   ·intro e;exact hsd.fixed _ (liv_lt h1).1 (liv_lt h1).2 e
 ·obtain ⟨h1,h2⟩:=hi k s hs
  obtain ⟨h1',h2'⟩:=hi (k+1) s' hs'
  rw [List.getElem?_map,hs] at hx
  rw [List.getElem?_map,hs'] at hx'
  simp only [Option.map_some,Option.some.injEq,Function.comp] at hx hx'
  subst hx hx'
  dsimp only
  have e1:s.block=(opOf ps st orp).blk s.i:=by rw [h2];rfl
  have e2:s'.block=(opOf ps st orp).blk s'.i:=by rw [h2'];rfl
  have n1:¬ (opOf ps st orp).blk s.i<0:=by omega
  have n2:¬ (opOf ps st orp).blk s'.i<0:=by omega
  have f1:fxX ps (nth (liv (nX ps) (ddX ps)) s.i)=false:=by
   cases h:fxX ps (nth (liv (nX ps) (ddX ps)) s.i)
   ·rfl
   ·exact absurd ((opOf_neg h1).2 h) n1
  have f2:fxX ps (nth (liv (nX ps) (ddX ps)) s'.i)=false:=by
   cases h:fxX ps (nth (liv (nX ps) (ddX ps)) s'.i)
   ·rfl
   ·exact absurd ((opOf_neg h1').2 h) n2
  obtain ⟨g1,g2⟩:=opOf_strand hst hsd h1 f1
  obtain ⟨g1',g2'⟩:=opOf_strand hst hsd h1' f2
  have s1:s.strand=st s.i:=by rw [h2];show (opOf ps st orp).strd s.i=_;unfold OP.strd;rw [if_neg n1];rfl
  have s2:s'.strand=st s'.i:=by rw [h2'];show (opOf ps st orp).strd s'.i=_;unfold OP.strd;rw [if_neg n2];rfl
  rw [g2,g2',s1,s2]
  constructor
  ·intro e;exact liv_inj g1 g1' (by omega)
  ·intro e;rw [e]
end
end Go.Proofs.YtlaffgagmncgjabDoor
