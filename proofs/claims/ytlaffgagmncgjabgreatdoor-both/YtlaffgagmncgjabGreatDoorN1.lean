import Derived.Test.YtlaffgagmncgjabGreatDoorK1
import Derived.Test.YtlaffgagmncgjabGreatDoorR1
import Derived.Test.YtlaffgagmncgjabGreatDoorK2
namespace Go.Proofs.YtlaffgagmncgjabGreatDoor
open Tryz Go Go.Pat Go.Proofs
theorem thrK_mono {n:Nat} {m:List (List Bool)} (sq:Square n m):∀ t,t≤n→∀ a b,a<n→b<n→getB m a b=true→getB (thrK n (List.range t) m) a b=true:=by
 intro t
 induction t with
 | zero=>intro _ a b _ _ h;simpa [thrK] using h
 | succ t ih =>
  intro ht a b ha hb h
  rw [thrK_succ,thrI_get (thrK_sq _ sq) (by omega) n (Nat.le_refl _) a b hb,if_pos ha,ih (by omega) a b ha hb h];rfl
theorem thrK_least {n:Nat} {m:List (List Bool)} (sq:Square n m) {R:Nat→Nat→Prop} (h0:∀ a b,a<n→b<n→getB m a b=true→R a b) (tr:∀ a b c,a<n→b<n→c<n→R a b→R b c→R a c) :
  ∀ t,t≤n→∀ a b,a<n→b<n→getB (thrK n (List.range t) m) a b=true→R a b:=by
 intro t
 induction t with
 | zero=>intro _ a b ha hb h;exact h0 a b ha hb (by simpa [thrK] using h)
 | succ t ih =>
  intro ht a b ha hb h
  rw [thrK_succ,thrI_get (thrK_sq _ sq) (by omega) n (Nat.le_refl _) a b hb,if_pos ha] at h
  simp only [Bool.or_eq_true,Bool.and_eq_true] at h
  have ih':=ih (by omega)
  rcases h with h | ⟨h1,h2⟩
  ·exact ih' a b ha hb h
  ·exact tr a t b ha (by omega) hb (ih' a t ha (by omega) h1) (ih' t b (by omega) hb h2)
def At (all:List LineD) (r:RefD) (i:Nat):Prop:=placeS all r=some i
theorem At.lt {all:List LineD} {r:RefD} {i:Nat} (h:At all r i):i<all.length:=by
 unfold At placeS at h
 exact (List.findIdx?_eq_some_iff_getElem.1 h).1
theorem sayS_get {all:List LineD} {a b:RefD} {n:Nat} {m:List (List Bool)} (sq:Square n m) (hn:all.length=n) (i j:Nat):getB (sayS all a b m) i j=true↔getB m i j=true∨(At all a i∧At all b j):=by
 unfold sayS
 split
 ·rename_i x y hx hy
  have h1:x<n:=hn ▸ At.lt hx
  have h2:y<n:=hn ▸ At.lt hy
  rw [getB_setB sq _ h1 h2]
  unfold At
  rw [hx,hy]
  by_cases e:i=x∧j=y
  ·rw [if_pos e,e.1,e.2];simp
  ·rw [if_neg e]
   constructor
   ·exact .inl
   ·rintro (h | ⟨h,h'⟩)
    ·exact h
    ·cases h;cases h';exact absurd ⟨rfl,rfl⟩ e
 ·rename_i hno
  constructor
  ·exact .inl
  ·rintro (h | ⟨h,h'⟩)
   ·exact h
   ·exact (hno i j h h').elim
def SayL (all:List LineD) (x:LineD) (i j:Nat):Prop:=(At all x.up i∧At all x.ref j)∨(At all x.ref i∧At all x.down j)
theorem saidL_get {all:List LineD} {n:Nat} (hn:all.length=n):∀ (l:List LineD) {m:List (List Bool)},Square n m→∀ i j,getB (saidL all l m) i j=true↔getB m i j=true∨∃ x∈l,SayL all x i j:=by
 intro l
 induction l with
 | nil=>intro m sq i j;simp [saidL]
 | cons a l ih =>
  intro m sq i j
  have e:saidL all (a::l) m=saidL all l (sayS all a.ref a.down (sayS all a.up a.ref m)):=rfl
  rw [e,ih (sayS_sq (sayS_sq sq)),sayS_get (sayS_sq sq) hn,sayS_get sq hn]
  constructor
  ·rintro (((h | h) | h) | ⟨x,hx,h⟩)
   ·exact .inl h
   ·exact .inr ⟨a,by simp,.inl h⟩
   ·exact .inr ⟨a,by simp,.inr h⟩
   ·exact .inr ⟨x,List.mem_cons_of_mem _ hx,h⟩
  ·rintro (h | ⟨x,hx,h⟩)
   ·exact .inl (.inl (.inl h))
   ·rcases List.mem_cons.1 hx with e | e
    ·subst e
     rcases h with h | h
     ·exact .inl (.inl (.inr h))
     ·exact .inl (.inr h)
    ·exact .inr ⟨x,e,h⟩
theorem saidC_get {all:List LineD} {n:Nat} (hn:all.length=n):∀ (l:List ChangeD) {m:List (List Bool)},Square n m→∀ i j,getB (saidC all l m) i j=true↔getB m i j=true∨∃ c∈l,c.kind=3∧At all c.up i∧At all c.down j:=by
 intro l
 induction l with
 | nil=>intro m sq i j;simp [saidC]
 | cons a l ih =>
  intro m sq i j
  have e:saidC all (a::l) m=saidC all l (if a.kind=3 then sayS all a.up a.down m else m):=rfl
  rw [e]
  by_cases hk:a.kind=3
  ·rw [if_pos hk,ih (sayS_sq sq),sayS_get sq hn]
   constructor
   ·rintro ((h | h) | ⟨x,hx,h⟩)
    ·exact .inl h
    ·exact .inr ⟨a,by simp,hk,h⟩
    ·exact .inr ⟨x,List.mem_cons_of_mem _ hx,h⟩
   ·rintro (h | ⟨x,hx,h⟩)
    ·exact .inl (.inl h)
    ·rcases List.mem_cons.1 hx with e | e
     ·subst e;exact .inl (.inr h.2)
     ·exact .inr ⟨x,e,h⟩
  ·rw [if_neg hk,ih sq]
   constructor
   ·rintro (h | ⟨x,hx,h⟩)
    ·exact .inl h
    ·exact .inr ⟨x,List.mem_cons_of_mem _ hx,h⟩
   ·rintro (h | ⟨x,hx,h⟩)
    ·exact .inl h
    ·rcases List.mem_cons.1 hx with e | e
     ·subst e;exact absurd h.1 hk
     ·exact .inr ⟨x,e,h⟩
theorem saidP_get {all:List LineD} {n:Nat} (hn:all.length=n):∀ (l:List PatchD) {m:List (List Bool)},Square n m→∀ i j,getB (saidP all l m) i j=true↔getB m i j=true∨∃ p∈l,∃ c∈p.changes,c.kind=3∧At all c.up i∧At all c.down j:=by
 intro l
 induction l with
 | nil=>intro m sq i j;simp [saidP]
 | cons a l ih =>
  intro m sq i j
  have e:saidP all (a::l) m=saidP all l (saidC all a.changes m):=rfl
  rw [e,ih (saidC_sq _ sq),saidC_get hn _ sq]
  constructor
  ·rintro ((h | h) | ⟨x,hx,h⟩)
   ·exact .inl h
   ·exact .inr ⟨a,by simp,h⟩
   ·exact .inr ⟨x,List.mem_cons_of_mem _ hx,h⟩
  ·rintro (h | ⟨x,hx,h⟩)
   ·exact .inl (.inl h)
   ·rcases List.mem_cons.1 hx with e | e
    ·subst e;exact .inl (.inr h)
    ·exact .inr ⟨x,e,h⟩
theorem zeros_get (n i j:Nat):getB (zeros n) i j=false:=by
 unfold getB zeros
 rw [List.getD_eq_getElem?_getD,List.getD_eq_getElem?_getD,List.getElem?_replicate]
 split
 ·simp only [Option.getD_some,List.getElem?_replicate]
  split<;>rfl
 ·rfl
theorem said0_get (ps:List PatchD) (i j:Nat):getB (said0 ps) i j=true↔(∃ x∈linesS ps,SayL (linesS ps) x i j)∨∃ p∈ps,∃ c∈p.changes,c.kind=3∧At (linesS ps) c.up i∧At (linesS ps) c.down j:=by
 unfold said0
 rw [saidP_get rfl _ (saidL_sq _ (zeros_sq _)),saidL_get rfl _ (zeros_sq _),zeros_get]
 simp
theorem at_iff {ps:List PatchD} (h:(ps.map PatchD.id).Nodup) {r:RefD} {i:Nat}:At (linesS ps) r i↔i<nX ps∧(lnX ps i).ref=r:=place_iff h
def IsLn (ps:List PatchD) (r:RefD):Prop:=∃ l∈linesS ps,l.ref=r
def Said (ps:List PatchD) (a b:RefD):Prop:=(∃ x∈linesS ps,(x.up=a∧x.ref=b)∨(x.ref=a∧x.down=b))∨∃ p∈ps,∃ c∈p.changes,c.kind=3∧c.up=a∧c.down=b
def LeadR (ps:List PatchD) (a b:RefD):Prop:=∃ i j,i<nX ps∧j<nX ps∧(lnX ps i).ref=a∧(lnX ps j).ref=b∧getB (onS ps) i j=true
theorem isLn_ex {ps:List PatchD} {r:RefD} (h:IsLn ps r):∃ i,i<nX ps∧(lnX ps i).ref=r:=by
 obtain ⟨l,hl,rfl⟩:=h
 obtain ⟨i,hi,rfl⟩:=List.mem_iff_getElem.1 hl
 refine ⟨i,hi,?_⟩
 have:=lnX_get (ps:=ps) hi
 rw [List.getElem?_eq_getElem hi] at this
 rw [Option.some.inj this]
theorem isLn_at {ps:List PatchD} {i:Nat} (h:i<nX ps):IsLn ps (lnX ps i).ref:=⟨_,List.mem_of_getElem? (lnX_get h),rfl⟩
section
variable {ps:List PatchD}
theorem leadR_at (h:(ps.map PatchD.id).Nodup) {i j:Nat} (hi:i<nX ps) (hj:j<nX ps):LeadR ps (lnX ps i).ref (lnX ps j).ref↔getB (onS ps) i j=true:=by
 constructor
 ·rintro ⟨a,b,ha,hb,e1,e2,e⟩
  rw [ref_at h ha hi e1,ref_at h hb hj e2] at e
  exact e
 ·intro e
  exact ⟨i,j,hi,hj,rfl,rfl,e⟩
theorem LeadR.left {a b:RefD} (x:LeadR ps a b):IsLn ps a:=by
 obtain ⟨i,j,hi,hj,rfl,rfl,_⟩:=x
 exact isLn_at hi
theorem LeadR.right {a b:RefD} (x:LeadR ps a b):IsLn ps b:=by
 obtain ⟨i,j,hi,hj,rfl,rfl,_⟩:=x
 exact isLn_at hj
theorem LeadR.trans (h:(ps.map PatchD.id).Nodup) {a b c:RefD} (x:LeadR ps a b) (y:LeadR ps b c):LeadR ps a c:=by
 obtain ⟨i,j,hi,hj,rfl,rfl,e⟩:=x
 obtain ⟨j',k,hj',hk,e',rfl,f⟩:=y
 rw [ref_at h hj' hj e'] at f
 exact ⟨i,k,hi,hk,rfl,rfl,onS_trans ps hi hj hk e f⟩
theorem LeadR.said (h:(ps.map PatchD.id).Nodup) {a b:RefD} (ha:IsLn ps a) (hb:IsLn ps b) (hs:Said ps a b):LeadR ps a b:=by
 obtain ⟨i,hi,rfl⟩:=isLn_ex ha
 obtain ⟨j,hj,rfl⟩:=isLn_ex hb
 refine ⟨i,j,hi,hj,rfl,rfl,?_⟩
 rw [onS_eq]
 refine thrK_mono (said0_sq ps) _ (Nat.le_refl _) i j hi hj ((said0_get ps i j).2 ?_)
 unfold SayL
 simp only [at_iff h]
 rcases hs with ⟨x,hx,hs⟩ | ⟨p,hp,c,hc,hk,e1,e2⟩
 ·refine .inl ⟨x,hx,?_⟩
  rcases hs with ⟨e1,e2⟩ | ⟨e1,e2⟩
  ·exact .inl ⟨⟨hi,e1.symm⟩,⟨hj,e2.symm⟩⟩
  ·exact .inr ⟨⟨hi,e1.symm⟩,⟨hj,e2.symm⟩⟩
 ·exact .inr ⟨p,hp,c,hc,hk,⟨hi,e1.symm⟩,⟨hj,e2.symm⟩⟩
theorem LeadR.least (h:(ps.map PatchD.id).Nodup) {R:RefD→RefD→Prop} (tr:∀ a b c,IsLn ps a→IsLn ps b→IsLn ps c→R a b→R b c→R a c) (hs:∀ a b,IsLn ps a→IsLn ps b→Said ps a b→R a b) {a b:RefD} (x:LeadR ps a b):R a b:=by
 obtain ⟨i,j,hi,hj,rfl,rfl,e⟩:=x
 rw [onS_eq] at e
 refine thrK_least (R:=fun i j=>R (lnX ps i).ref (lnX ps j).ref) (said0_sq ps) (fun i j hi hj e=>hs _ _ (isLn_at hi) (isLn_at hj) ?_) (fun a b c ha hb hc=>tr _ _ _ (isLn_at ha) (isLn_at hb) (isLn_at hc)) _ (Nat.le_refl _) i j hi hj e
 rw [said0_get] at e
 unfold SayL at e
 simp only [at_iff h] at e
 rcases e with ⟨x,hx,⟨⟨_,e1⟩,_,e2⟩ | ⟨⟨_,e1⟩,_,e2⟩⟩ | ⟨p,hp,c,hc,hk,⟨_,e1⟩,_,e2⟩
 ·exact .inl ⟨x,hx,.inl ⟨e1.symm,e2.symm⟩⟩
 ·exact .inl ⟨x,hx,.inr ⟨e1.symm,e2.symm⟩⟩
 ·exact .inr ⟨p,hp,c,hc,hk,e1.symm,e2.symm⟩
end
theorem insW_mem {fst:Nat→Nat→Bool} {i x:Nat} {out:List Nat}:x∈insW fst i out↔x=i∨x∈out:=by
 unfold insW
 rw [List.mem_append,List.mem_cons]
 have:x∈out↔x∈out.takeWhile (fun x=>fst x i)∨x∈out.dropWhile (fun x=>fst x i):=by
  rw [← List.mem_append,List.takeWhile_append_dropWhile]
 rw [this]
 constructor
 ·rintro (h | h | h)
  ·exact .inr (.inl h)
  ·exact .inl h
  ·exact .inr (.inr h)
 ·rintro (h | h | h)
  ·exact .inr (.inl h)
  ·exact .inl h
  ·exact .inr (.inr h)
theorem ordTo_iff {dd:Nat→Bool} {fst:Nat→Nat→Bool} {t x:Nat}:x∈ordTo dd fst t↔x<t∧dd x=false:=by
 refine ⟨ordTo_mem x,?_⟩
 induction t with
 | zero=>intro h;omega
 | succ t ih =>
  rintro ⟨h1,h2⟩
  rw [ordTo_succ]
  by_cases e:x=t
  ·subst e
   rw [if_neg (by rw [h2];simp)]
   exact insW_mem.2 (.inl rfl)
  ·have:=ih ⟨by omega,h2⟩
   split
   ·exact this
   ·exact insW_mem.2 (.inr this)
structure Lin1 (fst:Nat→Nat→Bool):Prop where
 tot:∀ a b,a≠b→fst a b=false→fst b a=true
 tr:∀ a b c,fst a b=true→fst b c=true→fst a c=true
 irr:∀ a,fst a a=false
theorem insW_sort {fst:Nat→Nat→Bool} (o:Lin1 fst) {i:Nat} {out:List Nat} (hi:i∉out) (h:out.Pairwise fun x y=>fst x y=true):(insW fst i out).Pairwise fun x y=>fst x y=true:=by
 unfold insW
 rw [List.pairwise_append,List.pairwise_cons]
 have h1:(out.takeWhile (fun x=>fst x i)++out.dropWhile (fun x=>fst x i)).Pairwise fun x y=>fst x y=true:=by rw [List.takeWhile_append_dropWhile];exact h
 rw [List.pairwise_append] at h1
 obtain ⟨h2,h3,h4⟩:=h1
 have h5:∀ y∈out.dropWhile (fun x=>fst x i),fst i y=true:=by
  cases hd:out.dropWhile (fun x=>fst x i) with
  | nil=>intro y hy;simp at hy
  | cons z r =>
   have hz:fst z i=false:=dropWhile_head (p:=fun x=>fst x i) hd
   have hzo:z∈out:=(List.dropWhile_sublist _).mem (by rw [hd];simp)
   have hiz:fst i z=true:=o.tot z i (fun e=>hi (e ▸ hzo)) hz
   rw [hd,List.pairwise_cons] at h3
   intro y hy
   rcases List.mem_cons.1 hy with e | e
   ·rw [e];exact hiz
   ·exact o.tr _ _ _ hiz (h3.1 y e)
 refine ⟨h2,⟨h5,h3⟩,fun x hx y hy=>?_⟩
 rcases List.mem_cons.1 hy with e | e
 ·rw [e];exact tw_all x hx
 ·exact h4 x hx y e
theorem ordTo_sort {dd:Nat→Bool} {fst:Nat→Nat→Bool} (o:Lin1 fst):∀ t,(ordTo dd fst t).Pairwise fun x y=>fst x y=true:=by
 intro t
 induction t with
 | zero=>simp [ordTo]
 | succ t ih =>
  rw [ordTo_succ]
  split
  ·exact ih
  ·exact insW_sort o (fun h=>by have:=(ordTo_mem t h).1;omega) ih
theorem firstW_iff {fx:Nat→Bool} {bk rk:Nat→Nat} {sd:Nat→Int} {a b:Nat}:firstW fx bk rk sd a b=true↔(bk a<bk b∨(bk a=bk b∧((fx a).toNat<(fx b).toNat∨((fx a).toNat=(fx b).toNat∧(sd a<sd b∨(sd a=sd b∧(rk a<rk b∨(rk a=rk b∧a<b)))))))):=by
 have last:(if sd a≠sd b then decide (sd a<sd b) else if rk a≠rk b then decide (rk a<rk b) else decide (a<b))=true↔(sd a<sd b∨(sd a=sd b∧(rk a<rk b∨(rk a=rk b∧a<b)))):=by
  by_cases h3:sd a=sd b
  ·rw [if_neg (by simpa using h3)]
   by_cases h4:rk a=rk b
   ·rw [if_neg (by simpa using h4),decide_eq_true_iff];omega
   ·rw [if_pos h4,decide_eq_true_iff];omega
  ·rw [if_pos h3,decide_eq_true_iff];omega
 unfold firstW
 by_cases h1:bk a=bk b
 ·rw [if_neg (by simpa using h1)]
  cases ha:fx a<;>cases hb:fx b
  ·rw [if_neg (by simp),last];simp [h1]
  ·rw [if_pos (by simp)];simp [h1]
  ·rw [if_pos (by simp)];simp [h1]
  ·rw [if_neg (by simp),last];simp [h1]
 ·rw [if_pos h1,decide_eq_true_iff];omega
theorem firstW_lin (fx:Nat→Bool) (bk rk:Nat→Nat) (sd:Nat→Int):Lin1 (firstW fx bk rk sd):=by
 refine ⟨fun a b hne h=>?_,fun a b c h1 h2=>?_,fun a=>by simp [firstW]⟩
 ·rw [Bool.eq_false_iff,Ne,firstW_iff] at h
  rw [firstW_iff];omega
 ·rw [firstW_iff] at h1 h2 ⊢;omega
theorem sort_ext {fst:Nat→Nat→Bool} (o:Lin1 fst):∀ {a b:List Nat},a.Pairwise (fun x y=>fst x y=true)→b.Pairwise (fun x y=>fst x y=true)→(∀ x,x∈a↔x∈b)→a=b
 | [],b,_,_,hm=>by
  cases b with
  | nil=>rfl
  | cons y b=>exact absurd ((hm y).2 (by simp)) (by simp)
 | x::a,[],_,_,hm=>absurd ((hm x).1 (by simp)) (by simp)
 | x::a,y::b,h,h',hm=>by
  simp only [List.pairwise_cons] at h h'
  have asy:∀ p q,fst p q=true→fst q p=true→False:=fun p q h1 h2=>by
   have:=o.tr _ _ _ h1 h2
   rw [o.irr] at this;cases this
  have hxy:x=y:=by
   rcases List.mem_cons.1 ((hm x).1 (by simp)) with e | e
   ·exact e
   ·rcases List.mem_cons.1 ((hm y).2 (by simp)) with e' | e'
    ·exact e'.symm
    ·exact (asy _ _ (h.1 y e') (h'.1 x e)).elim
  subst hxy
  congr 1
  refine sort_ext o h.2 h'.2 fun p=>⟨fun hp=>?_,fun hp=>?_⟩
  ·rcases List.mem_cons.1 ((hm p).1 (List.mem_cons_of_mem _ hp)) with e | e
   ·subst e;exact (asy _ _ (h.1 p hp) (h.1 p hp)).elim
   ·exact e
  ·rcases List.mem_cons.1 ((hm p).2 (List.mem_cons_of_mem _ hp)) with e | e
   ·subst e;exact (asy _ _ (h'.1 p hp) (h'.1 p hp)).elim
   ·exact e
theorem ordX_iff {ps:List PatchD} {sd:Nat→Int} {k:Nat}:k∈ordX ps sd↔k<nX ps∧ddX ps k=false:=ordTo_iff
theorem ordX_sort (ps:List PatchD) (sd:Nat→Int):(ordX ps sd).Pairwise fun x y=>firstW (fxX ps) (bkX ps) (rkX ps) sd x y=true:=ordTo_sort (firstW_lin _ _ _ _) _
section
variable {ps:List PatchD}
theorem aheadW_iff {a b:Nat}:aheadW (ddX ps) (onS ps) a b=true↔ddX ps a=false∧ddX ps b=false∧getB (onS ps) a b=true∧getB (onS ps) b a=false:=by
 unfold aheadW aheadS
 simp only [Bool.and_eq_true,Bool.not_eq_true']
 constructor
 ·rintro ⟨⟨h1,h2⟩,h3,h4⟩;exact ⟨h1,h2,h3,h4⟩
 ·rintro ⟨h1,h2,h3,h4⟩;exact ⟨⟨h1,h2⟩,h3,h4⟩
theorem aheadW_trans {a b c:Nat} (ha:a<nX ps) (hb:b<nX ps) (hc:c<nX ps) (h1:aheadW (ddX ps) (onS ps) a b=true) (h2:aheadW (ddX ps) (onS ps) b c=true):aheadW (ddX ps) (onS ps) a c=true:=by
 rw [aheadW_iff] at h1 h2 ⊢
 refine ⟨h1.1,h2.2.1,onS_trans ps ha hb hc h1.2.2.1 h2.2.2.1,?_⟩
 rw [Bool.eq_false_iff]
 intro e
 have:=onS_trans ps hb hc ha h2.2.2.1 e
 rw [h1.2.2.2] at this;cases this
theorem rk_lt {a b:Nat} (ha:a<nX ps) (hb:b<nX ps) (h:aheadW (ddX ps) (onS ps) a b=true):rkX ps a<rkX ps b:=by
 unfold rkX rankW
 refine filter_lt _ (fun x hx e=>aheadW_trans (List.mem_range.1 hx) ha hb e h) a (List.mem_range.2 ha) h (aheadW_irr a)
theorem bk_le {a b:Nat} (ha:a<nX ps) (hb:b<nX ps) (h:aheadW (ddX ps) (onS ps) a b=true):bkX ps a≤bkX ps b:=by
 unfold bkX blockW
 refine filter_le _ (fun x hx e=>?_)
 rw [Bool.and_eq_true] at e ⊢
 exact ⟨aheadW_trans (List.mem_range.1 hx) ha hb e.1 h,e.2⟩
theorem bk_lt {a b:Nat} (ha:a<nX ps) (hb:b<nX ps) (h:aheadW (ddX ps) (onS ps) a b=true) (hf:fxX ps a=true):bkX ps a<bkX ps b:=by
 unfold bkX blockW
 refine filter_lt _ (fun x hx e=>?_) a (List.mem_range.2 ha) (by rw [h,hf];rfl) (by rw [aheadW_irr];rfl)
 rw [Bool.and_eq_true] at e ⊢
 exact ⟨aheadW_trans (List.mem_range.1 hx) ha hb e.1 h,e.2⟩
theorem strand_same {sd:Nat→Int} (hs:StrX ps sd) {a b:Nat} (ha:a<nX ps) (hb:b<nX ps) (da:ddX ps a=false) (db:ddX ps b=false) (fa:fxX ps a=false) (fb:fxX ps b=false) (hk:bkX ps a=bkX ps b) (h:getB (onS ps) a b=true∨getB (onS ps) b a=true):sd a=sd b:=by
 obtain ⟨r,h1,e1⟩:=hs.loose a ha da fa
 obtain ⟨r',h2,e2⟩:=hs.loose b hb db fb
 have la:looseW (ddX ps) (fxX ps) a=true:=by unfold looseW;rw [da,fa];rfl
 have lb:looseW (ddX ps) (fxX ps) b=true:=by unfold looseW;rw [db,fb];rfl
 have c1:ConnW (nX ps) (ddX ps) (fxX ps) (bkX ps) (onS ps) a b:=ConnW.step .refl hb (by
  unfold bndW
  rw [lb]
  simp only [Bool.true_and,Bool.and_eq_true,decide_eq_true_eq,Bool.or_eq_true]
  exact ⟨hk,h⟩)
 have c2:=c1.symm ha la
 have l1:=h1.least _ (c1.trans h2.conn)
 have l2:=h2.least _ (c2.trans h1.conn)
 rw [e1,e2];omega
theorem ahead_first {sd:Nat→Int} (hs:StrX ps sd) {a b:Nat} (ha:a<nX ps) (hb:b<nX ps) (h:aheadW (ddX ps) (onS ps) a b=true):firstW (fxX ps) (bkX ps) (rkX ps) sd a b=true:=by
 have h1:=bk_le ha hb h
 have h2:=rk_lt ha hb h
 have h3:=aheadW_iff.1 h
 unfold firstW
 by_cases e:bkX ps a=bkX ps b
 ·rw [if_neg (by omega)]
  have fa:fxX ps a=false:=by
   rw [Bool.eq_false_iff]
   intro f
   have:=bk_lt ha hb h f
   omega
  cases fb:fxX ps b
  ·rw [if_neg (by rw [fa];simp),if_neg (by rw [strand_same hs ha hb h3.1 h3.2.1 fa fb e (.inl h3.2.2.1)];simp),if_pos (by omega)]
   simpa using h2
  ·rw [if_pos (by rw [fa];simp)]
 ·rw [if_pos e]
  simp;omega
end
end Go.Proofs.YtlaffgagmncgjabGreatDoor
namespace Go.Proofs.YtlaffgagmncgjabGreatDoor
open Tryz Go Go.Pat Go.Proofs
structure Chain (ps:List PatchD) (m:Nat) (f:Nat→Nat):Prop where
 lt:∀ j,j<m→f j<nX ps∧ddX ps (f j)=false
 all:∀ k,k<nX ps→ddX ps k=false→∃ j,j<m∧f j=k
 on:∀ a b,a<b→b<m→getB (onS ps) (f a) (f b)=true
 no:∀ a b,a<b→b<m→getB (onS ps) (f b) (f a)=false
namespace Chain
variable {ps:List PatchD} {m:Nat} {f:Nat→Nat} (c:Chain ps m f)
include c
theorem ahead {a b:Nat} (h:a<b) (hb:b<m):aheadW (ddX ps) (onS ps) (f a) (f b)=true :=
 aheadW_iff.2 ⟨(c.lt a (by omega)).2,(c.lt b hb).2,c.on a b h hb,c.no a b h hb⟩
theorem inj {a b:Nat} (ha:a<m) (hb:b<m) (e:f a=f b):a=b:=by
 rcases Nat.lt_trichotomy a b with h | h | h
 ·have:=c.ahead h hb
  rw [e,aheadW_irr] at this;cases this
 ·exact h
 ·have:=c.ahead h ha
  rw [e,aheadW_irr] at this;cases this
theorem fx {a:Nat} (ha:a<m):fxX ps (f a)=true:=by
 unfold fxX setW
 rw [(c.lt a ha).2,Bool.not_false,Bool.true_and,List.all_eq_true]
 intro k hk
 simp only [Bool.or_eq_true,decide_eq_true_eq]
 cases hd:ddX ps k
 ·obtain ⟨b,hb,rfl⟩:=c.all k (List.mem_range.1 hk) hd
  rcases Nat.lt_trichotomy a b with h | h | h
  ·exact .inr (.inr (c.ahead h hb))
  ·exact .inl (.inl (by rw [h]))
  ·exact .inr (.inl (c.ahead h ha))
 ·exact .inl (.inr rfl)
theorem ring {a:Nat} (ha:a<m):ringW (nX ps) (ddX ps) (onS ps) (f a)=false:=by
 rw [Bool.eq_false_iff]
 intro h
 obtain ⟨k,hk,h⟩:=List.any_eq_true.1 h
 simp only [Bool.and_eq_true,Bool.not_eq_true',decide_eq_false_iff_not] at h
 obtain ⟨⟨h1,h2⟩,h3,h4⟩:=h
 obtain ⟨b,hb,rfl⟩:=c.all k (List.mem_range.1 hk) h2
 rcases Nat.lt_trichotomy a b with q | q | q
 ·rw [c.no a b q hb] at h4;cases h4
 ·exact h1 (by rw [q])
 ·rw [c.no b a q ha] at h3;cases h3
theorem ord {sd:Nat→Int} (hs:StrX ps sd):ordX ps sd=(List.range m).map f:=by
 refine sort_ext (firstW_lin (fxX ps) (bkX ps) (rkX ps) sd) (ordX_sort ps sd) ?_ fun x=>?_
 ·rw [List.pairwise_map]
  refine List.Pairwise.imp_of_mem (fun {a b} ha hb h=>?_) List.pairwise_lt_range
  have hb':=List.mem_range.1 hb
  exact ahead_first hs (c.lt a (by omega)).1 (c.lt b hb').1 (c.ahead h hb')
 ·rw [ordX_iff,List.mem_map]
  constructor
  ·rintro ⟨h1,h2⟩
   obtain ⟨j,hj,e⟩:=c.all x h1 h2
   exact ⟨j,List.mem_range.2 hj,e⟩
  ·rintro ⟨j,hj,rfl⟩
   exact c.lt j (List.mem_range.1 hj)
end Chain
theorem RC.own_lt (c:RC) {j k:Nat} (h:j<k) (hn:c.st j=none):c.own j<c.own k:=by
 induction k with
 | zero=>omega
 | succ k ih =>
  rw [c.own_succ]
  by_cases e:j=k
  ·subst e;rw [hn];simp
  ·have:=ih (by omega);omega
def RC.lnAt (c:RC) (j:Nat):LineD:=⟨⟨c.id,c.own j⟩,c.up j,c.dn j,c.W.getD j []⟩
theorem RC.dels_kind (c:RC) (n:Nat):∀ d∈c.dels n,d.kind=2:=fun d hd=>by
 obtain ⟨i,_,h⟩:=List.mem_flatMap.1 hd
 unfold RC.del at h
 split at h
 ·simp only [List.mem_singleton] at h;rw [h]
 ·simp at h
theorem RC.put_lines (c:RC) (n:Nat):∀ j,ownN (c.dels n++c.puts j)=c.own j∧linesUp c.id (c.dels n++c.puts j)=((List.range j).filter fun k=>(c.st k).isNone).map c.lnAt:=by
 intro j
 induction j with
 | zero =>
  have h:(c.dels n).filter (fun d=>decide (d.kind=1))=[]:=by
   rw [List.filter_eq_nil_iff]
   intro d hd
   rw [c.dels_kind n d hd];simp
  have e:c.puts 0=[]:=rfl
  rw [e,List.append_nil]
  unfold ownN linesUp RC.own
  rw [h];simp
 | succ j ih =>
  obtain ⟨i1,i2⟩:=ih
  rw [c.puts_succ,← List.append_assoc,c.own_succ,List.range_succ,List.filter_append,List.map_append,← i2]
  cases hs:c.st j with
  | none =>
   have e:c.put j=[⟨1,c.up j,c.dn j,c.W.getD j []⟩]:=by unfold RC.put;rw [hs]
   rw [e,linesUp_snoc,i1]
   refine ⟨?_,by simp [hs,RC.lnAt]⟩
   rw [← i1];unfold ownN;rw [List.filter_append,List.length_append];simp
  | some i =>
   have e:∀ d∈c.put j,d.kind=3:=fun d hd=>by
    unfold RC.put at hd
    rw [hs] at hd
    dsimp only at hd
    split at hd
    ·simp at hd
    ·split at hd
     ·simp at hd
     ·split at hd
      ·simp at hd
      ·simp only [List.mem_singleton] at hd;rw [hd]
   have e2:(c.dels n++c.puts j++c.put j).filter (fun d=>decide (d.kind=1))=(c.dels n++c.puts j).filter (fun d=>decide (d.kind=1)):=by
    rw [List.filter_append,(List.filter_eq_nil_iff (l:=c.put j)).2 (fun d hd=>by rw [e d hd];simp),List.append_nil]
   unfold ownN linesUp at *
   rw [e2]
   exact ⟨by simpa using i1,by simp [hs]⟩
theorem RC.mem_lines (c:RC) {x:LineD} {ns:List Nat}:x∈linesOfS ⟨c.id,ns,c.ch⟩↔∃ j,j<c.W.length∧c.st j=none∧x=c.lnAt j:=by
 unfold linesOfS RC.ch
 dsimp only
 rw [(c.put_lines _ _).2,List.mem_map]
 constructor
 ·rintro ⟨j,hj,rfl⟩
  obtain ⟨h1,h2⟩:=List.mem_filter.1 hj
  exact ⟨j,List.mem_range.1 h1,by simpa using h2,rfl⟩
 ·rintro ⟨j,hj,h,rfl⟩
  exact ⟨j,List.mem_filter.2 ⟨List.mem_range.2 hj,by simp [h]⟩,rfl⟩
theorem RC.mem_tie (c:RC) {d:ChangeD} (hd:d∈c.ch) (hk:d.kind=3):∃ j i k,j+1<c.W.length∧c.st (j+1)=some i∧c.st j=some k∧d.up=c.ref k∧d.down=c.ref i:=by
 rcases List.mem_append.1 hd with h | h
 ·have:=c.dels_kind _ d h;omega
 ·obtain ⟨j,hj,h⟩:=List.mem_flatMap.1 h
  have hj':=List.mem_range.1 hj
  unfold RC.put at h
  split at h
  ·simp only [List.mem_singleton] at h;rw [h] at hk;simp at hk
  ·rename_i i e
   split at h
   ·simp at h
   ·rename_i hz
    split at h
    ·simp at h
    ·rename_i k e'
     split at h
     ·simp at h
     ·simp only [List.mem_singleton] at h
      subst h
      exact ⟨j-1,i,k,by omega,by rw [show j-1+1=j by omega];exact e,e',rfl,rfl⟩
theorem RC.mem_del (c:RC) {d:ChangeD} (hd:d∈c.ch) (hk:d.kind=2):∃ i,i<c.R.length∧atI c.pr i=none∧d.up=c.ref i:=by
 rcases List.mem_append.1 hd with h | h
 ·obtain ⟨i,hi,h⟩:=List.mem_flatMap.1 h
  unfold RC.del at h
  split at h
  ·rename_i e
   simp only [List.mem_singleton] at h;rw [h]
   exact ⟨i,List.mem_range.1 hi,by simpa using e,rfl⟩
  ·simp at h
 ·obtain ⟨j,hj,h⟩:=List.mem_flatMap.1 h
  unfold RC.put at h
  split at h
  ·simp only [List.mem_singleton] at h;rw [h] at hk;simp at hk
  ·split at h
   ·simp at h
   ·split at h
    ·simp at h
    ·split at h
     ·simp at h
     ·simp only [List.mem_singleton] at h;rw [h] at hk;simp at hk
theorem RC.dead (c:RC) {i:Nat} (hi:i<c.R.length) (h:atI c.pr i=none):(⟨2,c.ref i,⟨0,0⟩,[]⟩:ChangeD)∈c.ch :=
 List.mem_append.2 (.inl (List.mem_flatMap.2 ⟨i,List.mem_range.2 hi,by unfold RC.del;rw [h];simp⟩))
theorem RC.tied (c:RC) {j i k:Nat} (hj:j+1<c.W.length) (h1:c.st (j+1)=some i) (h2:c.st j=some k) (h3:c.ld k i=false):(⟨3,c.ref k,c.ref i,[]⟩:ChangeD)∈c.ch :=
 List.mem_append.2 (.inr (List.mem_flatMap.2 ⟨j+1,List.mem_range.2 hj,by unfold RC.put;rw [h1];simp [h2,h3]⟩))
structure RF (ps:List PatchD) (sd:Nat→Int) (orx:Nat→Bool) (c:RC):Prop where
 set:Set1 ps
 num:NumX ps sd orx
 rc:RcOk ps c
 len:c.R.length=(ordX ps sd).length
 ref:∀ i,i<c.R.length→c.ref i=(lnX ps (nth (ordX ps sd) i)).ref
 may:∀ i j,c.st j=some i→mayB (markX ps orx (nth (ordX ps sd) i))=true∧(lnX ps (nth (ordX ps sd) i)).text=c.W.getD j []
 ld:∀ i j,i<c.R.length→j<c.R.length→c.ld i j=getB (onS ps) (nth (ordX ps sd) i) (nth (ordX ps sd) j)
theorem may_clear {ps:List PatchD} {orx:Nat→Bool} {k:Nat} (h:mayB (markX ps orx k)=true):orx k=false∧ringW (nX ps) (ddX ps) (onS ps) k=false:=by
 unfold markX at h
 split at h
 ·simp [mayB] at h
 ·rename_i h1
  split at h
  ·simp [mayB] at h
  ·rename_i h2
   exact ⟨by simpa using h1,by simpa using h2⟩
theorem ordX_nodup (ps:List PatchD) (sd:Nat→Int) {a b:Nat} (ha:a<(ordX ps sd).length) (hb:b<(ordX ps sd).length) (h:a<b):firstW (fxX ps) (bkX ps) (rkX ps) sd (nth (ordX ps sd) a) (nth (ordX ps sd) b)=true:=by
 have:=ordX_sort ps sd
 rw [List.pairwise_iff_getElem] at this
 have:=this a b ha hb h
 simpa [nth,List.getD_eq_getElem?_getD,ha,hb] using this
namespace RF
variable {ps:List PatchD} {sd:Nat→Int} {orx:Nat→Bool} {c:RC} (k:RF ps sd orx c)
include k
theorem nod:(ps.map PatchD.id).Nodup:=k.set.inv.nodup
theorem mem {i:Nat} (h:i<c.R.length):nth (ordX ps sd) i<nX ps∧ddX ps (nth (ordX ps sd) i)=false:=ordX_iff.1 (nth_mem (k.len ▸ h))
theorem inj {i j:Nat} (hi:i<c.R.length) (hj:j<c.R.length) (e:c.ref i=c.ref j):i=j:=by
 rw [k.ref i hi,k.ref j hj] at e
 have e':=ref_at k.nod (k.mem hi).1 (k.mem hj).1 e
 have hi':i<(ordX ps sd).length:=k.len ▸ hi
 have hj':j<(ordX ps sd).length:=k.len ▸ hj
 rcases Nat.lt_trichotomy i j with h | h | h
 ·have:=ordX_nodup ps sd hi' hj' h
  rw [e',(firstW_lin _ _ _ _).irr] at this;cases this
 ·exact h
 ·have:=ordX_nodup ps sd hj' hi' h
  rw [e',(firstW_lin _ _ _ _).irr] at this;cases this
theorem stp {i j i' j':Nat} (h:c.st j=some i) (h':c.st j'=some i'):(i<i'→j<j')∧(i=i'→j=j')∧(j=j'→i=i'):=by
 have m1:=(atJ_iff k.rc.inc i j).1 h
 have m2:=(atJ_iff k.rc.inc i' j').1 h'
 refine ⟨fun q=>?_,fun q=>?_,fun q=>?_⟩
 ·have hp:=k.rc.inc
  unfold Inc at hp
  rw [List.pairwise_iff_getElem] at hp
  obtain ⟨a,ha,ea⟩:=List.mem_iff_getElem.1 m1
  obtain ⟨b,hb,eb⟩:=List.mem_iff_getElem.1 m2
  rcases Nat.lt_trichotomy a b with r | r | r
  ·have:=(hp a b ha hb r).2;rw [ea,eb] at this;exact this
  ·subst r;rw [ea] at eb;cases eb;omega
  ·have:=(hp b a hb ha r).1;rw [ea,eb] at this;dsimp only at this;omega
 ·have:=inc_inj k.rc.inc _ m1 _ m2 (.inl q);cases this;rfl
 ·have:=inc_inj k.rc.inc _ m1 _ m2 (.inr q);cases this;rfl
theorem stR {i j:Nat} (h:c.st j=some i):i<c.R.length∧j<c.W.length:=k.rc.st h
theorem idIn {i:Nat} (h:i<c.R.length):(c.ref i).p≠c.id:=fun e=>k.rc.out (e ▸ (k.rc.refOk h).2)
theorem nmInj {a b:Nat} (_:a<c.W.length) (_:b<c.W.length) (e:c.nm a=c.nm b):a=b:=by
 unfold RC.nm at e
 cases h1:c.st a with
 | some i =>
  cases h2:c.st b with
  | some i' =>
   rw [h1,h2] at e
   exact (k.stp h1 h2).2.1 (k.inj (k.stR h1).1 (k.stR h2).1 e)
  | none =>
   rw [h1,h2] at e
   exact absurd (congrArg RefD.p e) (k.idIn (k.stR h1).1)
 | none =>
  cases h2:c.st b with
  | some i' =>
   rw [h1,h2] at e
   exact absurd (congrArg RefD.p e).symm (k.idIn (k.stR h2).1)
  | none =>
   rw [h1,h2] at e
   have e':c.own a=c.own b:=congrArg RefD.i e
   rcases Nat.lt_trichotomy a b with r | r | r
   ·have:=c.own_lt r h1;omega
   ·exact r
   ·have:=c.own_lt r h2;omega
theorem forth {a b i i':Nat} (h:c.st a=some i) (h':c.st b=some i') (hl:LeadR ps (c.ref i) (c.ref i')):a≤b:=by
 have hi:=(k.stR h).1
 have hi':=(k.stR h').1
 rw [k.ref i hi,k.ref i' hi',leadR_at k.nod (k.mem hi).1 (k.mem hi').1] at hl
 have hs:=k.stp h h'
 have hs':=k.stp h' h
 rcases Nat.lt_trichotomy i i' with r | r | r
 ·have:=hs.1 r;omega
 ·have:=hs.2.1 r;omega
 ·exfalso
  have f1:=ordX_nodup ps sd (k.len ▸ hi') (k.len ▸ hi) r
  have hne:nth (ordX ps sd) i'≠nth (ordX ps sd) i:=fun e=>by rw [e,(firstW_lin _ _ _ _).irr] at f1;cases f1
  have hr:=(may_clear (k.may i a h).1).2
  have hb:getB (onS ps) (nth (ordX ps sd) i') (nth (ordX ps sd) i)=false:=by
   rw [Bool.eq_false_iff]
   intro e
   rw [Bool.eq_false_iff] at hr
   refine hr (List.any_eq_true.2 ⟨nth (ordX ps sd) i',List.mem_range.2 (k.mem hi').1,?_⟩)
   rw [hl,e,(k.mem hi').2]
   simp [hne]
  have:=ahead_first k.num.str (k.mem hi).1 (k.mem hi').1 (aheadW_iff.2 ⟨(k.mem hi).2,(k.mem hi').2,hl,hb⟩)
  have:=(firstW_lin _ _ _ _).tr _ _ _ this f1
  rw [(firstW_lin _ _ _ _).irr] at this;cases this
end RF
end Go.Proofs.YtlaffgagmncgjabGreatDoor
namespace Go.Proofs.YtlaffgagmncgjabGreatDoor
open Tryz Go Go.Pat Go.Proofs
theorem lines_with {ps:List PatchD} {p:PatchD} {x:LineD}:x∈linesS (withS p ps)↔x∈linesS ps∨x∈linesOfS p:=by
 unfold linesS
 simp only [List.mem_flatMap,withS_mem]
 constructor
 ·rintro ⟨q,rfl | hq,h⟩
  ·exact .inr h
  ·exact .inl ⟨q,hq,h⟩
 ·rintro (⟨q,hq,h⟩ | h)
  ·exact ⟨q,.inr hq,h⟩
  ·exact ⟨p,.inl rfl,h⟩
theorem line_change {ps:List PatchD} {x:LineD} (h:x∈linesS ps):∃ q∈ps,q.id=x.ref.p∧∃ d∈q.changes,d.kind=1∧d.up=x.up∧d.down=x.down∧d.text=x.text:=by
 obtain ⟨q,hq,hl⟩:=List.mem_flatMap.1 h
 obtain ⟨⟨d,i⟩,hd,rfl⟩:=List.mem_map.1 hl
 have h1:=List.mk_mem_zipIdx_iff_getElem?.1 hd
 have h2:=List.mem_filter.1 (List.mem_of_getElem? h1)
 exact ⟨q,hq,rfl,d,h2.1,by simpa using h2.2,rfl,rfl,rfl⟩
theorem line_has {ps:List PatchD} (hl:Lin ps) {x:LineD} (h:x∈linesS ps):has2 ps x.up∧has2 ps x.down:=by
 obtain ⟨q,hq,_,d,hd,hk,e1,e2,_⟩:=line_change h
 have:=hl q hq d hd
 rw [e1,e2] at this
 refine ⟨this.1,?_⟩
 rcases this.2 with e | e
 ·omega
 ·exact e
theorem isLn_id {ps:List PatchD} {r:RefD} (h:IsLn ps r):r.p∈ps.map PatchD.id:=by
 obtain ⟨q,hq,e,_⟩:=mem_linesS.1 h
 exact List.mem_map.2 ⟨q,hq,e.symm⟩
theorem has2_id {ps:List PatchD} {r:RefD} (h:has2 ps r):r.p=0∨r.p∈ps.map PatchD.id:=by
 rcases h with e | ⟨q,hq,e,_⟩
 ·exact .inl e
 ·exact .inr (List.mem_map.2 ⟨q,hq,e.symm⟩)
theorem Inv.id0 {ps:List PatchD} (h:Inv ps) {n:Nat} (hn:n∈ps.map PatchD.id):n≠0:=by
 obtain ⟨q,hq,rfl⟩:=List.mem_map.1 hn
 obtain ⟨t,ht,_⟩:=h.fine q hq
 exact (parse_ok ht).2
theorem line_uniq {ps:List PatchD} (h:(ps.map PatchD.id).Nodup) {x y:LineD} (hx:x∈linesS ps) (hy:y∈linesS ps) (e:x.ref=y.ref):x=y:=by
 obtain ⟨i,hi,rfl⟩:=List.mem_iff_getElem.1 hx
 obtain ⟨j,hj,rfl⟩:=List.mem_iff_getElem.1 hy
 have g':∀ k (hk:k<(linesS ps).length),(linesS ps)[k]=lnX ps k:=fun k hk=>by
  have:=lnX_get (ps:=ps) hk
  rw [List.getElem?_eq_getElem hk] at this
  exact Option.some.inj this
 rw [g' i hi,g' j hj] at e ⊢
 rw [ref_at h hi hj e]
theorem leadR_mono {ps qs:List PatchD} (h:(ps.map PatchD.id).Nodup) (h':(qs.map PatchD.id).Nodup) (hsub:∀ p∈ps,p∈qs) {a b:RefD} (x:LeadR ps a b):LeadR qs a b:=by
 have hln:∀ l∈linesS ps,l∈linesS qs:=fun l hl=>by
  obtain ⟨q,hq,hl⟩:=List.mem_flatMap.1 hl
  exact List.mem_flatMap.2 ⟨q,hsub q hq,hl⟩
 have hi:∀ {r},IsLn ps r→IsLn qs r:=fun ⟨l,hl,e⟩=>⟨l,hln l hl,e⟩
 refine LeadR.least h (R:=LeadR qs) (fun a b c _ _ _=>LeadR.trans h') (fun a b ha hb hs=>LeadR.said h' (hi ha) (hi hb) ?_) x
 rcases hs with ⟨x,hx,hs⟩ | ⟨p,hp,hs⟩
 ·exact .inl ⟨x,hln x hx,hs⟩
 ·exact .inr ⟨p,hsub p hp,hs⟩
theorem ddX_told {ps:List PatchD} {k:Nat} (h:k<nX ps):ddX ps k=toldB ps (lnX ps k).ref:=by
 unfold ddX
 rw [toldB_live (lnX_get h)];simp
theorem del_pos {t:List UInt8} {p:PatchD} (h:parseS t=some p) {d:ChangeD} (hd:d∈p.changes) (hk:d.kind=2):d.up.p≠0:=by
 obtain ⟨_,h1,ws,ss,_,_,_,_,_,_,_,hc⟩:=parseS_iff.1 h
 obtain ⟨s',_,e⟩:=allSome_mem hc d hd
 rcases changeS_iff.1 e with ⟨_,_,_,_,_,_,_,_,_,rfl⟩ | ⟨w,up,_,hl,rfl⟩ | ⟨_,_,_,_,_,_,_,rfl⟩
 ·simp at hk
 ·unfold lineS at hl
  rw [if_neg (by simp)] at hl
  split at hl
  ·split at hl
   ·split at hl
    ·rename_i h0
     cases hl
     show _≠0
     dsimp only
     omega
    ·cases hl
   ·cases hl
  ·cases hl
 ·simp at hk
def recP (ps:List PatchD) (c:RC):PatchD:=⟨c.id,ndS ps c.ch,c.ch⟩
theorem RC.up_succ (c:RC) (a:Nat):c.up (a+1)=c.nm a:=by simp [RC.up]
theorem RC.nm_some (c:RC) {j i:Nat} (h:c.st j=some i):c.nm j=c.ref i:=by unfold RC.nm;rw [h]
theorem RC.nm_none (c:RC) {j:Nat} (h:c.st j=none):c.nm j=⟨c.id,c.own j⟩:=by unfold RC.nm;rw [h]
theorem RC.dn_next (c:RC) {a i:Nat} (ha:a+1<c.W.length) (h:c.st (a+1)=some i):c.dn a=c.nm (a+1):=by
 unfold RC.dn
 obtain ⟨n,e⟩:∃ n,c.W.length-(a+1)=n+1:=⟨c.W.length-(a+1)-1,by omega⟩
 rw [e,List.range'_succ,RC.dnF,h];simp
theorem RC.dn_cases (c:RC) (a:Nat):c.dn a=⟨0,1⟩∨∃ k i,a<k∧k<c.W.length∧c.st k=some i∧c.dn a=c.nm k:=by
 have key:∀ l:List Nat,c.dnF l=⟨0,1⟩∨∃ k∈l,∃ i,c.st k=some i∧c.dnF l=c.nm k:=by
  intro l
  induction l with
  | nil=>exact .inl rfl
  | cons k l ih =>
   unfold RC.dnF
   split
   ·rename_i hs
    obtain ⟨i,e⟩:=Option.isSome_iff_exists.1 hs
    exact .inr ⟨k,by simp,i,e,rfl⟩
   ·rcases ih with e | ⟨j,hj,e⟩
    ·exact .inl e
    ·exact .inr ⟨j,List.mem_cons_of_mem _ hj,e⟩
 rcases key (List.range' (a+1) (c.W.length-(a+1))) with e | ⟨k,hk,i,hs,e⟩
 ·exact .inl e
 ·have:=List.mem_range'_1.1 hk
  exact .inr ⟨k,i,by omega,by omega,hs,e⟩
namespace RF
variable {ps:List PatchD} {sd:Nat→Int} {orx:Nat→Bool} {c:RC} (k:RF ps sd orx c)
include k
omit k in
theorem isLn' (_:RF ps sd orx c) {r:RefD}:IsLn (withS (recP ps c) ps) r↔IsLn ps r∨∃ j,j<c.W.length∧c.st j=none∧r=c.nm j:=by
 unfold IsLn
 simp only [lines_with]
 constructor
 ·rintro ⟨l,hl | hl,rfl⟩
  ·exact .inl ⟨l,hl,rfl⟩
  ·obtain ⟨j,hj,h,rfl⟩:=c.mem_lines.1 hl
   exact .inr ⟨j,hj,h,(c.nm_none h).symm⟩
 ·rintro (⟨l,hl,rfl⟩ | ⟨j,hj,h,rfl⟩)
  ·exact ⟨l,.inl hl,rfl⟩
  ·exact ⟨c.lnAt j,.inr (c.mem_lines.2 ⟨j,hj,h,rfl⟩),(c.nm_none h).symm⟩
theorem refLn {i:Nat} (h:i<c.R.length):IsLn ps (c.ref i):=by
 rw [k.ref i h];exact isLn_at (k.mem h).1
theorem nmLn {j:Nat} (h:j<c.W.length):IsLn (withS (recP ps c) ps) (c.nm j):=by
 rw [k.isLn']
 cases hs:c.st j with
 | some i=>rw [c.nm_some hs];exact .inl (k.refLn (k.stR hs).1)
 | none=>exact .inr ⟨j,h,hs,rfl⟩
omit k in
theorem sub (_:RF ps sd orx c):∀ p∈ps,p∈withS (recP ps c) ps:=fun _ hp=>withS_mem.2 (.inr hp)
omit k in
theorem own (_:RF ps sd orx c):recP ps c∈withS (recP ps c) ps:=withS_mem.2 (.inl rfl)
theorem old {r:RefD} (h:IsLn (withS (recP ps c) ps) r) (h2:has2 ps r):IsLn ps r:=by
 rcases k.isLn'.1 h with e | ⟨j,hj,hs,e⟩
 ·exact e
 ·exfalso
  rw [c.nm_none hs] at e
  have hp:r.p=c.id:=by rw [e]
  rcases has2_id h2 with q | q
  ·exact k.rc.id.2 (hp ▸ q)
  ·exact k.rc.out (hp ▸ q)
omit k in
theorem ln0 (_:RF ps sd orx c) (s':Set1 (withS (recP ps c) ps)) {r:RefD} (h:IsLn (withS (recP ps c) ps) r):r.p≠0:=s'.inv.id0 (isLn_id h)
theorem step (s':Set1 (withS (recP ps c) ps)) {a:Nat} (ha:a+1<c.W.length):LeadR (withS (recP ps c) ps) (c.nm a) (c.nm (a+1)):=by
 have n':=s'.inv.nodup
 cases h1:c.st (a+1) with
 | none =>
  refine LeadR.said n' (k.nmLn (by omega)) (k.nmLn ha) (.inl ⟨c.lnAt (a+1),lines_with.2 (.inr (c.mem_lines.2 ⟨a+1,ha,h1,rfl⟩)),.inl ⟨c.up_succ a,(c.nm_none h1).symm⟩⟩)
 | some i =>
  cases h2:c.st a with
  | none =>
   refine LeadR.said n' (k.nmLn (by omega)) (k.nmLn ha) (.inl ⟨c.lnAt a,lines_with.2 (.inr (c.mem_lines.2 ⟨a,by omega,h2,rfl⟩)),.inr ⟨(c.nm_none h2).symm,c.dn_next ha h1⟩⟩)
  | some i' =>
   rw [c.nm_some h1,c.nm_some h2]
   have hi:=(k.stR h1).1
   have hi':=(k.stR h2).1
   cases hl:c.ld i' i
   ·exact LeadR.said n' (c.nm_some h2 ▸ k.nmLn (by omega)) (c.nm_some h1 ▸ k.nmLn ha) (.inr ⟨_,k.own,_,c.tied ha h1 h2 hl,rfl,rfl,rfl⟩)
   ·rw [k.ld _ _ hi' hi] at hl
    refine leadR_mono k.nod n' k.sub ?_
    rw [k.ref _ hi,k.ref _ hi']
    exact (leadR_at k.nod (k.mem hi').1 (k.mem hi).1).2 hl
theorem fwd (s':Set1 (withS (recP ps c) ps)) {a:Nat}:∀ {b:Nat},a<b→b<c.W.length→LeadR (withS (recP ps c) ps) (c.nm a) (c.nm b):=by
 intro b
 induction b with
 | zero=>intro h;omega
 | succ b ih =>
  intro h hb
  by_cases e:a=b
  ·subst e;exact k.step s' hb
  ·exact (ih (by omega) (by omega)).trans s'.inv.nodup (k.step s' hb)
theorem forthN {a b:Nat} (ha:a<c.W.length) (hb:b<c.W.length) (h:c.nm a=c.nm b∨LeadR ps (c.nm a) (c.nm b)):a≤b:=by
 rcases h with h | h
 ·exact Nat.le_of_eq (k.nmInj ha hb h)
 ·have key:∀ j,IsLn ps (c.nm j)→∃ i,c.st j=some i:=fun j hj=>by
   cases hs:c.st j with
   | some i=>exact ⟨i,rfl⟩
   | none =>
    have:=isLn_id hj
    rw [c.nm_none hs] at this
    exact absurd this k.rc.out
  obtain ⟨i,e1⟩:=key a h.left
  obtain ⟨i',e2⟩:=key b h.right
  rw [c.nm_some e1,c.nm_some e2] at h
  exact k.forth e1 e2 h
theorem back (s':Set1 (withS (recP ps c) ps)) {a b:Nat} (ha:a<c.W.length) (hb:b<c.W.length) (h:LeadR (withS (recP ps c) ps) (c.nm a) (c.nm b)):a≤b:=by
 have key:=LeadR.least s'.inv.nodup (R:=fun x y=>LeadR ps x y∨∃ i j,i≤j∧i<c.W.length∧j<c.W.length∧(x=c.nm i∨LeadR ps x (c.nm i))∧(c.nm j=y∨LeadR ps (c.nm j) y)) (fun x y z _ _ _ h1 h2=>?_) (fun x y hx hy hs=>?_) h
 ·rcases key with e | ⟨i,j,hij,hi,hj,e1,e2⟩
  ·exact k.forthN ha hb (.inr e)
  ·have:=k.forthN ha hi e1
   have:=k.forthN hj hb e2
   omega
 ·rcases h1 with h1 | ⟨i,j,hij,hi,hj,e1,e2⟩
  ·rcases h2 with h2 | ⟨i',j',hij',hi',hj',f1,f2⟩
   ·exact .inl (h1.trans k.nod h2)
   ·refine .inr ⟨i',j',hij',hi',hj',.inr ?_,f2⟩
    rcases f1 with f1 | f1
    ·exact f1 ▸ h1
    ·exact h1.trans k.nod f1
  ·rcases h2 with h2 | ⟨i',j',hij',hi',hj',f1,f2⟩
   ·refine .inr ⟨i,j,hij,hi,hj,e1,.inr ?_⟩
    rcases e2 with e2 | e2
    ·exact e2 ▸ h2
    ·exact e2.trans k.nod h2
   ·have:j≤i':=by
     refine k.forthN hj hi' ?_
     rcases e2 with e2 | e2
     ·subst e2;exact f1
     ·rcases f1 with f1 | f1
      ·subst f1;exact .inr e2
      ·exact .inr (e2.trans k.nod f1)
    exact .inr ⟨i,j',by omega,hi,hj',e1,f2⟩
 ·rcases hs with ⟨l,hl,hs⟩ | ⟨q,hq,d,hd,hk,e1,e2⟩
  ·rcases lines_with.1 hl with hl | hl
   ·have h2:=line_has k.set.lin hl
    refine .inl (LeadR.said k.nod ?_ ?_ (.inl ⟨l,hl,hs⟩))
    ·rcases hs with ⟨e1,e2⟩ | ⟨e1,e2⟩
     ·exact k.old hx (e1 ▸ h2.1)
     ·exact e1 ▸ ⟨l,hl,rfl⟩
    ·rcases hs with ⟨e1,e2⟩ | ⟨e1,e2⟩
     ·exact e2 ▸ ⟨l,hl,rfl⟩
     ·exact k.old hy (e2 ▸ h2.2)
   ·obtain ⟨j,hj,h0,rfl⟩:=c.mem_lines.1 hl
    have hr:(c.lnAt j).ref=c.nm j:=(c.nm_none h0).symm
    rcases hs with ⟨e1,e2⟩ | ⟨e1,e2⟩
    ·cases j with
     | zero=>exact absurd (by rw [← e1];rfl) (k.ln0 s' hx)
     | succ j=>exact .inr ⟨j,j+1,by omega,by omega,hj,.inl (by rw [← e1];exact c.up_succ j),.inl (by rw [← e2,hr])⟩
    ·rcases c.dn_cases j with e | ⟨n,_,h1,h2,_,e⟩
     ·exact absurd (by rw [← e2];show (c.dn j).p=0;rw [e]) (k.ln0 s' hy)
     ·exact .inr ⟨j,n,by omega,hj,h2,.inl (by rw [← e1,hr]),.inl (by rw [← e2];exact e.symm)⟩
  ·rcases withS_mem.1 hq with e | hq
   ·subst e
    obtain ⟨j,i,i',hj,h1,h2,f1,f2⟩:=c.mem_tie hd hk
    exact .inr ⟨j,j+1,by omega,by omega,hj,.inl (by rw [← e1,f1,c.nm_some h2]),.inl (by rw [← e2,f2,c.nm_some h1])⟩
   ·have h2:=k.set.lin q hq d hd
    refine .inl (LeadR.said k.nod (k.old hx (e1 ▸ h2.1)) (k.old hy ?_) (.inr ⟨q,hq,d,hd,hk,e1,e2⟩))
    rcases h2.2 with e | e
    ·omega
    ·exact e2 ▸ e
omit k in
theorem killsP (_:RF ps sd orx c) {r:RefD}:killsB (recP ps c) r=true↔∃ i,i<c.R.length∧atI c.pr i=none∧r=c.ref i:=by
 unfold killsB
 rw [List.any_eq_true]
 constructor
 ·rintro ⟨d,hd,h⟩
  simp only [Bool.and_eq_true,decide_eq_true_eq] at h
  obtain ⟨i,hi,h1,h2⟩:=c.mem_del hd h.1
  exact ⟨i,hi,h1,by rw [← eqb_iff.1 h.2,h2]⟩
 ·rintro ⟨i,hi,h1,rfl⟩
  exact ⟨_,c.dead hi h1,by simp⟩
theorem told {r:RefD}:toldB (withS (recP ps c) ps) r=true↔killsB (recP ps c) r=true∨toldB ps r=true:=by
 unfold toldB
 rw [List.any_eq_true,List.any_eq_true]
 constructor
 ·rintro ⟨q,hq,h⟩
  rcases withS_mem.1 hq with e | e
  ·exact .inl (e ▸ h)
  ·exact .inr ⟨q,e,h⟩
 ·rintro (h | ⟨q,hq,h⟩)
  ·exact ⟨_,k.own,h⟩
  ·exact ⟨q,k.sub q hq,h⟩
theorem told_old {r:RefD} (h:toldB ps r=true):has2 ps r:=by
 obtain ⟨q,hq,h⟩:=List.any_eq_true.1 h
 obtain ⟨d,hd,h⟩:=List.any_eq_true.1 h
 simp only [Bool.and_eq_true] at h
 exact eqb_iff.1 h.2 ▸ (k.set.lin q hq d hd).1
theorem alive {j:Nat}:toldB (withS (recP ps c) ps) (c.nm j)=false:=by
 rw [Bool.eq_false_iff]
 intro h
 cases hs:c.st j with
 | some i =>
  have hi:=(k.stR hs).1
  rw [c.nm_some hs] at h
  rcases k.told.1 h with h | h
  ·obtain ⟨i',hi',h1,e⟩:=k.killsP.1 h
   have:=k.inj hi hi' e
   subst this
   rw [(atI_iff k.rc.inc i j).2 ((atJ_iff k.rc.inc i j).1 hs)] at h1;cases h1
  ·rw [k.ref i hi,← ddX_told (k.mem hi).1,(k.mem hi).2] at h;cases h
 | none =>
  have hp:(c.nm j).p=c.id:=by rw [c.nm_none hs]
  rcases k.told.1 h with h | h
  ·obtain ⟨i',hi',h1,e⟩:=k.killsP.1 h
   exact k.idIn hi' (e ▸ hp)
  ·rcases has2_id (k.told_old h) with q | q
   ·exact k.rc.id.2 (hp ▸ q)
   ·exact k.rc.out (hp ▸ q)
theorem alive_nm {r:RefD} (hr:IsLn (withS (recP ps c) ps) r) (h:toldB (withS (recP ps c) ps) r=false):∃ j,j<c.W.length∧r=c.nm j:=by
 rcases k.isLn'.1 hr with e | ⟨j,hj,_,e⟩
 ·obtain ⟨n,hn,rfl⟩:=isLn_ex e
  have h0:toldB ps (lnX ps n).ref=false:=by
   rw [Bool.eq_false_iff] at h ⊢
   exact fun e=>h (k.told.2 (.inr e))
  rw [← ddX_told hn] at h0
  obtain ⟨i,hi,e⟩:=List.mem_iff_getElem.1 (ordX_iff.2 ⟨hn,h0⟩:n∈ordX ps sd)
  have hi':i<c.R.length:=k.len ▸ hi
  have hni:nth (ordX ps sd) i=n:=by simp [nth,List.getD_eq_getElem?_getD,hi,e]
  have hr:c.ref i=(lnX ps n).ref:=by rw [k.ref i hi',hni]
  cases ha:atI c.pr i with
  | none =>
   rw [Bool.eq_false_iff] at h
   exact absurd (k.told.2 (.inl (k.killsP.2 ⟨i,hi',ha,hr.symm⟩))) h
  | some j =>
   have hs:c.st j=some i:=(atJ_iff k.rc.inc i j).2 ((atI_iff k.rc.inc i j).1 ha)
   exact ⟨j,(k.stR hs).2,by rw [c.nm_some hs,hr]⟩
 ·exact ⟨j,hj,e⟩
end RF
def RC.at (ps:List PatchD) (c:RC) (j:Nat):Nat:=(placeS (linesS (withS (recP ps c) ps)) (c.nm j)).getD 0
namespace RF
variable {ps:List PatchD} {sd:Nat→Int} {orx:Nat→Bool} {c:RC} (k:RF ps sd orx c)
include k
theorem at_spec (s':Set1 (withS (recP ps c) ps)) {j:Nat} (h:j<c.W.length):RC.at ps c j<nX (withS (recP ps c) ps)∧(lnX (withS (recP ps c) ps) (RC.at ps c j)).ref=c.nm j:=by
 obtain ⟨i,hi,e⟩:=isLn_ex (k.nmLn h)
 have:=(at_iff s'.inv.nodup).2 ⟨hi,e⟩
 unfold At at this
 unfold RC.at
 rw [this]
 exact ⟨hi,e⟩
theorem chain (s':Set1 (withS (recP ps c) ps)):Chain (withS (recP ps c) ps) c.W.length (RC.at ps c):=by
 have n':=s'.inv.nodup
 refine ⟨fun j hj=>?_,fun n hn hd=>?_,fun a b h hb=>?_,fun a b h hb=>?_⟩
 ·obtain ⟨h1,h2⟩:=k.at_spec s' hj
  exact ⟨h1,by rw [ddX_told h1,h2];exact k.alive⟩
 ·rw [ddX_told hn] at hd
  obtain ⟨j,hj,e⟩:=k.alive_nm (isLn_at hn) hd
  obtain ⟨h1,h2⟩:=k.at_spec s' hj
  exact ⟨j,hj,ref_at n' h1 hn (h2.trans e.symm)⟩
 ·obtain ⟨h1,h2⟩:=k.at_spec s' (show a<c.W.length by omega)
  obtain ⟨h3,h4⟩:=k.at_spec s' hb
  rw [← leadR_at n' h1 h3,h2,h4]
  exact k.fwd s' h hb
 ·obtain ⟨h1,h2⟩:=k.at_spec s' (show a<c.W.length by omega)
  obtain ⟨h3,h4⟩:=k.at_spec s' hb
  rw [Bool.eq_false_iff]
  intro e
  rw [← leadR_at n' h3 h1,h2,h4] at e
  have:=k.back s' hb (by omega) e
  omega
theorem textAt' (s':Set1 (withS (recP ps c) ps)) {j:Nat} (h:j<c.W.length):(lnX (withS (recP ps c) ps) (RC.at ps c j)).text=c.W.getD j []:=by
 obtain ⟨h1,h2⟩:=k.at_spec s' h
 rcases lines_with.1 (List.mem_of_getElem? (lnX_get h1)) with e | e
 ·cases hs:c.st j with
  | none =>
   have:=isLn_id ⟨_,e,h2⟩
   rw [c.nm_none hs] at this
   exact absurd this k.rc.out
  | some i =>
   have hi:=(k.stR hs).1
   have:=line_uniq k.nod e (List.mem_of_getElem? (lnX_get (k.mem hi).1)) (by rw [h2,c.nm_some hs,k.ref i hi])
   rw [this];exact (k.may i j hs).2
 ·obtain ⟨j',hj',h0,e⟩:=c.mem_lines.1 e
  rw [e] at h2 ⊢
  have:=k.nmInj hj' h ((c.nm_none h0).trans h2)
  subst this;rfl
theorem sane (s':Set1 (withS (recP ps c) ps)) {j:Nat} (h:j<c.W.length):¬ Orphan (withS (recP ps c) ps) (lnX (withS (recP ps c) ps) (RC.at ps c j)):=by
 obtain ⟨h1,h2⟩:=k.at_spec s' h
 have n':=s'.inv.nodup
 rw [orphan_iff]
 rintro ⟨q,hq,⟨hr1,hr2⟩,hkill⟩
 rw [Bool.or_eq_true] at hkill
 rcases lines_with.1 (List.mem_of_getElem? (lnX_get h1)) with e | e
 ·cases hs:c.st j with
  | none =>
   have:=isLn_id ⟨_,e,h2⟩
   rw [c.nm_none hs] at this
   exact absurd this k.rc.out
  | some i =>
   have hi:=(k.stR hs).1
   have hx:=line_uniq k.nod e (List.mem_of_getElem? (lnX_get (k.mem hi).1)) (by rw [h2,c.nm_some hs,k.ref i hi])
   have hid:(lnX (withS (recP ps c) ps) (RC.at ps c j)).ref.p∈ps.map PatchD.id:=isLn_id ⟨_,e,rfl⟩
   rcases withS_mem.1 hq with e1 | hq'
   ·
    subst e1
    obtain ⟨q2,hq2,eid,d,hd,hk,u1,u2,_⟩:=line_change e
    have:∃ i',i'<c.R.length∧atI c.pr i'=none∧besB (c.ref i') q2=true:=by
     rcases hkill with hh | hh
     ·obtain ⟨i',hi',h3,h4⟩:=k.killsP.1 hh
      exact ⟨i',hi',h3,List.any_eq_true.2 ⟨d,hd,by rw [hk,u1,h4];simp⟩⟩
     ·obtain ⟨i',hi',h3,h4⟩:=k.killsP.1 hh
      exact ⟨i',hi',h3,List.any_eq_true.2 ⟨d,hd,by rw [hk,u2,h4];simp⟩⟩
    obtain ⟨i',hi',h3,h4⟩:=this
    refine hr1 (Reach.step .refl k.own rfl ?_)
    rw [← eid]
    refine List.mem_map.2 ⟨q2,List.mem_filter.2 ⟨hq2,List.any_eq_true.2 ⟨_,c.dead hi' h3,?_⟩⟩,rfl⟩
    simp [h4]
   ·
    have ho:=(may_clear (k.may i j hs).1).1
    rw [Bool.eq_false_iff] at ho
    refine ho ((k.num.orp _ (k.mem hi).1).2 ?_)
    rw [← hx,orphan_iff]
    exact ⟨q,hq',⟨fun r=>hr1 (reach_sub k.sub r),fun r=>hr2 (reach_sub k.sub r)⟩,by rw [Bool.or_eq_true];exact hkill⟩
 ·obtain ⟨j',hj',h0,e⟩:=c.mem_lines.1 e
  rw [e] at h2 hr1 hr2 hkill
  have:=k.nmInj hj' h ((c.nm_none h0).trans h2)
  subst this
  have no:∀ r,killsB q r=true→toldB (withS (recP ps c) ps) r=true:=fun r hr=>List.any_eq_true.2 ⟨q,hq,hr⟩
  have n0:∀ r:RefD,r.p=0→killsB q r=true→False:=fun r h0 hr=>by
   have hr':killsB q r=true:=hr
   obtain ⟨d,hd,hr⟩:=List.any_eq_true.1 hr
   simp only [Bool.and_eq_true,decide_eq_true_eq] at hr
   obtain ⟨t,ht,_⟩:=s'.inv.fine q hq
   exact del_pos ht hd hr.1 (by rw [eqb_iff.1 hr.2];exact h0)
  rcases hkill with hh | hh
  ·cases j' with
   | zero=>exact n0 _ rfl hh
   | succ j' =>
    have:=no _ hh
    rw [show (c.lnAt (j'+1)).up=c.nm j' from c.up_succ j',k.alive] at this;cases this
  ·rcases c.dn_cases j' with e | ⟨n,_,q1,q2,_,e⟩
   ·exact n0 _ (by show (c.dn j').p=0;rw [e]) hh
   ·have:=no _ hh
    rw [show (c.lnAt j').down=c.nm n from e,k.alive] at this;cases this
theorem shown (s':Set1 (withS (recP ps c) ps)) {sd':Nat→Int} {orx':Nat→Bool} (hn:NumX (withS (recP ps c) ps) sd' orx') :
  ordX (withS (recP ps c) ps) sd'=(List.range c.W.length).map (RC.at ps c)∧∀ j,j<c.W.length→markX (withS (recP ps c) ps) orx' (RC.at ps c j)=32:=by
 have hc:=k.chain s'
 refine ⟨hc.ord hn.str,fun j hj=>?_⟩
 have ho:orx' (RC.at ps c j)=false:=by
  rw [Bool.eq_false_iff]
  intro e
  exact k.sane s' hj ((hn.orp _ (k.at_spec s' hj).1).1 e)
 unfold markX
 rw [ho,hc.ring hj,hc.fx hj];rfl
end RF
end Go.Proofs.YtlaffgagmncgjabGreatDoor
namespace Go.Proofs.YtlaffgagmncgjabGreatDoor
open Tryz Go Go.Pat Go.Proofs
theorem walk_diag {H:List HLine} {W:List (List UInt8)} (hl:H.length=W.length) (hm:∀ i,i<W.length→mtS H W i i=true):∀ n i,i+n=W.length→wkA (H:=H) (W:=W) i i=(List.range' i n).map fun j=>(j,j):=by
 intro n
 induction n with
 | zero=>intro i hi;rw [wkA_end (by omega)];rfl
 | succ n ih =>
  intro i hi
  rw [wkA_step ⟨by omega,by omega⟩,if_pos (hm i (by omega)),ih (i+1) (by omega),List.range'_succ];rfl
theorem prs_diag {H:List HLine} {W:List (List UInt8)} (hl:H.length=W.length) (hm:∀ i,i<W.length→mtS H W i i=true) {i j:Nat}:(i,j)∈prs H W↔i=j∧j<W.length:=by
 rw [prs_eq,walk_diag hl hm W.length 0 (by omega),List.mem_map]
 constructor
 ·rintro ⟨a,ha,e⟩
  cases e
  have:=List.mem_range'_1.1 ha
  exact ⟨rfl,by omega⟩
 ·rintro ⟨rfl,h⟩
  exact ⟨i,List.mem_range'_1.2 ⟨by omega,by omega⟩,rfl⟩
theorem RC.nil_of (c:RC) (hi:Inc c.pr) (hR:c.R.length=c.W.length) (hst:∀ j,j<c.W.length→c.st j=some j) (hld:∀ j,j+1<c.W.length→c.ld j (j+1)=true):c.ch=[]:=by
 unfold RC.ch
 rw [List.append_eq_nil_iff]
 constructor
 ·unfold RC.dels
  rw [List.flatMap_eq_nil_iff]
  intro i hi'
  have h:=hst i (hR ▸ List.mem_range.1 hi')
  unfold RC.del
  rw [(atI_iff hi i i).2 ((atJ_iff hi i i).1 h)];simp
 ·unfold RC.puts
  rw [List.flatMap_eq_nil_iff]
  intro j hj
  have hj':=List.mem_range.1 hj
  unfold RC.put
  rw [hst j hj']
  cases j with
  | zero=>rfl
  | succ j=>simp [hst j (by omega),hld j hj']
theorem RC.of_nil (c:RC) (hi:Inc c.pr) (hl:∀ p∈c.pr,p.1<c.R.length∧p.2<c.W.length) (h:c.ch=[]):c.R.length=c.W.length∧(∀ j,j<c.W.length→c.st j=some j)∧∀ j,j+1<c.W.length→c.ld j (j+1)=true:=by
 unfold RC.ch at h
 rw [List.append_eq_nil_iff] at h
 unfold RC.dels RC.puts at h
 rw [List.flatMap_eq_nil_iff,List.flatMap_eq_nil_iff] at h
 have hI:∀ i,i<c.R.length→∃ j,(i,j)∈c.pr:=fun i hi'=>by
  have:=h.1 i (List.mem_range.2 hi')
  unfold RC.del at this
  cases e:atI c.pr i with
  | none=>rw [e] at this;simp at this
  | some j=>exact ⟨j,(atI_iff hi i j).1 e⟩
 have hJ:∀ j,j<c.W.length→∃ i,c.st j=some i:=fun j hj=>by
  have:=h.2 j (List.mem_range.2 hj)
  unfold RC.put at this
  cases e:c.st j with
  | none=>rw [e] at this;simp at this
  | some i=>exact ⟨i,rfl⟩
 have hp:∀ {i j i' j'},(i,j)∈c.pr→(i',j')∈c.pr→i<i'→j<j':=fun {i j i' j'} m1 m2 q=>by
  have hp:=hi
  unfold Inc at hp
  rw [List.pairwise_iff_getElem] at hp
  obtain ⟨a,ha,ea⟩:=List.mem_iff_getElem.1 m1
  obtain ⟨b,hb,eb⟩:=List.mem_iff_getElem.1 m2
  rcases Nat.lt_trichotomy a b with r | r | r
  ·have:=(hp a b ha hb r).2;rw [ea,eb] at this;exact this
  ·subst r;rw [ea] at eb;cases eb;omega
  ·have:=(hp b a hb ha r).1;rw [ea,eb] at this;dsimp only at this;omega
 have hD:∀ j,j<c.W.length→c.st j=some j:=by
  intro j
  induction j using Nat.strongRecOn with
  | ind j ih =>
   intro hj
   obtain ⟨i,e⟩:=hJ j hj
   have m:=(atJ_iff hi i j).1 e
   rcases Nat.lt_trichotomy i j with r | r | r
   ·have e':=ih i r (by omega)
    have m':=(atJ_iff hi i i).1 e'
    have:=inc_inj hi _ m _ m' (.inl rfl)
    cases this;omega
   ·subst r;exact e
   ·obtain ⟨j2,m2⟩:=hI j (by have:=(hl _ m).1;dsimp only at this;omega)
    have r2:=hp m2 m r
    have e2:=ih j2 r2 (by omega)
    have m3:=(atJ_iff hi j2 j2).1 e2
    have:=inc_inj hi _ m2 _ m3 (.inr rfl)
    cases this;omega
 refine ⟨?_,hD,fun j hj=>?_⟩
 ·rcases Nat.lt_trichotomy c.R.length c.W.length with r | r | r
  ·have:=(hl _ ((atJ_iff hi _ _).1 (hD _ r))).1;dsimp only at this;omega
  ·exact r
  ·obtain ⟨j,m⟩:=hI _ r
   have hj:=(hl _ m).2
   dsimp only at hj
   have m':=(atJ_iff hi _ _).1 (hD j hj)
   have:=inc_inj hi _ m _ m' (.inr rfl)
   cases this;omega
 ·have:=h.2 (j+1) (List.mem_range.2 hj)
  unfold RC.put at this
  rw [hD (j+1) hj] at this
  simp only [Nat.add_one_sub_one,hD j (by omega)] at this
  cases e:c.ld j (j+1)
  ·rw [e] at this;simp at this
  ·rfl
theorem RF.same {ps:List PatchD} {sd:Nat→Int} {orx:Nat→Bool} {c:RC} (k:RF ps sd orx c) (h:c.ch=[]) :
  (ordX ps sd).length=c.W.length∧∀ j,j<c.W.length→markX ps orx (nth (ordX ps sd) j)=32∧(lnX ps (nth (ordX ps sd) j)).text=c.W.getD j []:=by
 obtain ⟨h1,h2,h3⟩:=c.of_nil k.rc.inc k.rc.low h
 have hl:(ordX ps sd).length=c.W.length:=by rw [← k.len,h1]
 have hch:Chain ps c.W.length (nth (ordX ps sd)):=by
  refine ⟨fun j hj=>k.mem (h1 ▸ hj),fun n hn hd=>?_,fun a b hab hb=>?_,fun a b hab hb=>?_⟩
  ·obtain ⟨i,hi,e⟩:=List.mem_iff_getElem.1 (ordX_iff.2 ⟨hn,hd⟩:n∈ordX ps sd)
   exact ⟨i,hl ▸ hi,by simp [nth,List.getD_eq_getElem?_getD,hi,e]⟩
  ·induction b with
   | zero=>omega
   | succ b ih =>
    have hs:=h3 b hb
    rw [k.ld b (b+1) (by omega) (by omega)] at hs
    by_cases e:a=b
    ·subst e;exact hs
    ·exact onS_trans ps (k.mem (by omega)).1 (k.mem (by omega)).1 (k.mem (by omega)).1 (ih (by omega) (by omega)) hs
  ·rw [Bool.eq_false_iff]
   intro e
   have hb':b<c.R.length:=by omega
   have ha':a<c.R.length:=by omega
   have:=k.forth (h2 b hb) (h2 a (by omega)) (by rw [k.ref b hb',k.ref a ha'];exact (leadR_at k.nod (k.mem hb').1 (k.mem ha').1).2 e)
   omega
 refine ⟨hl,fun j hj=>?_⟩
 have hm:=k.may j j (h2 j hj)
 have hcl:=may_clear hm.1
 refine ⟨?_,hm.2⟩
 unfold markX
 rw [hcl.1,hcl.2,hch.fx hj];rfl
theorem wk_mt {H:List HLine} {W:List (List UInt8)}:∀ (f i j:Nat) (p:Nat × Nat),p∈wk H W f i j→mtS H W p.1 p.2=true:=by
 intro f
 induction f with
 | zero=>intro i j p hp;simp [wk] at hp
 | succ f ih =>
  intro i j p hp
  unfold wk at hp
  split at hp
  ·split at hp
   ·rename_i hm
    rcases List.mem_cons.1 hp with e | e
    ·subst e;exact hm
    ·exact ih _ _ _ e
   ·split at hp
    ·exact ih _ _ _ hp
    ·exact ih _ _ _ hp
  ·simp at hp
theorem rf_of {ps:List PatchD} (hs:Set1 ps) {sd:Nat→Int} {orx:Nat→Bool} (hn:NumX ps sd orx) {id:Nat} {W:List (List UInt8)} (h1:id<10000∧id≠0) (h2:id∉ps.map PatchD.id) (h3:W.length≤24∧∀ t∈W,t.length≤12):RF ps sd orx (xRC ps orx (ordX ps sd) id W):=by
 have hrc:=xRC_ok hs.inv (orx:=orx) (sd:=sd) h1 h2 h3
 have hR:(xRC ps orx (ordX ps sd) id W).R.length=(ordX ps sd).length:=by simp [xRC]
 refine ⟨hs,hn,hrc,hR,fun i hi=>?_,fun i j hst=>?_,fun i j hi hj=>?_⟩
 ·rw [hR] at hi
  simp [RC.ref,xRC,nth,List.getD_eq_getElem?_getD,hi]
 ·have hm:=(atJ_iff hrc.inc i j).1 hst
  have hmt:=wk_mt _ _ _ _ hm
  have hlow:=hrc.low _ hm
  rw [hR] at hlow
  unfold mtS at hmt
  have e1:(xH ps orx (ordX ps sd))[i]? = some (mayB (markX ps orx (nth (ordX ps sd) i)),(lnX ps (nth (ordX ps sd) i)).text):=by
   unfold xH
   rw [List.getElem?_map,nth_get hlow.1];rfl
  have hj:j<W.length:=hlow.2
  rw [e1,List.getElem?_eq_getElem hj] at hmt
  simp only [mtc,Bool.and_eq_true,decide_eq_true_eq] at hmt
  refine ⟨hmt.1,?_⟩
  rw [hmt.2]
  simp [xRC,List.getD_eq_getElem?_getD,hj]
 ·rw [hR] at hi hj
  show xLd ps (ordX ps sd) i j=_
  unfold xLd
  rw [nth_get hi,nth_get hj]
theorem RF.again {ps:List PatchD} {sd:Nat→Int} {orx:Nat→Bool} {c:RC} (k:RF ps sd orx c) (s':Set1 (withS (recP ps c) ps)) {sd':Nat→Int} {orx':Nat→Bool} (hn:NumX (withS (recP ps c) ps) sd' orx') (id:Nat) :
  (xRC (withS (recP ps c) ps) orx' (ordX (withS (recP ps c) ps) sd') id c.W).ch=[]:=by
 obtain ⟨h1,h2⟩:=k.shown s' hn
 have hc:=k.chain s'
 have hlen:(ordX (withS (recP ps c) ps) sd').length=c.W.length:=by rw [h1];simp
 have hnth:∀ j,j<c.W.length→nth (ordX (withS (recP ps c) ps) sd') j=RC.at ps c j:=fun j hj=>by rw [h1];simp [nth,List.getD_eq_getElem?_getD,hj]
 have hget:∀ j,j<c.W.length→(ordX (withS (recP ps c) ps) sd')[j]? = some (RC.at ps c j):=fun j hj=>by rw [← hnth j hj];exact nth_get (hlen ▸ hj)
 have hH:(xH (withS (recP ps c) ps) orx' (ordX (withS (recP ps c) ps) sd')).length=c.W.length:=by simp [xH,hlen]
 have hmt:∀ i,i<c.W.length→mtS (xH (withS (recP ps c) ps) orx' (ordX (withS (recP ps c) ps) sd')) c.W i i=true:=fun i hi=>by
  unfold mtS xH
  rw [List.getElem?_map,hget i hi,List.getElem?_eq_getElem hi]
  simp only [Option.map_some,mtc,h2 i hi,k.textAt' s' hi,Bool.and_eq_true,decide_eq_true_eq]
  exact ⟨rfl,by simp [List.getD_eq_getElem?_getD,hi]⟩
 refine RC.nil_of _ (wk_inc _ _ _) (by simp [xRC,hlen]) (fun j hj=>(atJ_iff (wk_inc _ _ _) j j).2 ((prs_diag hH hmt).2 ⟨rfl,hj⟩)) fun j hj=>?_
 have hj':j+1<c.W.length:=hj
 show xLd _ _ j (j+1)=true
 unfold xLd
 rw [hget j (by omega),hget (j+1) hj']
 exact hc.on j (j+1) (by omega) hj'
end Go.Proofs.YtlaffgagmncgjabGreatDoor
namespace Go.Proofs.YtlaffgagmncgjabGreatDoor
open Tryz Go Go.Pat Go.Proofs
theorem numAcc_val:∀ (l:List UInt8) (acc:Nat),(∀ c∈l,48≤c.toNat∧c.toNat≤57)→numAcc acc l=some (l.foldl (fun n c=>10*n+(c.toNat-48)) acc):=by
 intro l
 induction l with
 | nil=>intro acc _;rfl
 | cons c l ih =>
  intro acc h
  have hc:=h c (by simp)
  unfold numAcc
  rw [if_neg (by omega),ih _ fun x hx=>h x (List.mem_cons_of_mem _ hx)];rfl
theorem decS_pos (n:Nat):0<(decS n).length:=by
 by_cases h:n<10
 ·rw [decS_small h];simp
 ·rw [decS_big h];simp
theorem dec_head:∀ m n,n≤m→0<n→(decS n)[0]? ≠ some 48:=by
 intro m
 induction m with
 | zero=>intro n h h0;omega
 | succ m ih =>
  intro n h h0
  by_cases h1:n<10
  ·rw [decS_small h1]
   intro e
   simp only [List.getElem?_cons_zero,Option.some.injEq] at e
   have:=congrArg UInt8.toNat e
   rw [UInt8.toNat_ofNat'] at this
   simp at this;omega
  ·rw [decS_big h1,List.getElem?_append_left (decS_pos _)]
   exact ih (n / 10) (by omega) (by omega)
theorem number_of_dec {n:Nat} (h:n<10000):numberS (decS n)=some n:=by
 obtain ⟨hv,hd⟩:=dec_val n n (Nat.le_refl _)
 have hl:=decS_len 3 n (by omega)
 have hp:=decS_pos n
 unfold numberS
 rw [if_neg,numAcc_val _ _ hd]
 ·exact congrArg some hv
 ·rintro (e | e | ⟨e1,e2⟩)
  ·omega
  ·omega
  ·by_cases h0:n=0
   ·subst h0;simp [decS_small] at e1
   ·exact dec_head n n (Nat.le_refl _) (by omega) e2
theorem name_of_dec {n:Nat} (h:n<10000) (h0:n≠0):nameS (decS n)=some n:=by
 unfold nameS
 rw [number_of_dec h]
 simp [h0]
theorem dec_not {n:Nat} {c:UInt8} (hc:c.toNat<48∨57<c.toNat):c∉decS n:=fun h=>by
 have:=(dec_val n n (Nat.le_refl _)).2 c h
 omega
theorem line_of_ref {r:RefD} (hr:RefD.ok r) (h0:r.p≠0) {edge:List UInt8} (he:edge=[]∨edge=[94]∨edge=[36]):lineS (refS r) edge=some r:=by
 have e:refS r=decS r.p++46::decS r.i:=by unfold refS;rw [if_pos (by omega)];simp
 have hne:¬ (edge≠[]∧refS r=edge):=by
  rintro ⟨h1,h2⟩
  have hm:(46:UInt8)∈edge:=by rw [← h2,e];simp
  rcases he with q | q | q<;>subst q<;>simp at hm
 unfold lineS
 rw [if_neg hne,e,splitL_app _ (dec_not (by decide)),splitL_not (dec_not (by decide))]
 simp only [number_of_dec hr.1,number_of_dec hr.2.1]
 rw [if_pos (by omega)]
theorem ref_not {r:RefD} {c:UInt8} (hc:c=10∨c=32):c∉refS r:=by
 unfold refS
 have h1:c∉decS r.p:=dec_not (by rcases hc with e | e<;>subst e<;>decide)
 have h2:c∉decS r.i:=dec_not (by rcases hc with e | e<;>subst e<;>decide)
 have h3:c≠46∧c≠94∧c≠36:=by rcases hc with e | e<;>subst e<;>decide
 split
 ·simp [h1,h2,h3]
 ·split<;>simp [h3]
structure ChW (c:ChangeD):Prop where
 up:RefD.ok c.up
 down:RefD.ok c.down
 kind:(c.kind=1∧(c.up.p≠0∨c.up=⟨0,0⟩)∧(c.down.p≠0∨c.down=⟨0,1⟩)∧textOk c.text=true)∨(c.kind=2∧c.up.p≠0∧c.down=⟨0,0⟩∧c.text=[])∨(c.kind=3∧c.up.p≠0∧c.down.p≠0∧c.text=[])
def chB (c:ChangeD):List UInt8 :=
 if c.kind=1 then [97,100,100,32]++(refS c.up++32::(refS c.down++32::c.text))
 else if c.kind=2 then [100,101,108,32]++refS c.up
 else [116,105,101,32]++(refS c.up++32::refS c.down)
theorem chS_chB (c:ChangeD):chS c=chB c++[10]:=by
 unfold chS chB
 split
 ·simp
 ·split<;>simp
theorem textOk_not {t:List UInt8} (h:textOk t=true):(10:UInt8)∉t:=fun hm=>by
 unfold textOk at h
 rw [Bool.and_eq_true,List.all_eq_true] at h
 have:=h.2 10 hm
 simp at this
theorem chB_not {c:ChangeD} (h:ChW c):(10:UInt8)∉chB c:=by
 have h1:=ref_not (r:=c.up) (c:=10) (.inl rfl)
 have h2:=ref_not (r:=c.down) (c:=10) (.inl rfl)
 unfold chB
 rcases h.kind with ⟨e,_,_,ht⟩ | ⟨e,_⟩ | ⟨e,_⟩
 ·rw [if_pos e]
  have:=textOk_not ht
  simp [h1,h2,this]
 ·rw [if_neg (by omega),if_pos e]
  simp [h1]
 ·rw [if_neg (by omega),if_neg (by omega)]
  simp [h1,h2]
theorem change_of {c:ChangeD} (h:ChW c):changeS (chB c)=some c:=by
 rw [changeS_iff]
 have eup:∀ {r:RefD},RefD.ok r→(r.p≠0∨r=⟨0,0⟩)→lineS (refS r) [94]=some r:=fun {r} hr hd=>by
  rcases hd with e | e
  ·exact line_of_ref hr e (.inr (.inl rfl))
  ·subst e;rfl
 have edn:∀ {r:RefD},RefD.ok r→(r.p≠0∨r=⟨0,1⟩)→lineS (refS r) [36]=some r:=fun {r} hr hd=>by
  rcases hd with e | e
  ·exact line_of_ref hr e (.inr (.inr rfl))
  ·subst e;rfl
 obtain ⟨kd,up,dn,tx⟩:=c
 rcases h.kind with ⟨e,h1,h2,ht⟩ | ⟨e,h1,h2,ht⟩ | ⟨e,h1,h2,ht⟩
 ·left
  dsimp only at e h1 h2 ht
  subst e
  exact ⟨refS up,refS dn,tx,up,dn,rfl,eup h.up h1,edn h.down h2,ht,rfl⟩
 ·right;left
  dsimp only at e h1 h2 ht
  subst e h2 ht
  exact ⟨refS up,up,rfl,line_of_ref h.up h1 (.inl rfl),rfl⟩
 ·right;right
  dsimp only at e h1 h2 ht
  subst e ht
  exact ⟨refS up,refS dn,up,dn,rfl,line_of_ref h.up h1 (.inl rfl),line_of_ref h.down h2 (.inl rfl),rfl⟩
theorem allSome_of {α β:Type} {f:α→Option β} {g:β→α}:∀ {l:List β},(∀ b∈l,f (g b)=some b)→allSome f (l.map g)=some l:=by
 intro l
 induction l with
 | nil=>intro _;rfl
 | cons b l ih =>
  intro h
  rw [List.map_cons,allSome,h b (by simp),ih fun x hx=>h x (List.mem_cons_of_mem _ hx)]
theorem refS_9 {r:RefD} (h:RefD.ok r):(refS r).length≤9:=by
 have h1:=decS_len 3 r.p (by have:=h.1;omega)
 have h2:=decS_len 3 r.i (by have:=h.2.1;omega)
 unfold refS
 split
 ·simp;omega
 ·split<;>simp
theorem chS_37 {c:ChangeD} (h:ChangeD.ok c):(chS c).length≤37:=by
 have h1:=refS_9 h.up
 have h2:=refS_9 h.down
 have h3:=h.text
 unfold chS
 split
 ·simp;omega
 ·split
  ·simp;omega
  ·simp;omega
theorem flat_le {α:Type} {f:α→List UInt8} {s:Nat}:∀ {l:List α},(∀ a∈l,(f a).length≤s)→(l.flatMap f).length≤l.length*s:=by
 intro l
 induction l with
 | nil=>intro _;simp
 | cons a l ih =>
  intro h
  have h1:=h a (by simp)
  have h2:=ih fun x hx=>h x (List.mem_cons_of_mem _ hx)
  rw [List.flatMap_cons,List.length_append,List.length_cons,Nat.succ_mul];omega
theorem text_14 {p:PatchD} (h:PatchD.ok p):(textS p).length≤1400:=by
 have h1:=decS_len 3 p.id (by have:=h.id;omega)
 have h2:(needsS p.needs).length≤p.needs.length*5:=flat_le fun n hn=>by
  have:=decS_len 3 n (by have:=h.needs n hn;omega)
  simp;omega
 have h3:(p.changes.flatMap chS).length≤p.changes.length*37:=flat_le fun c hc=>chS_37 (h.changes c hc)
 have h4:=h.len
 have h5:=h.nlen
 unfold textS headS
 simp only [List.length_append,List.length_cons,List.length_nil]
 omega
theorem parse_built {p:PatchD} (h:PatchD.ok p) (hid:p.id≠0) (hn:∀ n∈p.needs,n≠0) (hc:∀ c∈p.changes,ChW c) (hl:1≤p.changes.length):parseS (textS p)=some p:=by
 rw [parseS_iff]
 refine ⟨text_14 h,decS p.id,p.needs.map decS,p.changes.map chB,?_,name_of_dec h.id hid,by simp [h.nlen],allSome_of fun n hm=>name_of_dec (h.needs n hm) (hn n hm),by simpa using hl,by simp [h.len],fun s hs=>?_,allSome_of fun c hm=>change_of (hc c hm)⟩
 ·have e1:needsS p.needs=(p.needs.map decS).flatMap (32 :: ·):=by simp [needsS,List.flatMap_map]
  have e2:p.changes.flatMap chS=(p.changes.map chB).flatMap (· ++ [10]):=by
   rw [List.flatMap_map]
   congr 1
   funext c
   exact chS_chB c
  unfold textS headS
  rw [e1,e2]
  simp
 ·obtain ⟨c,hm,rfl⟩:=List.mem_map.1 hs
  exact chB_not (hc c hm)
theorem RC.ch_at (c:RC) (n:Nat):∀ m k,k<(c.dels n++c.puts m).length→(∃ i,i<n∧(c.dels n++c.puts m)[k]? = some ⟨2,c.ref i,⟨0,0⟩,[]⟩)∨∃ j,j<m∧(c.dels n++c.puts m).take k=c.dels n++c.puts j∧∃ d,(c.dels n++c.puts m)[k]? = some d∧c.put j=[d]:=by
 intro m
 induction m with
 | zero =>
  intro k hk
  left
  have e:c.puts 0=[]:=rfl
  rw [e,List.append_nil] at hk ⊢
  have hm:=List.getElem_mem hk
  obtain ⟨i,hi,h⟩:=List.mem_flatMap.1 hm
  unfold RC.del at h
  split at h
  ·simp only [List.mem_singleton] at h
   exact ⟨i,List.mem_range.1 hi,by rw [List.getElem?_eq_getElem hk,h]⟩
  ·simp at h
 | succ m ih =>
  intro k hk
  rw [c.puts_succ,← List.append_assoc] at hk ⊢
  have hp:=c.put_len m
  rw [List.length_append] at hk
  by_cases h:k<(c.dels n++c.puts m).length
  ·rw [List.getElem?_append_left h,List.take_append_of_le_length (by omega)]
   rcases ih k h with ⟨i,hi,e⟩ | ⟨j,hj,e⟩
   ·exact .inl ⟨i,hi,e⟩
   ·exact .inr ⟨j,by omega,e⟩
  ·have hk':k=(c.dels n++c.puts m).length:=by omega
   right
   refine ⟨m,by omega,by rw [hk',List.take_left'] ;rfl,?_⟩
   rw [hk',List.getElem?_append_right (Nat.le_refl _),Nat.sub_self]
   match hq:c.put m,hp with
   | [],_=>rw [hq,List.length_nil] at hk;omega
   | [d],_=>exact ⟨d,rfl,rfl⟩
   | _::_::_,hp=>simp at hp
namespace RF
variable {ps:List PatchD} {sd:Nat→Int} {orx:Nat→Bool} {c:RC} (k:RF ps sd orx c)
include k
omit k in
theorem nmOwn (_:RF ps sd orx c) {j:Nat} (h:c.st j=none) (own:Nat) (ho:c.own j<own):speakS (recP ps c) (c.nm j) own=true:=by
 unfold speakS
 rw [c.nm_none h]
 simp [recP,ho]
theorem refNd {i:Nat} (hi:i<c.R.length) {d:ChangeD} (hd:d∈c.ch) (hu:d.up=c.ref i∨d.down=c.ref i) (own:Nat):speakS (recP ps c) (c.ref i) own=true:=by
 have h1:=(k.rc.refOk hi).2
 obtain ⟨q,hq,e⟩:=List.mem_map.1 h1
 unfold speakS
 rw [if_neg (show ¬ (c.ref i).p=(recP ps c).id from k.idIn hi)]
 simp only [Bool.or_eq_true,decide_eq_true_eq,List.contains_eq_mem]
 right
 refine List.mem_map.2 ⟨q,List.mem_filter.2 ⟨hq,List.any_eq_true.2 ⟨d,hd,?_⟩⟩,e⟩
 rcases hu with u | u<;>simp [u,e]
theorem chw (hW:∀ t∈c.W,textOk t=true) {d:ChangeD} (hd:d∈c.ch):ChW d:=by
 have hok:=(k.rc.chOk hd).1
 have r0:∀ i,i<c.R.length→(c.ref i).p≠0:=fun i hi=>k.set.inv.id0 (k.rc.refOk hi).2
 have n0:∀ j,(c.nm j).p≠0:=fun j=>by
  cases hs:c.st j with
  | none=>rw [c.nm_none hs];exact k.rc.id.2
  | some i=>rw [c.nm_some hs];exact r0 i (k.stR hs).1
 refine ⟨hok.up,hok.down,?_⟩
 rcases List.mem_append.1 hd with h | h
 ·obtain ⟨i,hi,h⟩:=List.mem_flatMap.1 h
  unfold RC.del at h
  split at h
  ·simp only [List.mem_singleton] at h
   subst h
   exact .inr (.inl ⟨rfl,r0 i (List.mem_range.1 hi),rfl,rfl⟩)
  ·simp at h
 ·obtain ⟨j,hj,h⟩:=List.mem_flatMap.1 h
  have hj':=List.mem_range.1 hj
  unfold RC.put at h
  split at h
  ·simp only [List.mem_singleton] at h
   subst h
   refine .inl ⟨rfl,?_,?_,hW _ (by simp [List.getD_eq_getElem?_getD,hj'])⟩
   ·cases j with
    | zero=>exact .inr rfl
    | succ j=>exact .inl (by dsimp only;rw [c.up_succ];exact n0 j)
   ·rcases c.dn_cases j with e | ⟨n,_,_,_,_,e⟩
    ·exact .inr e
    ·exact .inl (by dsimp only;rw [e];exact n0 n)
  ·rename_i i e
   split at h
   ·simp at h
   ·split at h
    ·simp at h
    ·rename_i i' e'
     split at h
     ·simp at h
     ·simp only [List.mem_singleton] at h
      subst h
      exact .inr (.inr ⟨rfl,r0 _ (k.stR e').1,r0 _ (k.stR e).1,rfl⟩)
theorem ok (hl:c.ch.length≤30):PatchD.ok (recP ps c):=k.rc.pOk k.set.inv hl
theorem formed (_:c.ch.length≤30):formedS (recP ps c)=true:=by
 have hd:∀ d∈(recP ps c).changes,d.kind=2→d.down.p=0:=fun d hd hk=>(k.rc.chOk hd).2.del hk
 rw [← wellS_eq hd]
 have hsort:(recP ps c).needs.Pairwise (· < ·):=List.Pairwise.sublist (List.filter_sublist.map PatchD.id) k.set.inv.rise
 have hid:(recP ps c).id∉(recP ps c).needs:=fun h=>by
  obtain ⟨q,hq,e⟩:=List.mem_map.1 h
  exact k.rc.out (List.mem_map.2 ⟨q,(List.mem_filter.1 hq).1,e⟩)
 unfold wellS
 rw [Bool.and_eq_true,Bool.and_eq_true]
 refine ⟨⟨?_,by simpa using hid⟩,?_⟩
 ·unfold riseS
  rw [List.all_eq_true]
  intro i hi
  have hi':=List.mem_range.1 hi
  simp only [Bool.or_eq_true,decide_eq_true_eq]
  cases i with
  | zero=>exact .inl rfl
  | succ i =>
   right
   rw [List.pairwise_iff_getElem] at hsort
   have:=hsort i (i+1) (by omega) hi' (by omega)
   simpa [List.getD_eq_getElem?_getD,hi',show i<(recP ps c).needs.length by omega] using this
 ·rw [List.all_eq_true]
  intro q hq
  have hq':q<c.ch.length:=List.mem_range.1 hq
  unfold chFormAt
  have hch:(recP ps c).changes=c.dels c.R.length++c.puts c.W.length:=rfl
  rcases c.ch_at c.R.length c.W.length q hq' with ⟨i,hi,e⟩ | ⟨j,hj,ht,d,e,hp⟩
  ·rw [hch,e]
   have hm:(⟨2,c.ref i,⟨0,0⟩,[]⟩:ChangeD)∈c.ch:=List.mem_of_getElem? e
   dsimp only
   unfold chFormS
   dsimp only
   rw [k.refNd hi hm (.inl rfl)]
   have:=k.idIn hi
   simp [speakS,recP,this]
  ·rw [hch,e,ht]
   have hm:d∈c.ch:=List.mem_of_getElem? e
   dsimp only
   rw [(c.put_lines _ _).1]
   unfold RC.put at hp
   split at hp
   ·rename_i hn
    simp only [List.cons.injEq,and_true] at hp
    subst hp
    unfold chFormS
    dsimp only
    have h1:speakS (recP ps c) (c.up j) (c.own j)=true:=by
     cases j with
     | zero=>simp [RC.up,speakS]
     | succ j =>
      rw [c.up_succ]
      cases hs:c.st j with
      | none=>exact k.nmOwn hs _ (c.own_lt (by omega) hs)
      | some i=>rw [c.nm_some hs];exact k.refNd (k.stR hs).1 hm (.inl (by dsimp only;rw [c.up_succ,c.nm_some hs])) _
    have h2:speakS (recP ps c) (c.dn j) (c.own j)=true:=by
     rcases c.dn_cases j with e | ⟨n,i,_,_,hs,e⟩
     ·rw [e];simp [speakS]
     ·rw [e,c.nm_some hs];exact k.refNd (k.stR hs).1 hm (.inr (by dsimp only;rw [e,c.nm_some hs])) _
    rw [h1,h2];rfl
   ·rename_i i hs
    split at hp
    ·simp at hp
    ·split at hp
     ·simp at hp
     ·rename_i i' hs'
      split at hp
      ·simp at hp
      ·simp only [List.cons.injEq,and_true] at hp
       subst hp
       unfold chFormS
       dsimp only
       rw [k.refNd (k.stR hs').1 hm (.inl rfl),k.refNd (k.stR hs).1 hm (.inr rfl)]
       have hne:RefD.eqb (c.ref i') (c.ref i)=false:=by
        rw [Bool.eq_false_iff]
        intro e
        have e':=k.inj (k.stR hs').1 (k.stR hs).1 (eqb_iff.1 e)
        have:=(k.stp hs' hs).2.1 e'
        rename_i hz _
        omega
       rw [hne];rfl
theorem lins {d:ChangeD} (hd:d∈c.ch):has2 (ps++[recP ps c]) d.up∧(d.kind=2∨has2 (ps++[recP ps c]) d.down):=by
 have r1:∀ i,i<c.R.length→has2 (ps++[recP ps c]) (c.ref i):=fun i hi=>by
  obtain ⟨q,hq,e⟩:=mem_linesS.1 (k.refLn hi)
  exact .inr ⟨q,List.mem_append.2 (.inl hq),e⟩
 have n1:∀ j,j<c.W.length→has2 (ps++[recP ps c]) (c.nm j):=fun j hj=>by
  cases hs:c.st j with
  | some i=>rw [c.nm_some hs];exact r1 i (k.stR hs).1
  | none =>
   refine .inr ⟨recP ps c,by simp,by rw [c.nm_none hs];rfl,?_⟩
   rw [c.nm_none hs]
   show c.own j<ownN c.ch
   unfold RC.ch
   rw [(c.put_lines _ _).1]
   exact c.own_lt hj hs
 rcases List.mem_append.1 hd with h | h
 ·obtain ⟨i,hi,h⟩:=List.mem_flatMap.1 h
  unfold RC.del at h
  split at h
  ·simp only [List.mem_singleton] at h
   subst h
   exact ⟨r1 i (List.mem_range.1 hi),.inl rfl⟩
  ·simp at h
 ·obtain ⟨j,hj,h⟩:=List.mem_flatMap.1 h
  have hj':=List.mem_range.1 hj
  unfold RC.put at h
  split at h
  ·simp only [List.mem_singleton] at h
   subst h
   refine ⟨?_,.inr ?_⟩
   ·cases j with
    | zero=>exact .inl rfl
    | succ j=>dsimp only;rw [c.up_succ];exact n1 j (by omega)
   ·rcases c.dn_cases j with e | ⟨n,_,_,hn,_,e⟩
    ·exact .inl (by dsimp only;rw [e])
    ·dsimp only;rw [e];exact n1 n hn
  ·rename_i i e
   split at h
   ·simp at h
   ·split at h
    ·simp at h
    ·rename_i i' e'
     split at h
     ·simp at h
     ·simp only [List.mem_singleton] at h
      subst h
      exact ⟨r1 _ (k.stR e').1,.inr (r1 _ (k.stR e).1)⟩
theorem taken (hW:∀ t∈c.W,textOk t=true) (h1:c.ch.length≠0) (h30:c.ch.length≤30) :
  Lets ps (textS (recP ps c)) (recP ps c)∨applyS ps (textS (recP ps c))=(7,ps):=by
 have hp:parseS (textS (recP ps c))=some (recP ps c):=parse_built (k.ok h30) k.rc.id.2 (fun n hn=>by
  obtain ⟨q,hq,rfl⟩:=List.mem_map.1 hn
  exact k.set.inv.id0 (List.mem_map.2 ⟨q,(List.mem_filter.1 hq).1,rfl⟩)) (fun d hd=>k.chw hW hd) (by show 1≤c.ch.length;omega)
 have hnd:∀ n∈(recP ps c).needs,n∈ps.map PatchD.id:=fun n hn=>by
  obtain ⟨q,hq,rfl⟩:=List.mem_map.1 hn
  exact List.mem_map.2 ⟨q,(List.mem_filter.1 hq).1,rfl⟩
 by_cases hfit:ps.length<20∧(linesS (ps++[recP ps c])).length≤90
 ·exact .inl ⟨hp,k.formed h30,k.rc.out,hnd,fun d hd=>k.lins hd,hfit.1,hfit.2⟩
 ·right
  have h1:ps.find? (fun q=>decide (q.id=(recP ps c).id))=none:=by
   rw [List.find?_eq_none]
   intro q hq
   simp only [decide_eq_true_eq]
   intro e
   exact k.rc.out (List.mem_map.2 ⟨q,hq,e⟩)
  have h2:((recP ps c).needs.all fun n=>(ps.map PatchD.id).contains n)=true:=List.all_eq_true.2 fun n hn=>by simpa using hnd n hn
  have h3:(recP ps c).changes.any (lineBad (linesS ps++linesOfS (recP ps c)))=false:=by
   rw [List.any_eq_false]
   intro d hd
   rw [lines_snoc,Bool.not_eq_true]
   exact lineBad_iff.2 (k.lins hd)
  unfold applyS
  rw [hp]
  simp only [k.formed h30,h1,h2,h3,Bool.true_eq_false,Bool.false_eq_true,if_false]
  rw [if_pos]
  rw [lines_snoc];omega
end RF
end Go.Proofs.YtlaffgagmncgjabGreatDoor
