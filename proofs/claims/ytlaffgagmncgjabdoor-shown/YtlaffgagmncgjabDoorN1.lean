import Derived.Test.YtlaffgagmncgjabDoorK1
import Derived.Test.YtlaffgagmncgjabDoorR1
namespace Go.Proofs.YtlaffgagmncgjabDoor
open Go Go.Pat Go.Proofs
theorem thrK_mono {n:Nat} {m:List (List Bool)} (sq:Square n m):∀ t,t≤n→∀ a b,a<n→b<n→getB m a b=true→getB (thrK n (List.range t) m) a b=true:=by
 intro t
 induction t with
 | zero=>intro _ a b _ _ h;simpa [thrK] using h
 | succ t ih =>
  intro ht a b ha hb h
  rw [thrK_succ,thrI_get (thrK_sq _ sq) (by omega) n (Nat.le_refl _) a b hb,if_pos ha,ih (by omega) a b ha hb h];rfl
theorem thrK_least {n:Nat} {m:List (List Bool)} (sq:Square n m) {R:Nat→Nat→Prop} (h0:∀ a b,a<n→b<n→getB m a b=true→R a b) (tr:∀ a b c,a<n→b<n→c<n→R a b→R b c→R a c) :
  ∀ t,t≤n→∀ a b,a<n→b<n→getB (thrK n (List.range t) m) a b=true→R a b:=by
 intro t
 induction t with
 | zero=>intro _ a b ha hb h;exact h0 a b ha hb (by simpa [thrK] using h)
 | succ t ih =>
  intro ht a b ha hb h
  rw [thrK_succ,thrI_get (thrK_sq _ sq) (by omega) n (Nat.le_refl _) a b hb,if_pos ha] at h
  simp only [Bool.or_eq_true,Bool.and_eq_true] at h
  have ih':=ih (by omega)
  rcases h with h | ⟨h1,h2⟩
  ·exact ih' a b ha hb h
  ·exact tr a t b ha (by omega) hb (ih' a t ha (by omega) h1) (ih' t b (by omega) hb h2)
def At (all:List LineD) (r:RefD) (i:Nat):Prop:=placeS all r=some i
theorem At.lt {all:List LineD} {r:RefD} {i:Nat} (h:At all r i):i<all.length:=by
 unfold At placeS at h
 exact (List.findIdx?_eq_some_iff_getElem.1 h).1
theorem sayS_get {all:List LineD} {a b:RefD} {n:Nat} {m:List (List Bool)} (sq:Square n m) (hn:all.length=n) (i j:Nat):getB (sayS all a b m) i j=true↔getB m i j=true∨(At all a i∧At all b j):=by
 unfold sayS
 split
 ·rename_i x y hx hy
  have h1:x<n:=hn ▸ At.lt hx
  have h2:y<n:=hn ▸ At.lt hy
  rw [getB_setB sq _ h1 h2]
  unfold At
  rw [hx,hy]
  by_cases e:i=x∧j=y
  ·rw [if_pos e,e.1,e.2];simp
  ·rw [if_neg e]
   constructor
   ·exact .inl
   ·rintro (h | ⟨h,h'⟩)
    ·exact h
    ·cases h;cases h';exact absurd ⟨rfl,rfl⟩ e
 ·rename_i hno
  constructor
  ·exact .inl
  ·rintro (h | ⟨h,h'⟩)
   ·exact h
   ·exact (hno i j h h').elim
def SayL (all:List LineD) (x:LineD) (i j:Nat):Prop:=(At all x.up i∧At all x.ref j)∨(At all x.ref i∧At all x.down j)
theorem saidL_get {all:List LineD} {n:Nat} (hn:all.length=n):∀ (l:List LineD) {m:List (List Bool)},Square n m→∀ i j,getB (saidL all l m) i j=true↔getB m i j=true∨∃ x∈l,SayL all x i j:=by
 intro l
 induction l with
 | nil=>intro m sq i j;simp [saidL]
 | cons a l ih =>
  intro m sq i j
  have e:saidL all (a::l) m=saidL all l (sayS all a.ref a.down (sayS all a.up a.ref m)):=rfl
  rw [e,ih (sayS_sq (sayS_sq sq)),sayS_get (sayS_sq sq) hn,sayS_get sq hn]
  constructor
  ·rintro (((h | h) | h) | ⟨x,hx,h⟩)
   ·exact .inl h
   ·exact .inr ⟨a,by simp,.inl h⟩
   ·exact .inr ⟨a,by simp,.inr h⟩
   ·exact .inr ⟨x,List.mem_cons_of_mem _ hx,h⟩
  ·rintro (h | ⟨x,hx,h⟩)
   ·exact .inl (.inl (.inl h))
   ·rcases List.mem_cons.1 hx with e | e
    ·subst e
     rcases h with h | h
     ·exact .inl (.inl (.inr h))
     ·exact .inl (.inr h)
    ·exact .inr ⟨x,e,h⟩
theorem saidC_get {all:List LineD} {n:Nat} (hn:all.length=n):∀ (l:List ChangeD) {m:List (List Bool)},Square n m→∀ i j,getB (saidC all l m) i j=true↔getB m i j=true∨∃ c∈l,c.kind=3∧At all c.up i∧At all c.down j:=by
 intro l
 induction l with
 | nil=>intro m sq i j;simp [saidC]
 | cons a l ih =>
  intro m sq i j
  have e:saidC all (a::l) m=saidC all l (if a.kind=3 then sayS all a.up a.down m else m):=rfl
  rw [e]
  by_cases hk:a.kind=3
  ·rw [if_pos hk,ih (sayS_sq sq),sayS_get sq hn]
   constructor
   ·rintro ((h | h) | ⟨x,hx,h⟩)
    ·exact .inl h
    ·exact .inr ⟨a,by simp,hk,h⟩
    ·exact .inr ⟨x,List.mem_cons_of_mem _ hx,h⟩
   ·rintro (h | ⟨x,hx,h⟩)
    ·exact .inl (.inl h)
    ·rcases List.mem_cons.1 hx with e | e
     ·subst e;exact .inl (.inr h.2)
     ·exact .inr ⟨x,e,h⟩
  ·rw [if_neg hk,ih sq]
   constructor
   ·rintro (h | ⟨x,hx,h⟩)
    ·exact .inl h
    ·exact .inr ⟨x,List.mem_cons_of_mem _ hx,h⟩
   ·rintro (h | ⟨x,hx,h⟩)
    ·exact .inl h
    ·rcases List.mem_cons.1 hx with e | e
     ·subst e;exact absurd h.1 hk
     ·exact .inr ⟨x,e,h⟩
theorem saidP_get {all:List LineD} {n:Nat} (hn:all.length=n):∀ (l:List PatchD) {m:List (List Bool)},Square n m→∀ i j,getB (saidP all l m) i j=true↔getB m i j=true∨∃ p∈l,∃ c∈p.changes,c.kind=3∧At all c.up i∧At all c.down j:=by
 intro l
 induction l with
 | nil=>intro m sq i j;simp [saidP]
 | cons a l ih =>
  intro m sq i j
  have e:saidP all (a::l) m=saidP all l (saidC all a.changes m):=rfl
  rw [e,ih (saidC_sq _ sq),saidC_get hn _ sq]
  constructor
  ·rintro ((h | h) | ⟨x,hx,h⟩)
   ·exact .inl h
   ·exact .inr ⟨a,by simp,h⟩
   ·exact .inr ⟨x,List.mem_cons_of_mem _ hx,h⟩
  ·rintro (h | ⟨x,hx,h⟩)
   ·exact .inl (.inl h)
   ·rcases List.mem_cons.1 hx with e | e
    ·subst e;exact .inl (.inr h)
    ·exact .inr ⟨x,e,h⟩
theorem zeros_get (n i j:Nat):getB (zeros n) i j=false:=by
 unfold getB zeros
 rw [List.getD_eq_getElem?_getD,List.getD_eq_getElem?_getD,List.getElem?_replicate]
 split
 ·simp only [Option.getD_some,List.getElem?_replicate]
  split<;>rfl
 ·rfl
theorem said0_get (ps:List PatchD) (i j:Nat):getB (said0 ps) i j=true↔(∃ x∈linesS ps,SayL (linesS ps) x i j)∨∃ p∈ps,∃ c∈p.changes,c.kind=3∧At (linesS ps) c.up i∧At (linesS ps) c.down j:=by
 unfold said0
 rw [saidP_get rfl _ (saidL_sq _ (zeros_sq _)),saidL_get rfl _ (zeros_sq _),zeros_get]
 simp
theorem at_iff {ps:List PatchD} (h:(ps.map PatchD.id).Nodup) {r:RefD} {i:Nat}:At (linesS ps) r i↔i<nX ps∧(lnX ps i).ref=r:=place_iff h
def IsLn (ps:List PatchD) (r:RefD):Prop:=∃ l∈linesS ps,l.ref=r
def Said (ps:List PatchD) (a b:RefD):Prop:=(∃ x∈linesS ps,(x.up=a∧x.ref=b)∨(x.ref=a∧x.down=b))∨∃ p∈ps,∃ c∈p.changes,c.kind=3∧c.up=a∧c.down=b
def LeadR (ps:List PatchD) (a b:RefD):Prop:=∃ i j,i<nX ps∧j<nX ps∧(lnX ps i).ref=a∧(lnX ps j).ref=b∧getB (onS ps) i j=true
theorem isLn_ex {ps:List PatchD} {r:RefD} (h:IsLn ps r):∃ i,i<nX ps∧(lnX ps i).ref=r:=by
 obtain ⟨l,hl,rfl⟩:=h
 obtain ⟨i,hi,rfl⟩:=List.mem_iff_getElem.1 hl
 refine ⟨i,hi,?_⟩
 have:=lnX_get (ps:=ps) hi
 rw [List.getElem?_eq_getElem hi] at this
 rw [Option.some.inj this]
theorem isLn_at {ps:List PatchD} {i:Nat} (h:i<nX ps):IsLn ps (lnX ps i).ref:=⟨_,List.mem_of_getElem? (lnX_get h),rfl⟩
section
variable {ps:List PatchD}
theorem leadR_at (h:(ps.map PatchD.id).Nodup) {i j:Nat} (hi:i<nX ps) (hj:j<nX ps):LeadR ps (lnX ps i).ref (lnX ps j).ref↔getB (onS ps) i j=true:=by
 constructor
 ·rintro ⟨a,b,ha,hb,e1,e2,e⟩
  rw [ref_at h ha hi e1,ref_at h hb hj e2] at e
  exact e
 ·intro e
  exact ⟨i,j,hi,hj,rfl,rfl,e⟩
theorem LeadR.left {a b:RefD} (x:LeadR ps a b):IsLn ps a:=by
 obtain ⟨i,j,hi,hj,rfl,rfl,_⟩:=x
 exact isLn_at hi
theorem LeadR.right {a b:RefD} (x:LeadR ps a b):IsLn ps b:=by
 obtain ⟨i,j,hi,hj,rfl,rfl,_⟩:=x
 exact isLn_at hj
theorem LeadR.trans (h:(ps.map PatchD.id).Nodup) {a b c:RefD} (x:LeadR ps a b) (y:LeadR ps b c):LeadR ps a c:=by
 obtain ⟨i,j,hi,hj,rfl,rfl,e⟩:=x
 obtain ⟨j',k,hj',hk,e',rfl,f⟩:=y
 rw [ref_at h hj' hj e'] at f
 exact ⟨i,k,hi,hk,rfl,rfl,onS_trans ps hi hj hk e f⟩
theorem LeadR.said (h:(ps.map PatchD.id).Nodup) {a b:RefD} (ha:IsLn ps a) (hb:IsLn ps b) (hs:Said ps a b):LeadR ps a b:=by
 obtain ⟨i,hi,rfl⟩:=isLn_ex ha
 obtain ⟨j,hj,rfl⟩:=isLn_ex hb
 refine ⟨i,j,hi,hj,rfl,rfl,?_⟩
 rw [onS_eq]
 refine thrK_mono (said0_sq ps) _ (Nat.le_refl _) i j hi hj ((said0_get ps i j).2 ?_)
 unfold SayL
 simp only [at_iff h]
 rcases hs with ⟨x,hx,hs⟩ | ⟨p,hp,c,hc,hk,e1,e2⟩
 ·refine .inl ⟨x,hx,?_⟩
  rcases hs with ⟨e1,e2⟩ | ⟨e1,e2⟩
  ·exact .inl ⟨⟨hi,e1.symm⟩,⟨hj,e2.symm⟩⟩
  ·exact .inr ⟨⟨hi,e1.symm⟩,⟨hj,e2.symm⟩⟩
 ·exact .inr ⟨p,hp,c,hc,hk,⟨hi,e1.symm⟩,⟨hj,e2.symm⟩⟩
theorem LeadR.least (h:(ps.map PatchD.id).Nodup) {R:RefD→RefD→Prop} (tr:∀ a b c,IsLn ps a→IsLn ps b→IsLn ps c→R a b→R b c→R a c) (hs:∀ a b,IsLn ps a→IsLn ps b→Said ps a b→R a b) {a b:RefD} (x:LeadR ps a b):R a b:=by
 obtain ⟨i,j,hi,hj,rfl,rfl,e⟩:=x
 rw [onS_eq] at e
 refine thrK_least (R:=fun i j=>R (lnX ps i).ref (lnX ps j).ref) (said0_sq ps) (fun i j hi hj e=>hs _ _ (isLn_at hi) (isLn_at hj) ?_) (fun a b c ha hb hc=>tr _ _ _ (isLn_at ha) (isLn_at hb) (isLn_at hc)) _ (Nat.le_refl _) i j hi hj e
 rw [said0_get] at e
 unfold SayL at e
 simp only [at_iff h] at e
 rcases e with ⟨x,hx,⟨⟨_,e1⟩,_,e2⟩ | ⟨⟨_,e1⟩,_,e2⟩⟩ | ⟨p,hp,c,hc,hk,⟨_,e1⟩,_,e2⟩
 ·exact .inl ⟨x,hx,.inl ⟨e1.symm,e2.symm⟩⟩
 ·exact .inl ⟨x,hx,.inr ⟨e1.symm,e2.symm⟩⟩
 ·exact .inr ⟨p,hp,c,hc,hk,e1.symm,e2.symm⟩
end
theorem insW_mem {fst:Nat→Nat→Bool} {i x:Nat} {out:List Nat}:x∈insW fst i out↔x=i∨x∈out:=by
 unfold insW
 rw [List.mem_append,List.mem_cons]
 have:x∈out↔x∈out.takeWhile (fun x=>fst x i)∨x∈out.dropWhile (fun x=>fst x i):=by
  rw [← List.mem_append,List.takeWhile_append_dropWhile]
 rw [this]
 constructor
 ·rintro (h | h | h)
  ·exact .inr (.inl h)
  ·exact .inl h
  ·exact .inr (.inr h)
 ·rintro (h | h | h)
  ·exact .inr (.inl h)
  ·exact .inl h
  ·exact .inr (.inr h)
theorem ordTo_iff {dd:Nat→Bool} {fst:Nat→Nat→Bool} {t x:Nat}:x∈ordTo dd fst t↔x<t∧dd x=false:=by
 refine ⟨ordTo_mem x,?_⟩
 induction t with
 | zero=>intro h;omega
 | succ t ih =>
  rintro ⟨h1,h2⟩
  rw [ordTo_succ]
  by_cases e:x=t
  ·subst e
   rw [if_neg (by rw [h2];simp)]
   exact insW_mem.2 (.inl rfl)
  ·have:=ih ⟨by omega,h2⟩
   split
   ·exact this
   ·exact insW_mem.2 (.inr this)
structure Lin1 (fst:Nat→Nat→Bool):Prop where
 tot:∀ a b,a≠b→fst a b=false→fst b a=true
 tr:∀ a b c,fst a b=true→fst b c=true→fst a c=true
 irr:∀ a,fst a a=false
theorem insW_sort {fst:Nat→Nat→Bool} (o:Lin1 fst) {i:Nat} {out:List Nat} (hi:i∉out) (h:out.Pairwise fun x y=>fst x y=true):(insW fst i out).Pairwise fun x y=>fst x y=true:=by
 unfold insW
 rw [List.pairwise_append,List.pairwise_cons]
 have h1:(out.takeWhile (fun x=>fst x i)++out.dropWhile (fun x=>fst x i)).Pairwise fun x y=>fst x y=true:=by rw [List.takeWhile_append_dropWhile];exact h
 rw [List.pairwise_append] at h1
 obtain ⟨h2,h3,h4⟩:=h1
 have h5:∀ y∈out.dropWhile (fun x=>fst x i),fst i y=true:=by
  cases hd:out.dropWhile (fun x=>fst x i) with
  | nil=>intro y hy;simp at hy
  | cons z r =>
   have hz:fst z i=false:=dropWhile_head (p:=fun x=>fst x i) hd
   have hzo:z∈out:=(List.dropWhile_sublist _).mem (by rw [hd];simp)
   have hiz:fst i z=true:=o.tot z i (fun e=>hi (e ▸ hzo)) hz
   rw [hd,List.pairwise_cons] at h3
   intro y hy
   rcases List.mem_cons.1 hy with e | e
   ·rw [e];exact hiz
   ·exact o.tr _ _ _ hiz (h3.1 y e)
 refine ⟨h2,⟨h5,h3⟩,fun x hx y hy=>?_⟩
 rcases List.mem_cons.1 hy with e | e
 ·rw [e];exact tw_all x hx
 ·exact h4 x hx y e
theorem ordTo_sort {dd:Nat→Bool} {fst:Nat→Nat→Bool} (o:Lin1 fst):∀ t,(ordTo dd fst t).Pairwise fun x y=>fst x y=true:=by
 intro t
 induction t with
 | zero=>simp [ordTo]
 | succ t ih =>
  rw [ordTo_succ]
  split
  ·exact ih
  ·exact insW_sort o (fun h=>by have:=(ordTo_mem t h).1;omega) ih
theorem firstW_iff {fx:Nat→Bool} {bk rk:Nat→Nat} {sd:Nat→Int} {a b:Nat}:firstW fx bk rk sd a b=true↔(bk a<bk b∨(bk a=bk b∧((fx a).toNat<(fx b).toNat∨((fx a).toNat=(fx b).toNat∧(sd a<sd b∨(sd a=sd b∧(rk a<rk b∨(rk a=rk b∧a<b)))))))):=by
 have last:(if sd a≠sd b then decide (sd a<sd b) else if rk a≠rk b then decide (rk a<rk b) else decide (a<b))=true↔(sd a<sd b∨(sd a=sd b∧(rk a<rk b∨(rk a=rk b∧a<b)))):=by
  by_cases h3:sd a=sd b
  ·rw [if_neg (by simpa using h3)]
   by_cases h4:rk a=rk b
   ·rw [if_neg (by simpa using h4),decide_eq_true_iff];omega
   ·rw [if_pos h4,decide_eq_true_iff];omega
  ·rw [if_pos h3,decide_eq_true_iff];omega
 unfold firstW
 by_cases h1:bk a=bk b
 ·rw [if_neg (by simpa using h1)]
  cases ha:fx a<;>cases hb:fx b
  ·rw [if_neg (by simp),last];simp [h1]
  ·rw [if_pos (by simp)];simp [h1]
  ·rw [if_pos (by simp)];simp [h1]
  ·rw [if_neg (by simp),last];simp [h1]
 ·rw [if_pos h1,decide_eq_true_iff];omega
theorem firstW_lin (fx:Nat→Bool) (bk rk:Nat→Nat) (sd:Nat→Int):Lin1 (firstW fx bk rk sd):=by
 refine ⟨fun a b hne h=>?_,fun a b c h1 h2=>?_,fun a=>by simp [firstW]⟩
 ·rw [Bool.eq_false_iff,Ne,firstW_iff] at h
  rw [firstW_iff];omega
 ·rw [firstW_iff] at h1 h2 ⊢;omega
theorem sort_ext {fst:Nat→Nat→Bool} (o:Lin1 fst):∀ {a b:List Nat},a.Pairwise (fun x y=>fst x y=true)→b.Pairwise (fun x y=>fst x y=true)→(∀ x,x∈a↔x∈b)→a=b
 | [],b,_,_,hm=>by
  cases b with
  | nil=>rfl
  | cons y b=>exact absurd ((hm y).2 (by simp)) (by simp)
 | x::a,[],_,_,hm=>absurd ((hm x).1 (by simp)) (by simp)
 | x::a,y::b,h,h',hm=>by
  simp only [List.pairwise_cons] at h h'
  have asy:∀ p q,fst p q=true→fst q p=true→False:=fun p q h1 h2=>by
   have:=o.tr _ _ _ h1 h2
   rw [o.irr] at this;cases this
  have hxy:x=y:=by
   rcases List.mem_cons.1 ((hm x).1 (by simp)) with e | e
   ·exact e
   ·rcases List.mem_cons.1 ((hm y).2 (by simp)) with e' | e'
    ·exact e'.symm
    ·exact (asy _ _ (h.1 y e') (h'.1 x e)).elim
  subst hxy
  congr 1
  refine sort_ext o h.2 h'.2 fun p=>⟨fun hp=>?_,fun hp=>?_⟩
  ·rcases List.mem_cons.1 ((hm p).1 (List.mem_cons_of_mem _ hp)) with e | e
   ·subst e;exact (asy _ _ (h.1 p hp) (h.1 p hp)).elim
   ·exact e
  ·rcases List.mem_cons.1 ((hm p).2 (List.mem_cons_of_mem _ hp)) with e | e
   ·subst e;exact (asy _ _ (h'.1 p hp) (h'.1 p hp)).elim
   ·exact e
theorem ordX_iff {ps:List PatchD} {sd:Nat→Int} {k:Nat}:k∈ordX ps sd↔k<nX ps∧ddX ps k=false:=ordTo_iff
theorem ordX_sort (ps:List PatchD) (sd:Nat→Int):(ordX ps sd).Pairwise fun x y=>firstW (fxX ps) (bkX ps) (rkX ps) sd x y=true:=ordTo_sort (firstW_lin _ _ _ _) _
section
variable {ps:List PatchD}
theorem aheadW_iff {a b:Nat}:aheadW (ddX ps) (onS ps) a b=true↔ddX ps a=false∧ddX ps b=false∧getB (onS ps) a b=true∧getB (onS ps) b a=false:=by
 unfold aheadW aheadS
 simp only [Bool.and_eq_true,Bool.not_eq_true']
 constructor
 ·rintro ⟨⟨h1,h2⟩,h3,h4⟩;exact ⟨h1,h2,h3,h4⟩
 ·rintro ⟨h1,h2,h3,h4⟩;exact ⟨⟨h1,h2⟩,h3,h4⟩
theorem aheadW_trans {a b c:Nat} (ha:a<nX ps) (hb:b<nX ps) (hc:c<nX ps) (h1:aheadW (ddX ps) (onS ps) a b=true) (h2:aheadW (ddX ps) (onS ps) b c=true):aheadW (ddX ps) (onS ps) a c=true:=by
 rw [aheadW_iff] at h1 h2 ⊢
 refine ⟨h1.1,h2.2.1,onS_trans ps ha hb hc h1.2.2.1 h2.2.2.1,?_⟩
 rw [Bool.eq_false_iff]
 intro e
 have:=onS_trans ps hb hc ha h2.2.2.1 e
 rw [h1.2.2.2] at this;cases this
theorem rk_lt {a b:Nat} (ha:a<nX ps) (hb:b<nX ps) (h:aheadW (ddX ps) (onS ps) a b=true):rkX ps a<rkX ps b:=by
 unfold rkX rankW
 refine filter_lt _ (fun x hx e=>aheadW_trans (List.mem_range.1 hx) ha hb e h) a (List.mem_range.2 ha) h (aheadW_irr a)
theorem bk_le {a b:Nat} (ha:a<nX ps) (hb:b<nX ps) (h:aheadW (ddX ps) (onS ps) a b=true):bkX ps a≤bkX ps b:=by
 unfold bkX blockW
 refine filter_le _ (fun x hx e=>?_)
 rw [Bool.and_eq_true] at e ⊢
 exact ⟨aheadW_trans (List.mem_range.1 hx) ha hb e.1 h,e.2⟩
theorem bk_lt {a b:Nat} (ha:a<nX ps) (hb:b<nX ps) (h:aheadW (ddX ps) (onS ps) a b=true) (hf:fxX ps a=true):bkX ps a<bkX ps b:=by
 unfold bkX blockW
 refine filter_lt _ (fun x hx e=>?_) a (List.mem_range.2 ha) (by rw [h,hf];rfl) (by rw [aheadW_irr];rfl)
 rw [Bool.and_eq_true] at e ⊢
 exact ⟨aheadW_trans (List.mem_range.1 hx) ha hb e.1 h,e.2⟩
theorem strand_same {sd:Nat→Int} (hs:StrX ps sd) {a b:Nat} (ha:a<nX ps) (hb:b<nX ps) (da:ddX ps a=false) (db:ddX ps b=false) (fa:fxX ps a=false) (fb:fxX ps b=false) (hk:bkX ps a=bkX ps b) (h:getB (onS ps) a b=true∨getB (onS ps) b a=true):sd a=sd b:=by
 obtain ⟨r,h1,e1⟩:=hs.loose a ha da fa
 obtain ⟨r',h2,e2⟩:=hs.loose b hb db fb
 have la:looseW (ddX ps) (fxX ps) a=true:=by unfold looseW;rw [da,fa];rfl
 have lb:looseW (ddX ps) (fxX ps) b=true:=by unfold looseW;rw [db,fb];rfl
 have c1:ConnW (nX ps) (ddX ps) (fxX ps) (bkX ps) (onS ps) a b:=ConnW.step .refl hb (by
  unfold bndW
  rw [lb]
  simp only [Bool.true_and,Bool.and_eq_true,decide_eq_true_eq,Bool.or_eq_true]
  exact ⟨hk,h⟩)
 have c2:=c1.symm ha la
 have l1:=h1.least _ (c1.trans h2.conn)
 have l2:=h2.least _ (c2.trans h1.conn)
 rw [e1,e2];omega
theorem ahead_first {sd:Nat→Int} (hs:StrX ps sd) {a b:Nat} (ha:a<nX ps) (hb:b<nX ps) (h:aheadW (ddX ps) (onS ps) a b=true):firstW (fxX ps) (bkX ps) (rkX ps) sd a b=true:=by
 have h1:=bk_le ha hb h
 have h2:=rk_lt ha hb h
 have h3:=aheadW_iff.1 h
 unfold firstW
 by_cases e:bkX ps a=bkX ps b
 ·rw [if_neg (by omega)]
  have fa:fxX ps a=false:=by
   rw [Bool.eq_false_iff]
   intro f
   have:=bk_lt ha hb h f
   omega
  cases fb:fxX ps b
  ·rw [if_neg (by rw [fa];simp),if_neg (by rw [strand_same hs ha hb h3.1 h3.2.1 fa fb e (.inl h3.2.2.1)];simp),if_pos (by omega)]
   simpa using h2
  ·rw [if_pos (by rw [fa];simp)]
 ·rw [if_pos e]
  simp;omega
end
end Go.Proofs.YtlaffgagmncgjabDoor
