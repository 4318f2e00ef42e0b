import Derived.Test.YtlaffgagmncgjabDoorT6
namespace Go.Proofs.YtlaffgagmncgjabDoor
open Go Go.Pat Go.Proofs
theorem splitL_not {c:UInt8} {w:List UInt8} (h:c∉w):splitL c w=[w]:=by
 induction w with
 | nil=>rfl
 | cons x r ih =>
  simp only [List.mem_cons,not_or] at h
  simp only [splitL,if_neg (fun (e:x=c)=>h.1 e.symm),ih h.2]
theorem splitL_app {c:UInt8} {w:List UInt8} (r:List UInt8) (h:c∉w):splitL c (w++c::r)=w::splitL c r:=by
 induction w with
 | nil=>simp [splitL]
 | cons x w ih =>
  simp only [List.mem_cons,not_or] at h
  simp only [List.cons_append,splitL,if_neg (fun (e:x=c)=>h.1 e.symm),ih h.2]
theorem splitL_inv {c:UInt8} {l w:List UInt8} {ws:List (List UInt8)} (h:splitL c l=w::ws):c∉w∧((ws=[]∧l=w)∨∃ r,l=w++c::r∧splitL c r=ws):=by
 induction l generalizing w ws with
 | nil=>simp [splitL] at h;obtain ⟨rfl,rfl⟩:=h;simp
 | cons x r ih =>
  simp only [splitL] at h
  by_cases hx:x=c
  ·rw [if_pos hx] at h
   cases h
   exact ⟨by simp,.inr ⟨r,by simp [hx],rfl⟩⟩
  ·rw [if_neg hx] at h
   cases hr:splitL c r with
   | nil=>exact absurd hr (splitL_ne c r)
   | cons p ps =>
    rw [hr] at h
    cases h
    obtain ⟨h1,h2⟩:=ih hr
    refine ⟨by simp [h1];exact fun e=>hx e.symm,?_⟩
    rcases h2 with ⟨rfl,rfl⟩ | ⟨q,rfl,e⟩
    ·exact .inl ⟨rfl,rfl⟩
    ·exact .inr ⟨q,rfl,e⟩
theorem splitL_flat {c:UInt8} {ss:List (List UInt8)} (h:∀ s∈ss,c∉s):splitL c (ss.flatMap (· ++ [c]))=ss++[[]]:=by
 induction ss with
 | nil=>rfl
 | cons s ss ih =>
  have:(s::ss).flatMap (· ++ [c])=s++c::ss.flatMap (· ++ [c]):=by simp
  rw [this,splitL_app _ (h s (by simp)),ih fun x hx=>h x (by simp [hx])];rfl
theorem splitL_flat_inv {c:UInt8} {l:List UInt8} {ss:List (List UInt8)} (h:splitL c l=ss++[[]]):l=ss.flatMap (· ++ [c])∧∀ s∈ss,c∉s:=by
 induction ss generalizing l with
 | nil =>
  obtain ⟨_,h2⟩:=splitL_inv h
  rcases h2 with ⟨_,rfl⟩ | ⟨r,_,e⟩
  ·simp
  ·exact absurd e (splitL_ne c r)
 | cons s ss ih =>
  obtain ⟨h1,h2⟩:=splitL_inv h
  rcases h2 with ⟨e,_⟩ | ⟨r,rfl,e⟩
  ·simp at e
  ·obtain ⟨h3,h4⟩:=ih e
   refine ⟨by rw [h3];simp,fun x hx=>?_⟩
   rcases List.mem_cons.1 hx with rfl | hx
   ·exact h1
   ·exact h4 x hx
theorem splitL_words {c:UInt8} {w:List UInt8} {ws:List (List UInt8)} (hw:c∉w) (h:∀ s∈ws,c∉s):splitL c (w++ws.flatMap (c :: ·))=w::ws:=by
 induction ws generalizing w with
 | nil=>simpa using splitL_not hw
 | cons s ss ih =>
  have:w++(s::ss).flatMap (c :: ·)=w++c::(s++ss.flatMap (c :: ·)):=by simp
  rw [this,splitL_app _ hw,ih (h s (by simp)) fun x hx=>h x (by simp [hx])]
theorem splitL_words_inv {c:UInt8} {l w:List UInt8} {ws:List (List UInt8)} (h:splitL c l=w::ws):l=w++ws.flatMap (c :: ·)∧c∉w∧∀ s∈ws,c∉s:=by
 induction ws generalizing w l with
 | nil =>
  obtain ⟨h1,h2⟩:=splitL_inv h
  rcases h2 with ⟨_,rfl⟩ | ⟨r,_,e⟩
  ·simp [h1]
  ·exact absurd e (splitL_ne c r)
 | cons s ss ih =>
  obtain ⟨h1,h2⟩:=splitL_inv h
  rcases h2 with ⟨e,_⟩ | ⟨r,rfl,e⟩
  ·simp at e
  ·obtain ⟨h3,h4,h5⟩:=ih e
   refine ⟨by rw [h3];simp,h1,fun x hx=>?_⟩
   rcases List.mem_cons.1 hx with rfl | hx
   ·exact h4
   ·exact h5 x hx
def takesR (w l:List UInt8):Option (List UInt8):=if l.take w.length=w then some (l.drop w.length) else none
theorem takesR_some {w l r:List UInt8}:takesR w l=some r↔l=w++r:=by
 unfold takesR
 constructor
 ·intro h
  split at h
  ·rename_i e;cases h;exact (List.take_append_drop w.length l).symm.trans (by rw [e])
  ·cases h
 ·rintro rfl;simp
theorem takesR_one {c x:UInt8} {l:List UInt8} (h:x≠c):takesR [c] (x::l)=none:=by simp [takesR,h]
theorem takesR_nil {c:UInt8}:takesR [c] []=none:=by simp [takesR]
def isDig (b:UInt8):Bool:=decide (48≤b.toNat)&&decide (b.toNat≤57)
def numR (l:List UInt8):Option (Nat × List UInt8):=match numberS (l.takeWhile isDig) with
 | some n=>some (n,l.dropWhile isDig)
 | none=>none
def nameR (l:List UInt8):Option (Nat × List UInt8):=match numR l with
 | some (n,r)=>if n=0 then none else some (n,r)
 | none=>none
theorem numAcc_dig {w:List UInt8} {a n:Nat} (h:numAcc a w=some n):∀ x∈w,isDig x=true:=by
 induction w generalizing a with
 | nil=>simp
 | cons c r ih =>
  simp only [numAcc] at h
  split at h
  ·cases h
  ·rename_i hc
   intro x hx
   rcases List.mem_cons.1 hx with rfl | hx
   ·simp [isDig];omega
   ·exact ih h x hx
theorem numberS_dig {w:List UInt8} {n:Nat} (h:numberS w=some n):∀ x∈w,isDig x=true:=by
 unfold numberS at h
 split at h
 ·cases h
 ·exact numAcc_dig h
theorem span_all {p:UInt8→Bool} {w m:List UInt8} (hw:∀ x∈w,p x=true) (hm:∀ x,m.head? = some x→p x=false):(w++m).takeWhile p=w∧(w++m).dropWhile p=m:=by
 induction w with
 | nil =>
  cases m with
  | nil=>simp
  | cons y m=>have:=hm y rfl;simp [this]
 | cons x w ih =>
  have hx:=hw x (by simp)
  have:=ih fun y hy=>hw y (by simp [hy])
  simp [hx,this]
theorem numR_of {w m:List UInt8} {n:Nat} (h:numberS w=some n) (hm:∀ x,m.head? = some x→isDig x=false):numR (w++m)=some (n,m):=by
 obtain ⟨h1,h2⟩:=span_all (numberS_dig h) hm
 simp [numR,h1,h2,h]
theorem numR_some {l r:List UInt8} {n:Nat} (h:numR l=some (n,r)):∃ w,l=w++r∧numberS w=some n:=by
 unfold numR at h
 split at h
 ·rename_i k hk;cases h;exact ⟨_,(List.takeWhile_append_dropWhile).symm,hk⟩
 ·cases h
theorem nameS_some {w:List UInt8} {n:Nat}:nameS w=some n↔numberS w=some n∧n≠0:=by
 unfold nameS
 split
 ·rename_i k hk
  rw [hk]
  by_cases h:k=0
  ·simp [h];intro e;omega
  ·simp [h];intro e;omega
 ·rename_i hk;simp [hk]
theorem nameR_of {w m:List UInt8} {n:Nat} (h:nameS w=some n) (hm:∀ x,m.head? = some x→isDig x=false):nameR (w++m)=some (n,m):=by
 obtain ⟨h1,h2⟩:=nameS_some.1 h
 simp [nameR,numR_of h1 hm,h2]
theorem nameR_some {l r:List UInt8} {n:Nat} (h:nameR l=some (n,r)):∃ w,l=w++r∧nameS w=some n:=by
 unfold nameR at h
 split at h
 ·rename_i k q hk
  split at h
  ·cases h
  ·rename_i hn;cases h
   obtain ⟨w,e1,e2⟩:=numR_some hk
   exact ⟨w,e1,nameS_some.2 ⟨e2,hn⟩⟩
 ·cases h
theorem nameS_dig {w:List UInt8} {n:Nat} (h:nameS w=some n):∀ x∈w,isDig x=true:=numberS_dig (nameS_some.1 h).1
def lineR (l:List UInt8):Option (RefD × List UInt8):=match nameR l with
 | none=>none
 | some (p,l1)=>match takesR [46] l1 with
  | none=>none
  | some l2=>match numR l2 with
   | none=>none
   | some (i,l3)=>some (⟨p,i⟩,l3)
def placeR (sign:UInt8) (i:Nat) (l:List UInt8):Option (RefD × List UInt8):=match takesR [sign] l with
 | some l1=>some (⟨0,i⟩,l1)
 | none=>lineR l
theorem not_dig {c:UInt8} {w:List UInt8} (h:∀ x∈w,isDig x=true) (hc:isDig c=false):c∉w:=fun e=>by have:=h c e;simp [hc] at this
theorem lineS_some {w:List UInt8} {r:RefD}:lineS w []=some r↔∃ a b,w=a++46::b∧nameS a=some r.p∧numberS b=some r.i:=by
 unfold lineS
 rw [if_neg (by simp)]
 constructor
 ·intro h
  split at h
  ·rename_i a b e
   split at h
   ·rename_i p i e1 e2
    split at h
    ·rename_i hp
     cases h
     obtain ⟨h1,_,_⟩:=splitL_words_inv e
     exact ⟨a,b,by simpa using h1,nameS_some.2 ⟨e1,by simp;omega⟩,e2⟩
    ·cases h
   ·cases h
  ·cases h
 ·rintro ⟨a,b,rfl,h1,h2⟩
  obtain ⟨h3,h4⟩:=nameS_some.1 h1
  have e:splitL 46 (a++46::b)=[a,b]:=by
   rw [splitL_app _ (not_dig (numberS_dig h3) rfl),splitL_not (not_dig (numberS_dig h2) rfl)]
  simp only [e,h3,h2]
  rw [if_pos (by omega)]
theorem lineS_chars {w:List UInt8} {r:RefD} (h:lineS w []=some r):∀ x∈w,isDig x=true∨x=46:=by
 obtain ⟨a,b,rfl,h1,h2⟩:=lineS_some.1 h
 intro x hx
 rcases List.mem_append.1 hx with e | e
 ·exact .inl (nameS_dig h1 x e)
 ·rcases List.mem_cons.1 e with e | e
  ·exact .inr e
  ·exact .inl (numberS_dig h2 x e)
theorem lineR_of {w m:List UInt8} {r:RefD} (h:lineS w []=some r) (hm:∀ x,m.head? = some x→isDig x=false):lineR (w++m)=some (r,m):=by
 obtain ⟨a,b,rfl,h1,h2⟩:=lineS_some.1 h
 unfold lineR
 rw [List.append_assoc,nameR_of h1 (by simp;rfl)]
 simp only [List.cons_append]
 rw [show takesR [46] (46::(b++m))=some (b++m) from takesR_some.2 rfl]
 simp only
 rw [numR_of h2 hm]
theorem lineR_some {l m:List UInt8} {r:RefD} (h:lineR l=some (r,m)):∃ w,l=w++m∧lineS w []=some r:=by
 unfold lineR at h
 split at h
 ·cases h
 ·rename_i p l1 e1
  split at h
  ·cases h
  ·rename_i l2 e2
   split at h
   ·cases h
   ·rename_i i l3 e3
    cases h
    obtain ⟨a,rfl,ha⟩:=nameR_some e1
    have:=takesR_some.1 e2
    subst this
    obtain ⟨b,rfl,hb⟩:=numR_some e3
    exact ⟨a++46::b,by simp,lineS_some.2 ⟨a,b,rfl,ha,hb⟩⟩
theorem placeS_some {w:List UInt8} {c:UInt8} {r:RefD}:lineS w [c]=some r↔(w=[c]∧r=if c=94 then ⟨0,0⟩ else ⟨0,1⟩)∨(w≠[c]∧lineS w []=some r):=by
 unfold lineS
 by_cases h:w=[c]
 ·rw [if_pos ⟨by simp,h⟩]
  subst h
  simp
  constructor
  ·intro e;exact e.symm
  ·intro e;exact e.symm
 ·rw [if_neg (fun e=>h e.2),if_neg (c:=[]≠[]∧w=[]) (by simp)]
  constructor
  ·intro e;exact .inr ⟨h,e⟩
  ·rintro (⟨e,_⟩ | ⟨_,e⟩)
   ·exact absurd e h
   ·exact e
theorem placeR_of {w m:List UInt8} {c:UInt8} {r:RefD} {i:Nat} (hi:(if c=94 then (⟨0,0⟩:RefD) else ⟨0,1⟩)=⟨0,i⟩) (hc:isDig c=false) (hc':c≠46) (h:lineS w [c]=some r) (hm:∀ x,m.head? = some x→isDig x=false):placeR c i (w++m)=some (r,m):=by
 unfold placeR
 rcases placeS_some.1 h with ⟨rfl,rfl⟩ | ⟨_,e⟩
 ·rw [show takesR [c] ([c]++m)=some m from takesR_some.2 rfl,hi]
 ·obtain ⟨a,b,rfl,h1,h2⟩:=lineS_some.1 e
  have hne:takesR [c] (a++46::b++m)=none:=by
   cases a with
   | nil=>exact takesR_one hc'.symm
   | cons x a =>
    have:=nameS_dig h1 x (by simp)
    exact takesR_one (fun e=>by rw [e,hc] at this;cases this)
  rw [hne]
  exact lineR_of e hm
theorem placeR_some {l m:List UInt8} {c:UInt8} {r:RefD} {i:Nat} (hi:(if c=94 then (⟨0,0⟩:RefD) else ⟨0,1⟩)=⟨0,i⟩) (hc:isDig c=false) (hc':c≠46) (h:placeR c i l=some (r,m)):∃ w,l=w++m∧lineS w [c]=some r:=by
 unfold placeR at h
 split at h
 ·rename_i l1 e
  cases h
  exact ⟨[c],takesR_some.1 e,placeS_some.2 (.inl ⟨rfl,hi.symm⟩)⟩
 ·obtain ⟨w,e1,e2⟩:=lineR_some h
  refine ⟨w,e1,placeS_some.2 (.inr ⟨?_,e2⟩)⟩
  rintro rfl
  have:=lineS_chars e2 c (by simp)
  rcases this with e | e
  ·rw [hc] at e;cases e
  ·exact hc' e
def isPrn (b:UInt8):Bool:=decide (32≤b.toNat)&&decide (b.toNat≤126)
def restR (l:List UInt8):Option (List UInt8 × List UInt8):=if 12<(l.takeWhile isPrn).length then none else match takesR [10] (l.dropWhile isPrn) with
 | some r=>some (l.takeWhile isPrn,r)
 | none=>none
theorem takeWhile_all {p:UInt8→Bool} (l:List UInt8):∀ x∈l.takeWhile p,p x=true:=by
 induction l with
 | nil=>simp
 | cons y l ih =>
  intro x hx
  by_cases h:p y=true
  ·simp only [List.takeWhile_cons,h,if_true,List.mem_cons] at hx
   rcases hx with rfl | hx
   ·exact h
   ·exact ih x hx
  ·simp [h] at hx
theorem textOk_iff {t:List UInt8}:textOk t=true↔t.length≤12∧∀ x∈t,isPrn x=true:=by
 simp [textOk,isPrn]
theorem restR_iff {l t r:List UInt8}:restR l=some (t,r)↔l=t++10::r∧textOk t=true:=by
 unfold restR
 constructor
 ·intro h
  split at h
  ·cases h
  ·rename_i hl
   split at h
   ·rename_i q e
    cases h
    have e1:=takesR_some.1 e
    refine ⟨?_,textOk_iff.2 ⟨by omega,?_⟩⟩
    ·rw [show (10::r:List UInt8)=[10]++r from rfl,← e1,List.takeWhile_append_dropWhile]
    ·exact takeWhile_all l
   ·cases h
 ·rintro ⟨rfl,h⟩
  obtain ⟨h1,h2⟩:=textOk_iff.1 h
  obtain ⟨e1,e2⟩:=span_all (m:=10::r) h2 (by simp;rfl)
  rw [e1,e2,if_neg (by omega),show takesR [10] (10::r)=some r from takesR_some.2 rfl]
def addR (l:List UInt8):Option (ChangeD × List UInt8):=match placeR 94 0 l with
 | none=>none
 | some (up,l1)=>match takesR [32] l1 with
  | none=>none
  | some l2=>match placeR 36 1 l2 with
   | none=>none
   | some (down,l3)=>match takesR [32] l3 with
    | none=>none
    | some l4=>match restR l4 with
     | none=>none
     | some (t,l5)=>some (⟨1,up,down,t⟩,l5)
def delR (l:List UInt8):Option (ChangeD × List UInt8):=match lineR l with
 | none=>none
 | some (up,l1)=>match takesR [10] l1 with
  | none=>none
  | some l2=>some (⟨2,up,⟨0,0⟩,[]⟩,l2)
def tieR (l:List UInt8):Option (ChangeD × List UInt8):=match lineR l with
 | none=>none
 | some (up,l1)=>match takesR [32] l1 with
  | none=>none
  | some l2=>match lineR l2 with
   | none=>none
   | some (down,l3)=>match takesR [10] l3 with
    | none=>none
    | some l4=>some (⟨3,up,down,[]⟩,l4)
def changeR (l:List UInt8):Option (ChangeD × List UInt8):=match takesR [97,100,100,32] l with
 | some l1=>addR l1
 | none=>match takesR [100,101,108,32] l with
  | some l1=>delR l1
  | none=>match takesR [116,105,101,32] l with
   | some l1=>tieR l1
   | none=>none
def isAdd (s:List UInt8) (c:ChangeD):Prop:=∃ w1 w2 t up down,s=[97,100,100,32]++(w1++32::(w2++32::t))∧lineS w1 [94]=some up∧lineS w2 [36]=some down∧textOk t=true∧c=⟨1,up,down,t⟩
def isDel (s:List UInt8) (c:ChangeD):Prop:=∃ w1 up,s=[100,101,108,32]++w1∧lineS w1 []=some up∧c=⟨2,up,⟨0,0⟩,[]⟩
def isTie (s:List UInt8) (c:ChangeD):Prop:=∃ w1 w2 up down,s=[116,105,101,32]++(w1++32::w2)∧lineS w1 []=some up∧lineS w2 []=some down∧c=⟨3,up,down,[]⟩
theorem place_chars {w:List UInt8} {r:RefD} {c:UInt8} (h:lineS w [c]=some r):∀ x∈w,isDig x=true∨x=46∨x=c:=by
 intro x hx
 rcases placeS_some.1 h with ⟨rfl,_⟩ | ⟨_,e⟩
 ·simp at hx;exact .inr (.inr hx)
 ·rcases lineS_chars e x hx with e | e
  ·exact .inl e
  ·exact .inr (.inl e)
theorem place_not {w:List UInt8} {r:RefD} {c d:UInt8} (h:lineS w [c]=some r) (h1:isDig d=false) (h2:d≠46) (h3:d≠c):d∉w:=fun e=>by
 rcases place_chars h d e with e | e | e
 ·rw [h1] at e;cases e
 ·exact h2 e
 ·exact h3 e
theorem line_not {w:List UInt8} {r:RefD} {d:UInt8} (h:lineS w []=some r) (h1:isDig d=false) (h2:d≠46):d∉w:=fun e=>by
 rcases lineS_chars h d e with e | e
 ·rw [h1] at e;cases e
 ·exact h2 e
theorem changeS_iff {s:List UInt8} {c:ChangeD}:changeS s=some c↔isAdd s c∨isDel s c∨isTie s c:=by
 constructor
 ·intro h
  unfold changeS at h
  cases hs:splitL 32 s with
  | nil=>exact absurd hs (splitL_ne _ _)
  | cons w0 ws =>
   obtain ⟨h1,h2,h3⟩:=splitL_words_inv hs
   rw [hs] at h
   simp only at h
   split at h
   ·rename_i hw
    split at h
    ·rename_i w1 w2 wr
     obtain ⟨rfl,hl⟩:=hw
     have hl':1≤wr.length:=by simpa using hl
     cases wr with
     | nil=>simp at hl'
     | cons w3 wr =>
      have hd:s=[97,100,100,32]++(w1++32::(w2++32::(w3++wr.flatMap (32 :: ·)))):=by rw [h1];simp
      have hdr:s.drop (([97,100,100]:List UInt8).length+w1.length+w2.length+3)=w3++wr.flatMap (32 :: ·):=by
       have hd2:s=([97,100,100,32]++w1++[32]++w2++[32])++(w3++wr.flatMap (32 :: ·)):=by rw [hd];simp
       rw [hd2]
       exact List.drop_left' (by simp;omega)
      split at h
      ·rename_i up down e1 e2
       rw [hdr] at h
       split at h
       ·rename_i ht
        cases h
        exact .inl ⟨w1,w2,_,up,down,hd,e1,e2,ht,rfl⟩
       ·cases h
      ·cases h
    ·cases h
   ·split at h
    ·rename_i hw
     split at h
     ·obtain ⟨rfl,_⟩:=hw
      split at h
      ·rename_i up e1
       cases h
       exact .inr (.inl ⟨_,up,by rw [h1];simp,e1,rfl⟩)
      ·cases h
     ·cases h
    ·split at h
     ·rename_i hw
      split at h
      ·obtain ⟨rfl,_⟩:=hw
       split at h
       ·rename_i up down e1 e2
        cases h
        exact .inr (.inr ⟨_,_,up,down,by rw [h1];simp,e1,e2,rfl⟩)
       ·cases h
      ·cases h
     ·cases h
 ·rintro (⟨w1,w2,t,up,down,rfl,e1,e2,ht,rfl⟩ | ⟨w1,up,rfl,e1,rfl⟩ | ⟨w1,w2,up,down,rfl,e1,e2,rfl⟩)
  ·have hsp:splitL 32 ([97,100,100,32]++(w1++32::(w2++32::t)))=[97,100,100]::w1::w2::splitL 32 t:=by
    rw [show ([97,100,100,32]++(w1++32::(w2++32::t)):List UInt8)=[97,100,100]++32::(w1++32::(w2++32::t)) by simp,
     splitL_app _ (by decide),splitL_app _ (place_not e1 rfl (by decide) (by decide)),splitL_app _ (place_not e2 rfl (by decide) (by decide))]
   have hdr:([97,100,100,32]++(w1++32::(w2++32::t))).drop (([97,100,100]:List UInt8).length+w1.length+w2.length+3)=t:=by
    have hd2:([97,100,100,32]++(w1++32::(w2++32::t)):List UInt8)=([97,100,100,32]++w1++[32]++w2++[32])++t:=by simp
    rw [hd2]
    exact List.drop_left' (by simp;omega)
   have hlen:1≤(splitL 32 t).length:=by
    cases h:splitL 32 t with
    | nil=>exact absurd h (splitL_ne _ _)
    | cons=>simp
   unfold changeS
   rw [hsp]
   simp only
   rw [if_pos ⟨trivial,by simp;omega⟩]
   simp only [e1,e2]
   rw [hdr,if_pos ht]
  ·have hsp:splitL 32 ([100,101,108,32]++w1)=[100,101,108]::[w1]:=by
    rw [show ([100,101,108,32]++w1:List UInt8)=[100,101,108]++32::w1 by simp,splitL_app _ (by decide),splitL_not (line_not e1 rfl (by decide))]
   unfold changeS
   rw [hsp]
   simp only
   rw [if_neg (by simp),if_pos ⟨trivial,rfl⟩]
   simp only [e1]
  ·have hsp:splitL 32 ([116,105,101,32]++(w1++32::w2))=[116,105,101]::[w1,w2]:=by
    rw [show ([116,105,101,32]++(w1++32::w2):List UInt8)=[116,105,101]++32::(w1++32::w2) by simp,splitL_app _ (by decide),splitL_app _ (line_not e1 rfl (by decide)),splitL_not (line_not e2 rfl (by decide))]
   unfold changeS
   rw [hsp]
   simp only
   rw [if_neg (by simp),if_neg (by simp),if_pos ⟨trivial,rfl⟩]
   simp only [e1,e2]
theorem text_not {t:List UInt8} (h:textOk t=true):10∉t:=fun e=>by
 have:=(textOk_iff.1 h).2 10 e
 simp [isPrn] at this
theorem hd_dig {x c:UInt8} {m:List UInt8} (hc:isDig c=false) (h:(c::m).head? = some x):isDig x=false:=by simp at h;subst h;exact hc
theorem changeR_iff {l r:List UInt8} {c:ChangeD}:changeR l=some (c,r)↔∃ s,l=s++10::r∧10∉s∧changeS s=some c:=by
 constructor
 ·intro h
  unfold changeR at h
  split at h
  ·rename_i l1 e0
   have e0':=takesR_some.1 e0
   subst e0'
   unfold addR at h
   split at h
   ·cases h
   ·rename_i up l1 e1
    split at h
    ·cases h
    ·rename_i l2 e2
     split at h
     ·cases h
     ·rename_i down l3 e3
      split at h
      ·cases h
      ·rename_i l4 e4
       split at h
       ·cases h
       ·rename_i t l5 e5
        cases h
        obtain ⟨w1,rfl,k1⟩:=placeR_some rfl rfl (by decide) e1
        have e2':=takesR_some.1 e2
        subst e2'
        obtain ⟨w2,rfl,k2⟩:=placeR_some rfl rfl (by decide) e3
        have e4':=takesR_some.1 e4
        subst e4'
        obtain ⟨rfl,k3⟩:=restR_iff.1 e5
        have n1:=place_not k1 (d:=10) rfl (by decide) (by decide)
        have n2:=place_not k2 (d:=10) rfl (by decide) (by decide)
        have n3:=text_not k3
        exact ⟨[97,100,100,32]++(w1++32::(w2++32::t)),by simp,by simp [n1,n2,n3],changeS_iff.2 (.inl ⟨w1,w2,t,up,down,rfl,k1,k2,k3,rfl⟩)⟩
  ·split at h
   ·rename_i l1 e0
    have e0':=takesR_some.1 e0
    subst e0'
    unfold delR at h
    split at h
    ·cases h
    ·rename_i up l1 e1
     split at h
     ·cases h
     ·rename_i l2 e2
      cases h
      obtain ⟨w1,rfl,k1⟩:=lineR_some e1
      have e2':=takesR_some.1 e2
      subst e2'
      have n1:=line_not k1 (d:=10) rfl (by decide)
      exact ⟨[100,101,108,32]++w1,by simp,by simp [n1],changeS_iff.2 (.inr (.inl ⟨w1,up,rfl,k1,rfl⟩))⟩
   ·split at h
    ·rename_i l1 e0
     have e0':=takesR_some.1 e0
     subst e0'
     unfold tieR at h
     split at h
     ·cases h
     ·rename_i up l1 e1
      split at h
      ·cases h
      ·rename_i l2 e2
       split at h
       ·cases h
       ·rename_i down l3 e3
        split at h
        ·cases h
        ·rename_i l4 e4
         cases h
         obtain ⟨w1,rfl,k1⟩:=lineR_some e1
         have e2':=takesR_some.1 e2
         subst e2'
         obtain ⟨w2,rfl,k2⟩:=lineR_some e3
         have e4':=takesR_some.1 e4
         subst e4'
         have n1:=line_not k1 (d:=10) rfl (by decide)
         have n2:=line_not k2 (d:=10) rfl (by decide)
         exact ⟨[116,105,101,32]++(w1++32::w2),by simp,by simp [n1,n2],changeS_iff.2 (.inr (.inr ⟨w1,w2,up,down,rfl,k1,k2,rfl⟩))⟩
    ·cases h
 ·rintro ⟨s,rfl,_,h⟩
  rcases changeS_iff.1 h with ⟨w1,w2,t,up,down,rfl,e1,e2,ht,rfl⟩ | ⟨w1,up,rfl,e1,rfl⟩ | ⟨w1,w2,up,down,rfl,e1,e2,rfl⟩
  ·have h0:takesR [97,100,100,32] ([97,100,100,32]++(w1++32::(w2++32::t))++10::r)=some (w1++32::(w2++32::(t++10::r))):=takesR_some.2 (by simp)
   unfold changeR addR
   rw [h0]
   simp only
   rw [placeR_of rfl rfl (by decide) e1 (fun x hx=>hd_dig rfl hx)]
   simp only
   rw [show takesR [32] (32::(w2++32::(t++10::r)))=some (w2++32::(t++10::r)) from takesR_some.2 rfl]
   simp only
   rw [placeR_of rfl rfl (by decide) e2 (fun x hx=>hd_dig rfl hx)]
   simp only
   rw [show takesR [32] (32::(t++10::r))=some (t++10::r) from takesR_some.2 rfl]
   simp only
   rw [restR_iff.2 ⟨rfl,ht⟩]
  ·have h0:takesR [97,100,100,32] ([100,101,108,32]++w1++10::r)=none:=by simp [takesR]
   have h1:takesR [100,101,108,32] ([100,101,108,32]++w1++10::r)=some (w1++10::r):=takesR_some.2 (by simp)
   unfold changeR delR
   rw [h0,h1]
   simp only
   rw [lineR_of e1 (fun x hx=>hd_dig rfl hx)]
   simp only
   rw [show takesR [10] (10::r)=some r from takesR_some.2 rfl]
  ·have h0:takesR [97,100,100,32] ([116,105,101,32]++(w1++32::w2)++10::r)=none:=by simp [takesR]
   have h1:takesR [100,101,108,32] ([116,105,101,32]++(w1++32::w2)++10::r)=none:=by simp [takesR]
   have h2:takesR [116,105,101,32] ([116,105,101,32]++(w1++32::w2)++10::r)=some (w1++32::(w2++10::r)):=takesR_some.2 (by simp)
   unfold changeR tieR
   rw [h0,h1,h2]
   simp only
   rw [lineR_of e1 (fun x hx=>hd_dig rfl hx)]
   simp only
   rw [show takesR [32] (32::(w2++10::r))=some (w2++10::r) from takesR_some.2 rfl]
   simp only
   rw [lineR_of e2 (fun x hx=>hd_dig rfl hx)]
   simp only
   rw [show takesR [10] (10::r)=some r from takesR_some.2 rfl]
def changesR:Nat→List UInt8→Option (List ChangeD)
 | 0,_=>none
 | _+1,[]=>some []
 | k+1,x::l=>match changeR (x::l) with
  | none=>none
  | some (c,r)=>match changesR k r with
   | none=>none
   | some cs=>some (c::cs)
theorem allSome_cons {α β:Type} {f:α→Option β} {a:α} {r:List α} {b:β} {bs:List β} (h1:f a=some b) (h2:allSome f r=some bs):allSome f (a::r)=some (b::bs):=by simp [allSome,h1,h2]
theorem allSome_cons_inv {α β:Type} {f:α→Option β} {a:α} {r:List α} {ys:List β} (h:allSome f (a::r)=some ys):∃ b bs,ys=b::bs∧f a=some b∧allSome f r=some bs:=by
 simp only [allSome] at h
 split at h
 ·cases h
 ·rename_i b e
  split at h
  ·cases h
  ·rename_i bs e2;cases h;exact ⟨b,bs,rfl,e,e2⟩
theorem changesR_iff {k:Nat} {l:List UInt8} {cs:List ChangeD}:changesR k l=some cs↔∃ ss,ss.length<k∧l=ss.flatMap (· ++ [10])∧(∀ s∈ss,10∉s)∧allSome changeS ss=some cs:=by
 induction k generalizing l cs with
 | zero=>simp [changesR]
 | succ k ih =>
  constructor
  ·intro h
   cases l with
   | nil=>simp only [changesR] at h;cases h;exact ⟨[],by simp,by simp,by simp,rfl⟩
   | cons x l =>
    simp only [changesR] at h
    split at h
    ·cases h
    ·rename_i c r e
     split at h
     ·cases h
     ·rename_i cs' e2
      cases h
      obtain ⟨s,h1,h2,h3⟩:=changeR_iff.1 e
      obtain ⟨ss,h4,h5,h6,h7⟩:=ih.1 e2
      refine ⟨s::ss,by simp;omega,?_,fun y hy=>?_,allSome_cons h3 h7⟩
      ·rw [h1,h5];simp
      ·rcases List.mem_cons.1 hy with rfl | hy
       ·exact h2
       ·exact h6 y hy
  ·rintro ⟨ss,h1,h2,h3,h4⟩
   cases ss with
   | nil=>simp at h2;subst h2;simp [allSome] at h4;subst h4;rfl
   | cons s ss =>
    obtain ⟨c,cs',rfl,h5,h6⟩:=allSome_cons_inv h4
    have e2:changesR k (ss.flatMap (· ++ [10]))=some cs':=ih.2 ⟨ss,by simp at h1;omega,rfl,fun y hy=>h3 y (by simp [hy]),h6⟩
    have hl:l=s++10::ss.flatMap (· ++ [10]):=by rw [h2];simp
    have e1:changeR l=some (c,ss.flatMap (· ++ [10])):=changeR_iff.2 ⟨s,hl,h3 s (by simp),h5⟩
    cases l with
    | nil=>cases s<;>simp at hl
    | cons x l=>simp only [changesR];rw [e1];simp only;rw [e2]
def needsR:Nat→List UInt8→Option (List Nat × List UInt8)
 | 0,_=>none
 | k+1,l=>match takesR [32] l with
  | none=>some ([],l)
  | some l1=>match nameR l1 with
   | none=>none
   | some (n,l2)=>match needsR k l2 with
    | none=>none
    | some (ns,l3)=>some (n::ns,l3)
theorem words_head {ws:List (List UInt8)} {r:List UInt8} {x:UInt8} (h:(ws.flatMap (32 :: ·)++10::r).head? = some x):isDig x=false:=by
 cases ws with
 | nil=>simp at h;subst h;rfl
 | cons w ws=>simp at h;subst h;rfl
theorem needsR_iff {k:Nat} {l r:List UInt8} {ns:List Nat}:needsR k l=some (ns,10::r)↔∃ ws,ws.length<k∧l=ws.flatMap (32 :: ·)++10::r∧allSome nameS ws=some ns:=by
 induction k generalizing l ns with
 | zero=>simp [needsR]
 | succ k ih =>
  constructor
  ·intro h
   simp only [needsR] at h
   split at h
   ·cases h;exact ⟨[],by simp,by simp,rfl⟩
   ·rename_i l1 e0
    have e0':=takesR_some.1 e0
    subst e0'
    split at h
    ·cases h
    ·rename_i n l2 e1
     split at h
     ·cases h
     ·rename_i ns' l3 e2
      cases h
      obtain ⟨w,rfl,h1⟩:=nameR_some e1
      obtain ⟨ws,h2,rfl,h3⟩:=ih.1 e2
      exact ⟨w::ws,by simp;omega,by simp,allSome_cons h1 h3⟩
  ·rintro ⟨ws,h1,h2,h4⟩
   cases ws with
   | nil=>simp at h2;subst h2;simp [allSome] at h4;subst h4;simp [needsR,takesR]
   | cons w ws =>
    obtain ⟨n,ns',rfl,h5,h6⟩:=allSome_cons_inv h4
    have e2:=ih.2 ⟨ws,by simp at h1;omega,rfl,h6⟩
    have e0:takesR [32] l=some (w++(ws.flatMap (32 :: ·)++10::r)):=takesR_some.2 (by rw [h2];simp)
    simp only [needsR]
    rw [e0]
    simp only
    rw [nameR_of h5 (fun x hx=>words_head hx)]
    simp only
    rw [e2]
def headR (l:List UInt8):Option (Nat × List UInt8):=match takesR [112,97,116,99,104,32] l with
 | none=>none
 | some l1=>match nameR l1 with
  | none=>none
  | some (id,l2)=>match takesR [10] l2 with
   | none=>none
   | some l3=>some (id,l3)
def wantR (l:List UInt8):Option (List Nat × List UInt8):=match takesR [110,101,101,100,115] l with
 | none=>none
 | some l1=>match needsR 21 l1 with
  | none=>none
  | some (ns,l2)=>match takesR [10] l2 with
   | none=>none
   | some l3=>some (ns,l3)
def readR (l:List UInt8):Option PatchD:=if 1400<l.length then none else match headR l with
 | none=>none
 | some (id,l1)=>match wantR l1 with
  | none=>none
  | some (ns,l2)=>match changesR 31 l2 with
   | none=>none
   | some cs=>if cs.length=0 then none else some ⟨id,ns,cs⟩
def isText (l:List UInt8) (p:PatchD):Prop:=l.length≤1400∧∃ (h1:List UInt8) (ws ss:List (List UInt8)),l=[112,97,116,99,104,32]++(h1++10::([110,101,101,100,115]++(ws.flatMap (32 :: ·)++10::ss.flatMap (· ++ [10]))))∧nameS h1=some p.id∧ws.length≤20∧allSome nameS ws=some p.needs∧1≤ss.length∧ss.length≤30∧(∀ s∈ss,10∉s)∧allSome changeS ss=some p.changes
theorem readR_iff {l:List UInt8} {p:PatchD}:readR l=some p↔isText l p:=by
 constructor
 ·intro h
  unfold readR at h
  split at h
  ·cases h
  ·rename_i hl
   split at h
   ·cases h
   ·rename_i id l1 e1
    split at h
    ·cases h
    ·rename_i ns l2 e2
     split at h
     ·cases h
     ·rename_i cs e3
      split at h
      ·cases h
      ·rename_i hcs
       cases h
       obtain ⟨ss,k1,k2,k3,k4⟩:=changesR_iff.1 e3
       have k5:=allSome_length changeS k4
       unfold headR at e1
       split at e1
       ·cases e1
       ·rename_i m1 f1
        split at e1
        ·cases e1
        ·rename_i id' m2 f2
         split at e1
         ·cases e1
         ·rename_i m3 f3
          cases e1
          unfold wantR at e2
          split at e2
          ·cases e2
          ·rename_i m4 f4
           split at e2
           ·cases e2
           ·rename_i ns' m5 f5
            split at e2
            ·cases e2
            ·rename_i m6 f6
             cases e2
             have g1:=takesR_some.1 f1
             obtain ⟨h1,g2,g2'⟩:=nameR_some f2
             have g3:=takesR_some.1 f3
             have g4:=takesR_some.1 f4
             have g6:=takesR_some.1 f6
             rw [g6] at f5
             obtain ⟨ws,g7,g8,g9⟩:=needsR_iff.1 f5
             refine ⟨by omega,h1,ws,ss,?_,g2',by omega,g9,?_,by omega,k3,k4⟩
             ·rw [g1,g2,g3,g4,g8,k2];simp
             ·omega
 ·rintro ⟨hl,h1,ws,ss,rfl,k1,k2,k3,k4,k5,k6,k7⟩
  have a1:headR ([112,97,116,99,104,32]++(h1++10::([110,101,101,100,115]++(ws.flatMap (32 :: ·)++10::ss.flatMap (· ++ [10])))))=some (p.id,[110,101,101,100,115]++(ws.flatMap (32 :: ·)++10::ss.flatMap (· ++ [10]))):=by
   unfold headR
   rw [takesR_some.2 rfl]
   simp only
   rw [nameR_of k1 (fun x hx=>hd_dig rfl hx)]
   simp only
   rw [show takesR [10] (10::([110,101,101,100,115]++(ws.flatMap (32 :: ·)++10::ss.flatMap (· ++ [10]))))=some ([110,101,101,100,115]++(ws.flatMap (32 :: ·)++10::ss.flatMap (· ++ [10]))) from takesR_some.2 rfl]
  have a2:wantR ([110,101,101,100,115]++(ws.flatMap (32 :: ·)++10::ss.flatMap (· ++ [10])))=some (p.needs,ss.flatMap (· ++ [10])):=by
   unfold wantR
   rw [takesR_some.2 rfl]
   simp only
   rw [needsR_iff.2 ⟨ws,by omega,rfl,k3⟩]
   simp only
   rw [show takesR [10] (10::ss.flatMap (· ++ [10]))=some (ss.flatMap (· ++ [10])) from takesR_some.2 rfl]
  have a3:changesR 31 (ss.flatMap (· ++ [10]))=some p.changes:=changesR_iff.2 ⟨ss,by omega,rfl,k6,k7⟩
  have a4:=allSome_length changeS k7
  unfold readR
  rw [if_neg (by omega),a1]
  simp only
  rw [a2]
  simp only
  rw [a3]
  simp only
  rw [if_neg (by omega)]
theorem parseS_iff {l:List UInt8} {p:PatchD}:parseS l=some p↔isText l p:=by
 constructor
 ·intro h
  unfold parseS at h
  split at h
  ·cases h
  ·rename_i hl
   split at h
   ·rename_i l0 l1 rest e0
    split at h
    ·cases h
    ·rename_i hr
     simp only [not_or] at hr
     obtain ⟨r1,r2,r3⟩:=hr
     split at h
     ·rename_i h0 h1 e1
      split at h
      ·rename_i n0 ns e2
       split at h
       ·cases h
       ·rename_i hh
        simp only [not_or,Classical.not_not] at hh
        obtain ⟨rfl,rfl,hn⟩:=hh
        split at h
        ·cases h
        ·rename_i id e3
         split at h
         ·cases h
         ·rename_i needs e4
          split at h
          ·cases h
          ·rename_i cs e5
           cases h
           have hrest:rest=rest.dropLast++[[]]:=by
            have hg:rest.getLast? = some []:=Classical.not_not.1 r2
            obtain ⟨ys,hy⟩:=List.getLast?_eq_some_iff.1 hg
            rw [hy];simp
           obtain ⟨b1,b2⟩:=splitL_inv e0
           rcases b2 with ⟨e,_⟩ | ⟨q,rfl,b3⟩
           ·simp at e
           ·obtain ⟨b4,b5⟩:=splitL_inv b3
            rcases b5 with ⟨e,_⟩ | ⟨q2,rfl,b6⟩
            ·rw [e] at r1;simp at r1
            ·rw [hrest] at b6
             obtain ⟨b7,b8⟩:=splitL_flat_inv b6
             obtain ⟨c1,_,_⟩:=splitL_words_inv e1
             obtain ⟨c2,_,_⟩:=splitL_words_inv e2
             have hlen:rest.dropLast.length=rest.length-1:=by simp
             refine ⟨by omega,h1,ns,rest.dropLast,?_,e3,by omega,e4,by omega,by omega,b8,e5⟩
             rw [c1,c2,b7];simp
      ·cases h
     ·cases h
   ·cases h
 ·rintro ⟨hl,h1,ws,ss,rfl,k1,k2,k3,k4,k5,k6,k7⟩
  have hws:∀ w∈ws,∀ x∈w,isDig x=true:=by
   intro w hw
   have:∀ (ws:List (List UInt8)) (ns:List Nat),allSome nameS ws=some ns→∀ w∈ws,∀ x∈w,isDig x=true:=by
    intro ws
    induction ws with
    | nil=>simp
    | cons v ws ih =>
     intro ns h w hw
     obtain ⟨b,bs,_,e1,e2⟩:=allSome_cons_inv h
     rcases List.mem_cons.1 hw with rfl | hw
     ·exact nameS_dig e1
     ·exact ih bs e2 w hw
   exact this ws _ k3 w hw
  have h1d:=nameS_dig k1
  have s0:splitL 10 ([112,97,116,99,104,32]++(h1++10::([110,101,101,100,115]++(ws.flatMap (32 :: ·)++10::ss.flatMap (· ++ [10])))))=([112,97,116,99,104,32]++h1)::([110,101,101,100,115]++ws.flatMap (32 :: ·))::(ss++[[]]):=by
   rw [← List.append_assoc,splitL_app,← List.append_assoc,splitL_app,splitL_flat k6]
   ·intro e
    simp only [List.mem_append,List.mem_flatMap,List.mem_cons] at e
    rcases e with e | ⟨w,hw,e⟩
    ·revert e;decide
    ·rcases e with e | e
     ·revert e;decide
     ·have:=hws w hw _ e;revert this;decide
   ·intro e
    rcases List.mem_append.1 e with e | e
    ·revert e;decide
    ·have:=h1d _ e;revert this;decide
  have s1:splitL 32 ([112,97,116,99,104,32]++h1)=[[112,97,116,99,104],h1]:=by
   rw [show ([112,97,116,99,104,32]++h1:List UInt8)=[112,97,116,99,104]++32::h1 by simp,splitL_app _ (by decide),splitL_not (not_dig h1d rfl)]
  have s2:splitL 32 ([110,101,101,100,115]++ws.flatMap (32 :: ·))=[110,101,101,100,115]::ws:=splitL_words (by decide) (fun s hs=>not_dig (hws s hs) rfl)
  unfold parseS
  rw [if_neg (by omega),s0]
  simp only
  rw [if_neg (by simp;omega),s1]
  simp only
  rw [s2]
  simp only
  rw [if_neg (by simp;omega),k1]
  simp only
  rw [k3]
  simp only [List.dropLast_concat]
  rw [k7]
theorem readR_eq (l:List UInt8):readR l=parseS l:=by
 apply Option.ext
 intro p
 rw [readR_iff,parseS_iff]
end Go.Proofs.YtlaffgagmncgjabDoor
