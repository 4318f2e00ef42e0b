import Derived.Test.YtlaffgagmncgjabDoorT6
import Derived.Test.YtlaffgagmncgjabDoorM6
import Derived.Test.YtlaffgagmncgjabDoorFrm
set_option autoImplicit false
namespace Go.Proofs.YtlaffgagmncgjabDoor
open Go Go.Pat Go.Proofs
abbrev HLine:=Bool × List UInt8
def mayB (m:Nat):Bool:=decide (m=32)||decide (m=124)
def mtc (x:HLine) (y:List UInt8):Bool:=x.1&&decide (x.2=y)
def lcsR (x:HLine) (f:List (List UInt8)→Nat):List (List UInt8)→Nat
 | []=>0
 | y::b=>if mtc x y=true then f b+1 else max (f (y::b)) (lcsR x f b)
def lcs:List HLine→List (List UInt8)→Nat
 | []=>fun _=>0
 | x::a=>lcsR x (lcs a)
theorem lcs_nil (b:List (List UInt8)):lcs [] b=0:=rfl
theorem lcs_nil2 (a:List HLine):lcs a []=0:=by cases a<;>rfl
theorem lcs_cons (x:HLine) (a:List HLine) (y:List UInt8) (b:List (List UInt8)):lcs (x::a) (y::b)=if mtc x y=true then lcs a b+1 else max (lcs a (y::b)) (lcs (x::a) b):=rfl
theorem lcs_m1 {a:List HLine} (h:∀ (b:List (List UInt8)) (y:List UInt8),lcs a (y::b)≤lcs a b+1) (x:HLine) (b:List (List UInt8)):lcs a b≤lcs (x::a) b:=by
 cases b with
 | nil=>rw [lcs_nil2];exact Nat.zero_le _
 | cons y b =>
  rw [lcs_cons]
  split
  ·exact h b y
  ·exact Nat.le_max_left _ _
theorem lcs_l2:∀ (a:List HLine) (b:List (List UInt8)) (y:List UInt8),lcs a (y::b)≤lcs a b+1:=by
 intro a
 induction a with
 | nil=>intro b y;simp [lcs_nil]
 | cons x a ih =>
  intro b y
  have:=lcs_m1 ih x b
  rw [lcs_cons]
  split
  ·omega
  ·have:=ih b y
   omega
theorem lcs_l1 {a:List HLine} (h:∀ (b:List (List UInt8)) (y:List UInt8),lcs a b≤lcs a (y::b)) (x:HLine) (b:List (List UInt8)):lcs (x::a) b≤lcs a b+1:=by
 induction b with
 | nil=>rw [lcs_nil2];exact Nat.zero_le _
 | cons y b ih =>
  have:=h b y
  rw [lcs_cons]
  split<;>omega
theorem lcs_m2:∀ (a:List HLine) (b:List (List UInt8)) (y:List UInt8),lcs a b≤lcs a (y::b):=by
 intro a
 induction a with
 | nil=>intro b y;simp [lcs_nil]
 | cons x a ih =>
  intro b y
  rw [lcs_cons]
  split
  ·exact lcs_l1 ih x b
  ·exact Nat.le_max_right _ _
theorem lcs_max (x:HLine) (a:List HLine) (y:List UInt8) (b:List (List UInt8)):lcs (x::a) (y::b)=if mtc x y=true then max (max (lcs a (y::b)) (lcs (x::a) b)) (lcs a b+1) else max (lcs a (y::b)) (lcs (x::a) b):=by
 rw [lcs_cons]
 have:=lcs_l2 a b y
 have:=lcs_l1 (lcs_m2 a) x b
 split<;>omega
theorem lcs_le (a:List HLine):∀ b:List (List UInt8),lcs a b≤a.length:=by
 induction a with
 | nil=>intro b;exact Nat.le_refl _
 | cons x a ih=>intro b;have:=lcs_l1 (lcs_m2 a) x b;have:=ih b;simp;omega
section
variable (H:List HLine) (W:List (List UInt8))
def mtS (i j:Nat):Bool:=match H[i]?,W[j]? with
 | some x,some y=>mtc x y
 | _,_=>false
def lcA (i j:Nat):Nat:=lcs (H.drop i) (W.drop j)
def wk:Nat→Nat→Nat→List (Nat × Nat)
 | 0,_,_=>[]
 | f+1,i,j=>if i<H.length∧j<W.length then (if mtS H W i j=true then (i,j)::wk f (i+1) (j+1) else if lcA H W i (j+1)≤lcA H W (i+1) j then wk f (i+1) j else wk f i (j+1)) else []
def prs:List (Nat × Nat):=wk H W (H.length+W.length) 0 0
variable {H W}
theorem lcA_end1 {i j:Nat} (h:H.length≤i):lcA H W i j=0:=by unfold lcA;rw [List.drop_eq_nil_of_le h];rfl
theorem lcA_end2 {i j:Nat} (h:W.length≤j):lcA H W i j=0:=by unfold lcA;rw [List.drop_eq_nil_of_le h,lcs_nil2]
theorem lcA_le (i j:Nat):lcA H W i j≤H.length:=Nat.le_trans (lcs_le _ _) (by simp)
theorem lcA_step {i j:Nat} (hi:i<H.length) (hj:j<W.length):lcA H W i j=if mtS H W i j=true then lcA H W (i+1) (j+1)+1 else max (lcA H W (i+1) j) (lcA H W i (j+1)):=by
 unfold lcA mtS
 rw [List.drop_eq_getElem_cons hi,List.drop_eq_getElem_cons hj,lcs_cons,List.getElem?_eq_getElem hi,List.getElem?_eq_getElem hj]
theorem lcA_max {i j:Nat} (hi:i<H.length) (hj:j<W.length):lcA H W i j=if mtS H W i j=true then max (max (lcA H W (i+1) j) (lcA H W i (j+1))) (lcA H W (i+1) (j+1)+1) else max (lcA H W (i+1) j) (lcA H W i (j+1)):=by
 unfold lcA mtS
 rw [List.drop_eq_getElem_cons hi,List.drop_eq_getElem_cons hj,lcs_max,List.getElem?_eq_getElem hi,List.getElem?_eq_getElem hj]
theorem wk_fuel:∀ (f g i j:Nat),(H.length-i)+(W.length-j)≤f→f≤g→wk H W g i j=wk H W f i j:=by
 intro f
 induction f with
 | zero =>
  intro g i j h1 h2
  cases g with
  | zero=>rfl
  | succ g=>unfold wk;rw [if_neg (by omega)]
 | succ f ih =>
  intro g i j h1 h2
  cases g with
  | zero=>omega
  | succ g =>
   unfold wk
   by_cases h:i<H.length∧j<W.length
   ·rw [if_pos h,if_pos h,ih g (i+1) (j+1) (by omega) (by omega),ih g (i+1) j (by omega) (by omega),ih g i (j+1) (by omega) (by omega)]
   ·rw [if_neg h,if_neg h]
def wkA (i j:Nat):List (Nat × Nat):=wk H W (H.length-i+(W.length-j)) i j
theorem wkA_end {i j:Nat} (h:¬ (i<H.length∧j<W.length)):wkA (H:=H) (W:=W) i j=[]:=by
 unfold wkA
 cases e:H.length-i+(W.length-j) with
 | zero=>rfl
 | succ f=>unfold wk;rw [if_neg h]
theorem wkA_step {i j:Nat} (h:i<H.length∧j<W.length):wkA (H:=H) (W:=W) i j=if mtS H W i j=true then (i,j)::wkA (H:=H) (W:=W) (i+1) (j+1) else if lcA H W i (j+1)≤lcA H W (i+1) j then wkA (H:=H) (W:=W) (i+1) j else wkA (H:=H) (W:=W) i (j+1):=by
 unfold wkA
 obtain ⟨f,e⟩:∃ f,H.length-i+(W.length-j)=f+1:=⟨H.length-i+(W.length-j)-1,by omega⟩
 rw [e]
 conv=>lhs;unfold wk
 rw [if_pos h,wk_fuel (H.length-(i+1)+(W.length-(j+1))) f (i+1) (j+1) (Nat.le_refl _) (by omega),wk_fuel (H.length-(i+1)+(W.length-j)) f (i+1) j (Nat.le_refl _) (by omega),wk_fuel (H.length-i+(W.length-(j+1))) f i (j+1) (Nat.le_refl _) (by omega)]
theorem prs_eq:prs H W=wkA (H:=H) (W:=W) 0 0:=rfl
def Inc (l:List (Nat × Nat)):Prop:=l.Pairwise fun p q=>p.1<q.1∧p.2<q.2
theorem wk_low:∀ (f i j:Nat) (p:Nat × Nat),p∈wk H W f i j→i≤p.1∧j≤p.2∧p.1<H.length∧p.2<W.length:=by
 intro f
 induction f with
 | zero=>intro i j p hp;simp [wk] at hp
 | succ f ih =>
  intro i j p hp
  unfold wk at hp
  split at hp
  ·rename_i h
   split at hp
   ·rcases List.mem_cons.1 hp with e | e
    ·subst e;exact ⟨Nat.le_refl _,Nat.le_refl _,h.1,h.2⟩
    ·have:=ih _ _ _ e;omega
   ·split at hp
    ·have:=ih _ _ _ hp;omega
    ·have:=ih _ _ _ hp;omega
  ·simp at hp
theorem wk_inc:∀ (f i j:Nat),Inc (wk H W f i j):=by
 intro f
 induction f with
 | zero=>intro i j;exact List.Pairwise.nil
 | succ f ih =>
  intro i j
  unfold wk
  split
  ·split
   ·refine List.Pairwise.cons (fun q hq=>?_) (ih _ _)
    have:=wk_low _ _ _ _ hq
    omega
   ·split<;>exact ih _ _
  ·exact List.Pairwise.nil
end
def atJ (l:List (Nat × Nat)) (j:Nat):Option Nat:=(l.find? fun p=>decide (p.2=j)).map Prod.fst
def atI (l:List (Nat × Nat)) (i:Nat):Option Nat:=(l.find? fun p=>decide (p.1=i)).map Prod.snd
theorem inc_inj {l:List (Nat × Nat)} (h:Inc l):∀ p∈l,∀ q∈l,(p.1=q.1∨p.2=q.2)→p=q:=by
 induction l with
 | nil=>intro p hp;simp at hp
 | cons x l ih =>
  obtain ⟨h1,h2⟩:=List.pairwise_cons.1 h
  intro p hp q hq e
  rcases List.mem_cons.1 hp with a | a<;>rcases List.mem_cons.1 hq with b | b
  ·rw [a,b]
  ·subst a;have:=h1 q b;omega
  ·subst b;have:=h1 p a;omega
  ·exact ih h2 p a q b e
theorem atJ_iff {l:List (Nat × Nat)} (h:Inc l) (i j:Nat):atJ l j=some i↔(i,j)∈l:=by
 unfold atJ
 constructor
 ·intro e
  obtain ⟨p,hp,rfl⟩:=Option.map_eq_some_iff.1 e
  have h1:=List.mem_of_find?_eq_some hp
  have h2:=List.find?_some hp
  simp at h2
  subst h2
  exact h1
 ·intro hm
  cases hf:l.find? fun p=>decide (p.2=j) with
  | none=>have:=List.find?_eq_none.1 hf _ hm;simp at this
  | some p =>
   have h1:=List.mem_of_find?_eq_some hf
   have h2:=List.find?_some hf
   simp at h2
   have:=inc_inj h _ h1 _ hm (.inr h2)
   subst this
   rfl
theorem atI_iff {l:List (Nat × Nat)} (h:Inc l) (i j:Nat):atI l i=some j↔(i,j)∈l:=by
 unfold atI
 constructor
 ·intro e
  obtain ⟨p,hp,rfl⟩:=Option.map_eq_some_iff.1 e
  have h1:=List.mem_of_find?_eq_some hp
  have h2:=List.find?_some hp
  simp at h2
  subst h2
  exact h1
 ·intro hm
  cases hf:l.find? fun p=>decide (p.1=i) with
  | none=>have:=List.find?_eq_none.1 hf _ hm;simp at this
  | some p =>
   have h1:=List.mem_of_find?_eq_some hf
   have h2:=List.find?_some hf
   simp at h2
   have:=inc_inj h _ h1 _ hm (.inl h2)
   subst this
   rfl
theorem atJ_snoc {l:List (Nat × Nat)} {a b:Nat} (hl:∀ p∈l,p.2<b) (j:Nat):atJ (l++[(a,b)]) j=if j=b then some a else atJ l j:=by
 unfold atJ
 rw [List.find?_append]
 by_cases e:j=b
 ·subst e
  rw [if_pos rfl,List.find?_eq_none.2 (fun p hp=>by have:=hl p hp;simp;omega)]
  simp
 ·rw [if_neg e,show List.find? (fun p:Nat × Nat=>decide (p.2=j)) [(a,b)]=none from by simp;omega]
  simp
theorem atI_snoc {l:List (Nat × Nat)} {a b:Nat} (hl:∀ p∈l,p.1<a) (i:Nat):atI (l++[(a,b)]) i=if i=a then some b else atI l i:=by
 unfold atI
 rw [List.find?_append]
 by_cases e:i=a
 ·subst e
  rw [if_pos rfl,List.find?_eq_none.2 (fun p hp=>by have:=hl p hp;simp;omega)]
  simp
 ·rw [if_neg e,show List.find? (fun p:Nat × Nat=>decide (p.1=i)) [(a,b)]=none from by simp;omega]
  simp
theorem atI_none {l:List (Nat × Nat)} {i:Nat} (h:∀ p∈l,p.1≠i):atI l i=none:=by
 unfold atI
 rw [List.find?_eq_none.2 (fun p hp=>by simpa using h p hp)];rfl
theorem atJ_none {l:List (Nat × Nat)} {i:Nat} (h:∀ p∈l,p.2≠i):atJ l i=none:=by
 unfold atJ
 rw [List.find?_eq_none.2 (fun p hp=>by simpa using h p hp)];rfl
structure RC where
 (id:Nat) (R:List RefD) (pr:List (Nat × Nat)) (W:List (List UInt8)) (ld:Nat→Nat→Bool)
namespace RC
variable (c:RC)
def st (j:Nat):Option Nat:=atJ c.pr j
def own (j:Nat):Nat:=((List.range j).filter fun k=>(c.st k).isNone).length
def ref (i:Nat):RefD:=c.R.getD i ⟨0,0⟩
def nm (j:Nat):RefD:=match c.st j with
 | some i=>c.ref i
 | none=>⟨c.id,c.own j⟩
def up (j:Nat):RefD:=if j=0 then ⟨0,0⟩ else c.nm (j-1)
def dnF:List Nat→RefD
 | []=>⟨0,1⟩
 | k::l=>if (c.st k).isSome then c.nm k else dnF l
def dn (j:Nat):RefD:=c.dnF (List.range' (j+1) (c.W.length-(j+1)))
def put (j:Nat):List ChangeD:=match c.st j with
 | none=>[⟨1,c.up j,c.dn j,c.W.getD j []⟩]
 | some i=>if j=0 then [] else match c.st (j-1) with
  | none=>[]
  | some k=>if c.ld k i=true then [] else [⟨3,c.ref k,c.ref i,[]⟩]
def del (i:Nat):List ChangeD:=if (atI c.pr i).isNone then [⟨2,c.ref i,⟨0,0⟩,[]⟩] else []
def dels (n:Nat):List ChangeD:=(List.range n).flatMap c.del
def puts (m:Nat):List ChangeD:=(List.range m).flatMap c.put
def ch:List ChangeD:=c.dels c.R.length++c.puts c.W.length
theorem dels_succ (n:Nat):c.dels (n+1)=c.dels n++c.del n:=by unfold dels;rw [List.range_succ,List.flatMap_append];simp
theorem puts_succ (n:Nat):c.puts (n+1)=c.puts n++c.put n:=by unfold puts;rw [List.range_succ,List.flatMap_append];simp
theorem own_succ (j:Nat):c.own (j+1)=c.own j+(if (c.st j).isNone then 1 else 0):=by
 unfold own
 rw [List.range_succ,List.filter_append,List.length_append]
 congr 1
 by_cases h:(c.st j).isNone=true<;>simp [h]
theorem own_le (j:Nat):c.own j≤j:=by unfold own;exact Nat.le_trans (List.length_filter_le _ _) (by simp)
theorem put_len (j:Nat):(c.put j).length≤1:=by
 unfold put
 split
 ·simp
 ·split
  ·simp
  ·split
   ·simp
   ·split<;>simp
theorem del_len (j:Nat):(c.del j).length≤1:=by unfold del;split<;>simp
theorem dels_len (n:Nat):(c.dels n).length≤n:=by
 induction n with
 | zero=>simp [dels]
 | succ n ih=>rw [dels_succ,List.length_append];have:=c.del_len n;omega
theorem puts_len (n:Nat):(c.puts n).length≤n:=by
 induction n with
 | zero=>simp [puts]
 | succ n ih=>rw [puts_succ,List.length_append];have:=c.put_len n;omega
end RC
def besL (ls:List LineD) (r:RefD):List LineD:=ls.filter fun x=>x.up.eqb r||x.down.eqb r
def spk (ls:List LineD) (c:ChangeD):List RefD:=if c.kind=2 then c.up::(besL ls c.up).map LineD.ref else [c.up,c.down]
def spkN (id:Nat) (l:List RefD):List Nat:=(l.filter fun r=>decide (0<r.p) && !decide (r.p=id)).map RefD.p
def besB (r:RefD) (p:PatchD):Bool:=p.changes.any fun d=>decide (d.kind=1)&&(d.up.eqb r||d.down.eqb r)
def ndB (l:List ChangeD) (p:PatchD):Bool:=l.any fun c=>(decide (c.up.p=p.id)||decide (c.down.p=p.id))||(decide (c.kind=2)&&besB c.up p)
def ndS (ps:List PatchD) (l:List ChangeD):List Nat:=(ps.filter (ndB l)).map PatchD.id
def recS (ps:List PatchD) (c:RC):Nat × List UInt8:=if 30<c.ch.length then (7,[]) else if c.ch.length=0 then (11,[]) else (0,textS ⟨c.id,ndS ps c.ch,c.ch⟩)
end Go.Proofs.YtlaffgagmncgjabDoor
namespace Go.Proofs.YtlaffgagmncgjabDoor
open Go Go.Pat Go.Proofs
theorem linesOf_ref {p:PatchD} {l:LineD} (h:l∈linesOfS p):l.ref.p=p.id:=by
 obtain ⟨⟨c,i⟩,_,rfl⟩:=List.mem_map.1 h
 rfl
theorem linesOf_nodup (p:PatchD):((linesOfS p).map LineD.ref).Nodup:=by
 unfold linesOfS linesUp
 rw [List.map_map,List.nodup_iff_pairwise_ne,List.pairwise_map]
 rw [List.pairwise_iff_getElem]
 intro i j hi hj hij e
 simp only [List.getElem_zipIdx,Function.comp,RefD.mk.injEq] at e
 omega
theorem refs_nodup {ps:List PatchD} (h:(ps.map PatchD.id).Nodup):((linesS ps).map LineD.ref).Nodup:=by
 induction ps with
 | nil=>simp [linesS]
 | cons p ps ih =>
  rw [List.map_cons,List.nodup_cons] at h
  have e:linesS (p::ps)=linesOfS p++linesS ps:=by simp [linesS]
  rw [e,List.map_append,List.nodup_append]
  refine ⟨linesOf_nodup p,ih h.2,fun a ha b hb hab=>?_⟩
  obtain ⟨l,hl,rfl⟩:=List.mem_map.1 ha
  obtain ⟨l',hl',rfl⟩:=List.mem_map.1 hb
  obtain ⟨q,hq,hl'⟩:=List.mem_flatMap.1 hl'
  have h1:=linesOf_ref hl
  have h2:=linesOf_ref hl'
  exact h.1 (List.mem_map.2 ⟨q,hq,by rw [← h2,← hab,h1]⟩)
theorem eqb_iff {a b:RefD}:a.eqb b=true↔a=b:=by
 unfold RefD.eqb
 obtain ⟨a1,a2⟩:=a
 obtain ⟨b1,b2⟩:=b
 simp
theorem ref_at {ps:List PatchD} (h:(ps.map PatchD.id).Nodup) {i j:Nat} (hi:i<nX ps) (hj:j<nX ps) (e:(lnX ps i).ref=(lnX ps j).ref):i=j:=by
 have hn:=refs_nodup h
 rw [List.nodup_iff_pairwise_ne,List.pairwise_iff_getElem] at hn
 have g:∀ k,k<nX ps→((linesS ps).map LineD.ref)[k]? = some (lnX ps k).ref:=fun k hk=>by rw [List.getElem?_map,lnX_get hk];rfl
 have hl:((linesS ps).map LineD.ref).length=nX ps:=by simp [nX]
 have g':∀ k (hk:k<nX ps),((linesS ps).map LineD.ref)[k]'(hl ▸ hk)=(lnX ps k).ref:=fun k hk=>by
  have:=g k hk
  rw [List.getElem?_eq_getElem (hl ▸ hk)] at this
  exact Option.some.inj this
 rcases Nat.lt_trichotomy i j with q | q | q
 ·exact absurd (by rw [g' i hi,g' j hj];exact e) (hn i j (hl ▸ hi) (hl ▸ hj) q)
 ·exact q
 ·exact absurd (by rw [g' i hi,g' j hj];exact e.symm) (hn j i (hl ▸ hj) (hl ▸ hi) q)
theorem place_iff {ps:List PatchD} (h:(ps.map PatchD.id).Nodup) {r:RefD} {i:Nat}:placeS (linesS ps) r=some i↔i<nX ps∧(lnX ps i).ref=r:=by
 unfold placeS
 rw [List.findIdx?_eq_some_iff_getElem]
 have g':∀ k (hk:k<(linesS ps).length),(linesS ps)[k]=lnX ps k:=fun k hk=>by
  have:=lnX_get (ps:=ps) hk
  rw [List.getElem?_eq_getElem hk] at this
  exact Option.some.inj this
 constructor
 ·rintro ⟨hi,e,_⟩
  rw [g' i hi] at e
  exact ⟨hi,eqb_iff.1 e⟩
 ·rintro ⟨hi,e⟩
  have hi2:i<(linesS ps).length:=hi
  refine ⟨hi2,by rw [g' i hi2];exact eqb_iff.2 e,fun j hj=>?_⟩
  have hj':j<(linesS ps).length:=by omega
  rw [g' j hj']
  intro e'
  have:=ref_at h (i:=j) (j:=i) hj' hi2 ((eqb_iff.1 e').trans e.symm)
  omega
theorem ordTo_nodup {dd:Nat→Bool} {fst:Nat→Nat→Bool}:∀ t,(ordTo dd fst t).Nodup:=by
 intro t
 induction t with
 | zero=>simp [ordTo]
 | succ t ih =>
  rw [ordTo_succ]
  split
  ·exact ih
  ·have hno:t∉ordTo dd fst t:=fun h=>by have:=(ordTo_mem t h).1;omega
   unfold insW
   have e:(ordTo dd fst t).takeWhile (fun x=>fst x t)++(ordTo dd fst t).dropWhile (fun x=>fst x t)=ordTo dd fst t:=List.takeWhile_append_dropWhile
   rw [← e] at ih hno
   rw [List.nodup_append] at ih ⊢
   rw [List.nodup_cons]
   rw [List.mem_append,not_or] at hno
   refine ⟨ih.1,⟨hno.2,ih.2.1⟩,fun a ha b hb=>?_⟩
   rcases List.mem_cons.1 hb with q | q
   ·subst q;exact fun e=>hno.1 (e ▸ ha)
   ·exact ih.2.2 a ha b q
def xH (ps:List PatchD) (orx:Nat→Bool) (L:List Nat):List HLine:=L.map fun k=>(mayB (markX ps orx k),(lnX ps k).text)
def xLd (ps:List PatchD) (L:List Nat) (a b:Nat):Bool:=match L[a]?,L[b]? with
 | some k,some l=>getB (onS ps) k l
 | _,_=>false
def xRC (ps:List PatchD) (orx:Nat→Bool) (L:List Nat) (id:Nat) (W:List (List UInt8)):RC:=⟨id,L.map (fun k=>(lnX ps k).ref),prs (xH ps orx L) W,W,xLd ps L⟩
theorem nats_ext:∀ {a b:List Nat},a.Pairwise (· < ·)→b.Pairwise (· < ·)→(∀ x,x∈a↔x∈b)→a=b
 | [],b,_,_,hm=>by
  cases b with
  | nil=>rfl
  | cons y b=>exact absurd ((hm y).2 (by simp)) (by simp)
 | x::a,[],_,_,hm=>absurd ((hm x).1 (by simp)) (by simp)
 | x::a,y::b,h,h',hm=>by
  simp only [List.pairwise_cons] at h h'
  have hxy:x=y:=by
   rcases List.mem_cons.1 ((hm x).1 (by simp)) with e | e
   ·exact e
   ·rcases List.mem_cons.1 ((hm y).2 (by simp)) with e' | e'
    ·exact e'.symm
    ·have:=h.1 y e';have:=h'.1 x e;omega
  subst hxy
  congr 1
  refine nats_ext h.2 h'.2 fun p=>⟨fun hp=>?_,fun hp=>?_⟩
  ·rcases List.mem_cons.1 ((hm p).1 (List.mem_cons_of_mem _ hp)) with e | e
   ·have:=h.1 p hp;omega
   ·exact e
  ·rcases List.mem_cons.1 ((hm p).2 (List.mem_cons_of_mem _ hp)) with e | e
   ·have:=h'.1 p hp;omega
   ·exact e
structure ChOk (ps:List PatchD) (id:Nat) (c:ChangeD):Prop where
 up:c.up.p=0∨c.up.p=id∨c.up.p∈ps.map PatchD.id
 down:c.down.p=0∨c.down.p=id∨c.down.p∈ps.map PatchD.id
 del:c.kind=2→c.down.p=0
theorem line_iff {ps:List PatchD} {r:RefD} {x:Nat}:(∃ l∈besL (linesS ps) r,l.ref.p=x)↔∃ p∈ps,p.id=x∧besB r p=true:=by
 unfold besL besB linesS linesOfS linesUp
 constructor
 ·rintro ⟨l,hl,e⟩
  obtain ⟨hl,hb⟩:=List.mem_filter.1 hl
  obtain ⟨p,hp,hl⟩:=List.mem_flatMap.1 hl
  obtain ⟨⟨d,i⟩,hd,rfl⟩:=List.mem_map.1 hl
  have h1:=List.mk_mem_zipIdx_iff_getElem?.1 hd
  have h2:=List.mem_filter.1 (List.mem_of_getElem? h1)
  exact ⟨p,hp,e,List.any_eq_true.2 ⟨d,h2.1,by rw [h2.2];exact hb⟩⟩
 ·rintro ⟨p,hp,e,hb⟩
  obtain ⟨d,hd,hb⟩:=List.any_eq_true.1 hb
  rw [Bool.and_eq_true] at hb
  obtain ⟨i,hi⟩:=List.getElem?_of_mem (List.mem_filter.2 ⟨hd,hb.1⟩:d∈p.changes.filter fun c=>decide (c.kind=1))
  exact ⟨⟨⟨p.id,i⟩,d.up,d.down,d.text⟩,List.mem_filter.2 ⟨List.mem_flatMap.2 ⟨p,hp,List.mem_map.2 ⟨(d,i),List.mk_mem_zipIdx_iff_getElem?.2 hi,rfl⟩⟩,hb.2⟩,e⟩
theorem nd_same {ps:List PatchD} (hinv:Inv ps) {id:Nat} (hid:id∉ps.map PatchD.id) {ch:List ChangeD} (hc:∀ c∈ch,ChOk ps id c) {l:List Nat} (hs:l.Pairwise (· < ·))
  (hm:∀ x,x∈l↔∃ c∈ch,x∈spkN id (spk (linesS ps) c)):l=ndS ps ch:=by
 refine nats_ext hs (List.Pairwise.sublist (List.filter_sublist.map PatchD.id) hinv.rise) fun x=>?_
 rw [hm]
 unfold ndS spkN
 simp only [List.mem_map,List.mem_filter,Bool.and_eq_true,decide_eq_true_eq,Bool.not_eq_true',decide_eq_false_iff_not]
 constructor
 ·rintro ⟨c,hcm,r,⟨hr,h0,hne⟩,rfl⟩
  have hk:=hc c hcm
  unfold spk at hr
  split at hr
  ·rename_i h2
   rcases List.mem_cons.1 hr with e | e
   ·subst e
    have:c.up.p∈ps.map PatchD.id:=by
     rcases hk.up with e | e | e
     ·omega
     ·exact absurd e hne
     ·exact e
    obtain ⟨p,hp,e⟩:=List.mem_map.1 this
    exact ⟨p,⟨hp,List.any_eq_true.2 ⟨c,hcm,by simp [e]⟩⟩,e⟩
   ·obtain ⟨y,hy,rfl⟩:=List.mem_map.1 e
    obtain ⟨p,hp,e,hb⟩:=line_iff.1 ⟨y,hy,rfl⟩
    exact ⟨p,⟨hp,List.any_eq_true.2 ⟨c,hcm,by simp [h2,hb]⟩⟩,e⟩
  ·have:(c.up.p=r.p∨c.down.p=r.p)∧r.p∈ps.map PatchD.id:=by
    simp only [List.mem_cons,List.not_mem_nil,or_false] at hr
    rcases hr with e | e
    ·subst e
     refine ⟨.inl rfl,?_⟩
     rcases hk.up with e | e | e
     ·omega
     ·exact absurd e hne
     ·exact e
    ·subst e
     refine ⟨.inr rfl,?_⟩
     rcases hk.down with e | e | e
     ·omega
     ·exact absurd e hne
     ·exact e
   obtain ⟨h1,h2⟩:=this
   obtain ⟨p,hp,e⟩:=List.mem_map.1 h2
   refine ⟨p,⟨hp,List.any_eq_true.2 ⟨c,hcm,?_⟩⟩,e⟩
   rw [← e] at h1
   rcases h1 with h1 | h1<;>simp [h1]
 ·rintro ⟨p,⟨hp,hb⟩,rfl⟩
  have hmem:p.id∈ps.map PatchD.id:=List.mem_map.2 ⟨p,hp,rfl⟩
  obtain ⟨t,ht,_⟩:=hinv.fine p hp
  have hpos:0<p.id:=Nat.pos_of_ne_zero (parse_ok ht).2
  have hne:¬ p.id=id:=fun e=>hid (e ▸ hmem)
  obtain ⟨c,hcm,h⟩:=List.any_eq_true.1 hb
  have hk:=hc c hcm
  simp only [Bool.or_eq_true,Bool.and_eq_true,decide_eq_true_eq] at h
  rcases h with (h | h) | ⟨h2,h⟩
  ·refine ⟨c,hcm,c.up,⟨?_,by omega,by omega⟩,h⟩
   unfold spk
   split<;>simp
  ·refine ⟨c,hcm,c.down,⟨?_,by omega,by omega⟩,h⟩
   unfold spk
   rw [if_neg (fun e=>by have:=hk.del e;omega)]
   simp
  ·obtain ⟨y,hy,e⟩:=line_iff.2 ⟨p,hp,rfl,h⟩
   refine ⟨c,hcm,y.ref,⟨?_,by omega,by omega⟩,e⟩
   unfold spk
   rw [if_pos h2]
   exact List.mem_cons_of_mem _ (List.mem_map.2 ⟨y,hy,rfl⟩)
theorem RC.kind3 (c:RC) {d:ChangeD} (hd:d∈c.ch):kind3 d:=by
 unfold RC.ch at hd
 rcases List.mem_append.1 hd with h | h
 ·obtain ⟨i,_,h⟩:=List.mem_flatMap.1 h
  unfold RC.del at h
  split at h
  ·simp only [List.mem_singleton] at h;subst h;exact .inr (.inl rfl)
  ·simp at h
 ·obtain ⟨j,_,h⟩:=List.mem_flatMap.1 h
  unfold RC.put at h
  split at h
  ·simp only [List.mem_singleton] at h;subst h;exact .inl rfl
  ·split at h
   ·simp at h
   ·split at h
    ·simp at h
    ·split at h
     ·simp at h
     ·simp only [List.mem_singleton] at h;subst h;exact .inr (.inr rfl)
structure RcOk (ps:List PatchD) (c:RC):Prop where
 id:c.id<10000∧c.id≠0
 out:c.id∉ps.map PatchD.id
 ref:∀ r∈c.R,RefD.ok r∧r.p∈ps.map PatchD.id
 inc:Inc c.pr
 low:∀ p∈c.pr,p.1<c.R.length∧p.2<c.W.length
 want:c.W.length≤24∧∀ t∈c.W,t.length≤12
namespace RcOk
variable {ps:List PatchD} {c:RC} (k:RcOk ps c)
include k
theorem st {j i:Nat} (h:c.st j=some i):i<c.R.length∧j<c.W.length:=k.low _ ((atJ_iff k.inc i j).1 h)
theorem refOk {i:Nat} (h:i<c.R.length):RefD.ok (c.ref i)∧(c.ref i).p∈ps.map PatchD.id:=by
 have e:c.ref i=c.R[i]:=by simp [RC.ref,List.getD_eq_getElem?_getD,h]
 rw [e];exact k.ref _ (List.getElem_mem h)
theorem nmOk {j:Nat} (h:j<24):RefD.ok (c.nm j)∧((c.nm j).p=c.id∨(c.nm j).p∈ps.map PatchD.id):=by
 unfold RC.nm
 split
 ·rename_i i e
  have:=k.refOk (k.st e).1
  exact ⟨this.1,.inr this.2⟩
 ·have:=c.own_le j
  have:=k.id
  exact ⟨⟨this.1,by show c.own j<10000;omega,fun e=>absurd e this.2⟩,.inl rfl⟩
theorem upOk {j:Nat} (h:j<24):RefD.ok (c.up j)∧((c.up j).p=0∨(c.up j).p=c.id∨(c.up j).p∈ps.map PatchD.id):=by
 unfold RC.up
 split
 ·exact ⟨⟨by decide,by decide,fun _=>by decide⟩,.inl rfl⟩
 ·have:=k.nmOk (j:=j-1) (by omega)
  exact ⟨this.1,.inr this.2⟩
theorem dnOk:∀ (l:List Nat),(∀ j∈l,j<24)→RefD.ok (c.dnF l)∧((c.dnF l).p=0∨(c.dnF l).p=c.id∨(c.dnF l).p∈ps.map PatchD.id)
 | [],_=>⟨⟨Nat.zero_lt_succ _,Nat.one_lt_succ_succ _,fun _=>Nat.one_lt_two⟩,.inl rfl⟩
 | j::l,h=>by
  unfold RC.dnF
  split
  ·have:=k.nmOk (h j (by simp))
   exact ⟨this.1,.inr this.2⟩
  ·exact dnOk l fun x hx=>h x (List.mem_cons_of_mem _ hx)
theorem chOk {d:ChangeD} (h:d∈c.ch):ChangeD.ok d∧ChOk ps c.id d:=by
 have hw:=k.want
 unfold RC.ch at h
 rcases List.mem_append.1 h with h | h
 ·obtain ⟨i,hi,h⟩:=List.mem_flatMap.1 h
  unfold RC.del at h
  split at h
  ·simp only [List.mem_singleton] at h
   subst h
   have:=k.refOk (List.mem_range.1 hi)
   exact ⟨⟨this.1,⟨Nat.zero_lt_succ _,Nat.zero_lt_succ _,fun _=>Nat.zero_lt_two⟩,by simp⟩,⟨.inr (.inr this.2),.inl rfl,fun _=>rfl⟩⟩
  ·simp at h
 ·obtain ⟨j,hj,h⟩:=List.mem_flatMap.1 h
  have hj':=List.mem_range.1 hj
  unfold RC.put at h
  split at h
  ·simp only [List.mem_singleton] at h
   subst h
   have h1:=k.upOk (j:=j) (by omega)
   have h2:=k.dnOk (List.range' (j+1) (c.W.length-(j+1))) (fun x hx=>by have:=List.mem_range'_1.1 hx;omega)
   have h3:c.W.getD j []∈c.W:=by simp [List.getD_eq_getElem?_getD,hj']
   exact ⟨⟨h1.1,h2.1,hw.2 _ h3⟩,⟨h1.2,h2.2,fun e=>by simp at e⟩⟩
  ·rename_i i e
   split at h
   ·simp at h
   ·split at h
    ·simp at h
    ·rename_i i' e'
     split at h
     ·simp at h
     ·simp only [List.mem_singleton] at h
      subst h
      have h1:=k.refOk (k.st e).1
      have h2:=k.refOk (k.st e').1
      exact ⟨⟨h2.1,h1.1,by simp⟩,⟨.inr (.inr h2.2),.inr (.inr h1.2),fun e=>by simp at e⟩⟩
theorem pOk (hinv:Inv ps) (hl:c.ch.length≤30):PatchD.ok ⟨c.id,ndS ps c.ch,c.ch⟩:=by
 refine ⟨k.id.1,fun n hn=>?_,fun d hd=>(k.chOk hd).1,hl,?_⟩
 ·obtain ⟨p,hp,rfl⟩:=List.mem_map.1 hn
  exact (hinv.ok (List.mem_filter.1 hp).1).id
 ·show (ndS ps c.ch).length≤20
  unfold ndS
  have:=List.length_filter_le (ndB c.ch) ps
  have:=hinv.len
  rw [List.length_map];omega
end RcOk
theorem xRC_ok {ps:List PatchD} (hinv:Inv ps) {orx:Nat→Bool} {sd:Nat→Int} {id:Nat} {W:List (List UInt8)} (h1:id<10000∧id≠0) (h2:id∉ps.map PatchD.id) (h3:W.length≤24∧∀ t∈W,t.length≤12):RcOk ps (xRC ps orx (ordX ps sd) id W):=by
 refine ⟨h1,h2,fun r hr=>?_,wk_inc _ _ _,fun p hp=>?_,h3⟩
 ·obtain ⟨k,hk,rfl⟩:=List.mem_map.1 hr
  have hk1:=(ordX_mem k hk).1
  have hm:=List.mem_of_getElem? (lnX_get hk1)
  obtain ⟨q,hq,e1,e2⟩:=mem_linesS.1 ⟨_,hm,rfl⟩
  have hqk:=hinv.ok hq
  have:=ownN_le q.changes
  have:=hqk.len
  obtain ⟨t,ht,_⟩:=hinv.fine q hq
  refine ⟨⟨by rw [e1];exact hqk.id,by omega,fun e=>?_⟩,by rw [e1];exact List.mem_map.2 ⟨q,hq,rfl⟩⟩
  exact absurd (e1.symm.trans e) (parse_ok ht).2
 ·have:=wk_low _ _ _ _ hp
  simp only [xRC,xH,List.length_map] at this ⊢
  omega
end Go.Proofs.YtlaffgagmncgjabDoor
