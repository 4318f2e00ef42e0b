import Derived.Test.YtlaffgagmncgjaaGreatDoorT6
import Derived.Test.YtlaffgagmncgjaaGreatDoorT24
import Derived.Test.YtlaffgagmncgjaaGreatDoorM6
import Derived.Test.YtlaffgagmncgjaaGreatDoorFrm
import Derived.Test.YtlaffgagmncgjaaGreatDoorT27
set_option maxRecDepth 20000
set_option maxHeartbeats 6400000
set_option autoImplicit false
namespace Go.Proofs.YtlaffgagmncgjaaGreatDoor
open Tryz Go Go.Pat Go.Proofs
abbrev HLine:=Bool × List UInt8
def mayB (m:Nat):Bool:=decide (m=32)||decide (m=124)
def mtc (x:HLine) (y:List UInt8):Bool:=x.1&&decide (x.2=y)
def lcsR (x:HLine) (f:List (List UInt8)→Nat):List (List UInt8)→Nat
 | []=>0
 | y::b=>if mtc x y=true then f b+1 else max (f (y::b)) (lcsR x f b)
def lcs:List HLine→List (List UInt8)→Nat
 | []=>fun _=>0
 | x::a=>lcsR x (lcs a)
theorem lcs_nil (b:List (List UInt8)):lcs [] b=0:=rfl
theorem lcs_nil2 (a:List HLine):lcs a []=0:=by cases a<;>rfl
theorem lcs_cons (x:HLine) (a:List HLine) (y:List UInt8) (b:List (List UInt8)):lcs (x::a) (y::b)=if mtc x y=true then lcs a b+1 else max (lcs a (y::b)) (lcs (x::a) b):=rfl
theorem lcs_m1 {a:List HLine} (h:∀ (b:List (List UInt8)) (y:List UInt8),lcs a (y::b)≤lcs a b+1) (x:HLine) (b:List (List UInt8)):lcs a b≤lcs (x::a) b:=by
 cases b with
 | nil=>rw [lcs_nil2];exact Nat.zero_le _
 | cons y b =>
  rw [lcs_cons]
  split
  ·exact h b y
  ·exact Nat.le_max_left _ _
theorem lcs_l2:∀ (a:List HLine) (b:List (List UInt8)) (y:List UInt8),lcs a (y::b)≤lcs a b+1:=by
 intro a
 induction a with
 | nil=>intro b y;simp [lcs_nil]
 | cons x a ih =>
  intro b y
  have:=lcs_m1 ih x b
  rw [lcs_cons]
  split
  ·omega
  ·have:=ih b y
   omega
theorem lcs_l1 {a:List HLine} (h:∀ (b:List (List UInt8)) (y:List UInt8),lcs a b≤lcs a (y::b)) (x:HLine) (b:List (List UInt8)):lcs (x::a) b≤lcs a b+1:=by
 induction b with
 | nil=>rw [lcs_nil2];exact Nat.zero_le _
 | cons y b ih =>
  have:=h b y
  rw [lcs_cons]
  split<;>omega
theorem lcs_m2:∀ (a:List HLine) (b:List (List UInt8)) (y:List UInt8),lcs a b≤lcs a (y::b):=by
 intro a
 induction a with
 | nil=>intro b y;simp [lcs_nil]
 | cons x a ih =>
  intro b y
  rw [lcs_cons]
  split
  ·exact lcs_l1 ih x b
  ·exact Nat.le_max_right _ _
theorem lcs_max (x:HLine) (a:List HLine) (y:List UInt8) (b:List (List UInt8)):lcs (x::a) (y::b)=if mtc x y=true then max (max (lcs a (y::b)) (lcs (x::a) b)) (lcs a b+1) else max (lcs a (y::b)) (lcs (x::a) b):=by
 rw [lcs_cons]
 have:=lcs_l2 a b y
 have:=lcs_l1 (lcs_m2 a) x b
 split<;>omega
theorem lcs_le (a:List HLine):∀ b:List (List UInt8),lcs a b≤a.length:=by
 induction a with
 | nil=>intro b;exact Nat.le_refl _
 | cons x a ih=>intro b;have:=lcs_l1 (lcs_m2 a) x b;have:=ih b;simp;omega
section
variable (H:List HLine) (W:List (List UInt8))
def mtS (i j:Nat):Bool:=match H[i]?,W[j]? with
 | some x,some y=>mtc x y
 | _,_=>false
def lcA (i j:Nat):Nat:=lcs (H.drop i) (W.drop j)
def wk:Nat→Nat→Nat→List (Nat × Nat)
 | 0,_,_=>[]
 | f+1,i,j=>if i<H.length∧j<W.length then (if mtS H W i j=true then (i,j)::wk f (i+1) (j+1) else if lcA H W i (j+1)≤lcA H W (i+1) j then wk f (i+1) j else wk f i (j+1)) else []
def prs:List (Nat × Nat):=wk H W (H.length+W.length) 0 0
variable {H W}
theorem lcA_end1 {i j:Nat} (h:H.length≤i):lcA H W i j=0:=by unfold lcA;rw [List.drop_eq_nil_of_le h];rfl
theorem lcA_end2 {i j:Nat} (h:W.length≤j):lcA H W i j=0:=by unfold lcA;rw [List.drop_eq_nil_of_le h,lcs_nil2]
theorem lcA_le (i j:Nat):lcA H W i j≤H.length:=Nat.le_trans (lcs_le _ _) (by simp)
theorem lcA_step {i j:Nat} (hi:i<H.length) (hj:j<W.length):lcA H W i j=if mtS H W i j=true then lcA H W (i+1) (j+1)+1 else max (lcA H W (i+1) j) (lcA H W i (j+1)):=by
 unfold lcA mtS
 rw [List.drop_eq_getElem_cons hi,List.drop_eq_getElem_cons hj,lcs_cons,List.getElem?_eq_getElem hi,List.getElem?_eq_getElem hj]
theorem lcA_max {i j:Nat} (hi:i<H.length) (hj:j<W.length):lcA H W i j=if mtS H W i j=true then max (max (lcA H W (i+1) j) (lcA H W i (j+1))) (lcA H W (i+1) (j+1)+1) else max (lcA H W (i+1) j) (lcA H W i (j+1)):=by
 unfold lcA mtS
 rw [List.drop_eq_getElem_cons hi,List.drop_eq_getElem_cons hj,lcs_max,List.getElem?_eq_getElem hi,List.getElem?_eq_getElem hj]
theorem wk_fuel:∀ (f g i j:Nat),(H.length-i)+(W.length-j)≤f→f≤g→wk H W g i j=wk H W f i j:=by
 intro f
 induction f with
 | zero =>
  intro g i j h1 h2
  cases g with
  | zero=>rfl
  | succ g=>unfold wk;rw [if_neg (by omega)]
 | succ f ih =>
  intro g i j h1 h2
  cases g with
  | zero=>omega
  | succ g =>
   unfold wk
   by_cases h:i<H.length∧j<W.length
   ·rw [if_pos h,if_pos h,ih g (i+1) (j+1) (by omega) (by omega),ih g (i+1) j (by omega) (by omega),ih g i (j+1) (by omega) (by omega)]
   ·rw [if_neg h,if_neg h]
def wkA (i j:Nat):List (Nat × Nat):=wk H W (H.length-i+(W.length-j)) i j
theorem wkA_end {i j:Nat} (h:¬ (i<H.length∧j<W.length)):wkA (H:=H) (W:=W) i j=[]:=by
 unfold wkA
 cases e:H.length-i+(W.length-j) with
 | zero=>rfl
 | succ f=>unfold wk;rw [if_neg h]
theorem wkA_step {i j:Nat} (h:i<H.length∧j<W.length):wkA (H:=H) (W:=W) i j=if mtS H W i j=true then (i,j)::wkA (H:=H) (W:=W) (i+1) (j+1) else if lcA H W i (j+1)≤lcA H W (i+1) j then wkA (H:=H) (W:=W) (i+1) j else wkA (H:=H) (W:=W) i (j+1):=by
 unfold wkA
 obtain ⟨f,e⟩:∃ f,H.length-i+(W.length-j)=f+1:=⟨H.length-i+(W.length-j)-1,by omega⟩
 rw [e]
 conv=>lhs;unfold wk
 rw [if_pos h,wk_fuel (H.length-(i+1)+(W.length-(j+1))) f (i+1) (j+1) (Nat.le_refl _) (by omega),wk_fuel (H.length-(i+1)+(W.length-j)) f (i+1) j (Nat.le_refl _) (by omega),wk_fuel (H.length-i+(W.length-(j+1))) f i (j+1) (Nat.le_refl _) (by omega)]
def Inc (l:List (Nat × Nat)):Prop:=l.Pairwise fun p q=>p.1<q.1∧p.2<q.2
theorem wk_low:∀ (f i j:Nat) (p:Nat × Nat),p∈wk H W f i j→i≤p.1∧j≤p.2∧p.1<H.length∧p.2<W.length:=by
 intro f
 induction f with
 | zero=>intro i j p hp;simp [wk] at hp
 | succ f ih =>
  intro i j p hp
  unfold wk at hp
  split at hp
  ·rename_i h
   split at hp
   ·rcases List.mem_cons.1 hp with e | e
    ·subst e;exact ⟨Nat.le_refl _,Nat.le_refl _,h.1,h.2⟩
    ·have:=ih _ _ _ e;omega
   ·split at hp
    ·have:=ih _ _ _ hp;omega
    ·have:=ih _ _ _ hp;omega
  ·simp at hp
theorem wk_inc:∀ (f i j:Nat),Inc (wk H W f i j):=by
 intro f
 induction f with
 | zero=>intro i j;exact List.Pairwise.nil
 | succ f ih =>
  intro i j
  unfold wk
  split
  ·split
   ·refine List.Pairwise.cons (fun q hq=>?_) (ih _ _)
    have:=wk_low _ _ _ _ hq
    omega
   ·split<;>exact ih _ _
  ·exact List.Pairwise.nil
end
def atJ (l:List (Nat × Nat)) (j:Nat):Option Nat:=(l.find? fun p=>decide (p.2=j)).map Prod.fst
def atI (l:List (Nat × Nat)) (i:Nat):Option Nat:=(l.find? fun p=>decide (p.1=i)).map Prod.snd
theorem inc_inj {l:List (Nat × Nat)} (h:Inc l):∀ p∈l,∀ q∈l,(p.1=q.1∨p.2=q.2)→p=q:=by
 induction l with
 | nil=>intro p hp;simp at hp
 | cons x l ih =>
  obtain ⟨h1,h2⟩:=List.pairwise_cons.1 h
  intro p hp q hq e
  rcases List.mem_cons.1 hp with a | a<;>rcases List.mem_cons.1 hq with b | b
  ·rw [a,b]
  ·subst a;have:=h1 q b;omega
  ·subst b;have:=h1 p a;omega
  ·exact ih h2 p a q b e
theorem atJ_iff {l:List (Nat × Nat)} (h:Inc l) (i j:Nat):atJ l j=some i↔(i,j)∈l:=by
 unfold atJ
 constructor
 ·intro e
  obtain ⟨p,hp,rfl⟩:=Option.map_eq_some_iff.1 e
  have h1:=List.mem_of_find?_eq_some hp
  have h2:=List.find?_some hp
  simp at h2
  subst h2
  exact h1
 ·intro hm
  cases hf:l.find? fun p=>decide (p.2=j) with
  | none=>have:=List.find?_eq_none.1 hf _ hm;simp at this
  | some p =>
   have h1:=List.mem_of_find?_eq_some hf
   have h2:=List.find?_some hf
   simp at h2
   have:=inc_inj h _ h1 _ hm (.inr h2)
   subst this
   rfl
theorem atI_iff {l:List (Nat × Nat)} (h:Inc l) (i j:Nat):atI l i=some j↔(i,j)∈l:=by
 unfold atI
 constructor
 ·intro e
  obtain ⟨p,hp,rfl⟩:=Option.map_eq_some_iff.1 e
  have h1:=List.mem_of_find?_eq_some hp
  have h2:=List.find?_some hp
  simp at h2
  subst h2
  exact h1
 ·intro hm
  cases hf:l.find? fun p=>decide (p.1=i) with
  | none=>have:=List.find?_eq_none.1 hf _ hm;simp at this
  | some p =>
   have h1:=List.mem_of_find?_eq_some hf
   have h2:=List.find?_some hf
   simp at h2
   have:=inc_inj h _ h1 _ hm (.inl h2)
   subst this
   rfl
theorem atJ_snoc {l:List (Nat × Nat)} {a b:Nat} (hl:∀ p∈l,p.2<b) (j:Nat):atJ (l++[(a,b)]) j=if j=b then some a else atJ l j:=by
 unfold atJ
 rw [List.find?_append]
 by_cases e:j=b
 ·subst e
  rw [if_pos rfl,List.find?_eq_none.2 (fun p hp=>by have:=hl p hp;simp;omega)]
  simp
 ·rw [if_neg e,show List.find? (fun p:Nat × Nat=>decide (p.2=j)) [(a,b)]=none from by simp;omega]
  simp
theorem atI_snoc {l:List (Nat × Nat)} {a b:Nat} (hl:∀ p∈l,p.1<a) (i:Nat):atI (l++[(a,b)]) i=if i=a then some b else atI l i:=by
 unfold atI
 rw [List.find?_append]
 by_cases e:i=a
 ·subst e
  rw [if_pos rfl,List.find?_eq_none.2 (fun p hp=>by have:=hl p hp;simp;omega)]
  simp
 ·rw [if_neg e,show List.find? (fun p:Nat × Nat=>decide (p.1=i)) [(a,b)]=none from by simp;omega]
  simp
theorem atI_none {l:List (Nat × Nat)} {i:Nat} (h:∀ p∈l,p.1≠i):atI l i=none:=by
 unfold atI
 rw [List.find?_eq_none.2 (fun p hp=>by simpa using h p hp)];rfl
structure RC where
 (id:Nat) (R:List RefD) (pr:List (Nat × Nat)) (W:List (List UInt8)) (ld:Nat→Nat→Bool)
namespace RC
variable (c:RC)
def st (j:Nat):Option Nat:=atJ c.pr j
def own (j:Nat):Nat:=((List.range j).filter fun k=>(c.st k).isNone).length
def ref (i:Nat):RefD:=c.R.getD i ⟨0,0⟩
def nm (j:Nat):RefD:=match c.st j with
 | some i=>c.ref i
 | none=>⟨c.id,c.own j⟩
def up (j:Nat):RefD:=if j=0 then ⟨0,0⟩ else c.nm (j-1)
def dnF:List Nat→RefD
 | []=>⟨0,1⟩
 | k::l=>if (c.st k).isSome then c.nm k else dnF l
def dn (j:Nat):RefD:=c.dnF (List.range' (j+1) (c.W.length-(j+1)))
def put (j:Nat):List ChangeD:=match c.st j with
 | none=>[⟨1,c.up j,c.dn j,c.W.getD j []⟩]
 | some i=>if j=0 then [] else match c.st (j-1) with
  | none=>[]
  | some k=>if c.ld k i=true then [] else [⟨3,c.ref k,c.ref i,[]⟩]
def del (i:Nat):List ChangeD:=if (atI c.pr i).isNone then [⟨2,c.ref i,⟨0,0⟩,[]⟩] else []
def dels (n:Nat):List ChangeD:=(List.range n).flatMap c.del
def puts (m:Nat):List ChangeD:=(List.range m).flatMap c.put
def ch:List ChangeD:=c.dels c.R.length++c.puts c.W.length
theorem dels_succ (n:Nat):c.dels (n+1)=c.dels n++c.del n:=by unfold dels;rw [List.range_succ,List.flatMap_append];simp
theorem puts_succ (n:Nat):c.puts (n+1)=c.puts n++c.put n:=by unfold puts;rw [List.range_succ,List.flatMap_append];simp
theorem own_succ (j:Nat):c.own (j+1)=c.own j+(if (c.st j).isNone then 1 else 0):=by
 unfold own
 rw [List.range_succ,List.filter_append,List.length_append]
 congr 1
 by_cases h:(c.st j).isNone=true<;>simp [h]
theorem own_le (j:Nat):c.own j≤j:=by unfold own;exact Nat.le_trans (List.length_filter_le _ _) (by simp)
theorem put_len (j:Nat):(c.put j).length≤1:=by
 unfold put
 split
 ·simp
 ·split
  ·simp
  ·split
   ·simp
   ·split<;>simp
theorem del_len (j:Nat):(c.del j).length≤1:=by unfold del;split<;>simp
theorem dels_len (n:Nat):(c.dels n).length≤n:=by
 induction n with
 | zero=>simp [dels]
 | succ n ih=>rw [dels_succ,List.length_append];have:=c.del_len n;omega
theorem puts_len (n:Nat):(c.puts n).length≤n:=by
 induction n with
 | zero=>simp [puts]
 | succ n ih=>rw [puts_succ,List.length_append];have:=c.put_len n;omega
end RC
def besL (ls:List LineD) (r:RefD):List LineD:=ls.filter fun x=>x.up.eqb r||x.down.eqb r
def spk (ls:List LineD) (c:ChangeD):List RefD:=if c.kind=2 then c.up::(besL ls c.up).map LineD.ref else [c.up,c.down]
def spkN (id:Nat) (l:List RefD):List Nat:=(l.filter fun r=>decide (0<r.p) && !decide (r.p=id)).map RefD.p
def besB (r:RefD) (p:PatchD):Bool:=p.changes.any fun d=>decide (d.kind=1)&&(d.up.eqb r||d.down.eqb r)
def ndB (l:List ChangeD) (p:PatchD):Bool:=l.any fun c=>(decide (c.up.p=p.id)||decide (c.down.p=p.id))||(decide (c.kind=2)&&besB c.up p)
def ndS (ps:List PatchD) (l:List ChangeD):List Nat:=(ps.filter (ndB l)).map PatchD.id
def recS (ps:List PatchD) (c:RC):Nat × List UInt8:=if 30<c.ch.length then (7,[]) else if c.ch.length=0 then (11,[]) else (0,textS ⟨c.id,ndS ps c.ch,c.ch⟩)
end Go.Proofs.YtlaffgagmncgjaaGreatDoor
namespace Go.Pat
open Go
def rowI (w:Nat) (t:Nat→Nat):List Value:=(List.range w).map fun j=>.int .i64 (t j:Int)
structure TB (h:Heap) (tb:TypeId) (w:Nat) (rbs:List Nat) (t:Nat→Nat→Nat):Prop where
 row:∀ (i b:Nat),rbs[i]? = some b→Blk h b (rowI w (t i)) tb
 nodup:rbs.Nodup
def setT (t:Nat→Nat→Nat) (i j v:Nat):Nat→Nat→Nat:=fun a b=>if a=i∧b=j then v else t a b
theorem rowI_zero (w:Nat):List.replicate w (.int .i64 0)=rowI w (fun _=>0):=by
 apply List.ext_getElem<;>simp [rowI]
theorem rowI_length (w:Nat) (t:Nat→Nat):(rowI w t).length=w:=by simp [rowI]
theorem TB.fr {S:Nat→Prop} {h h':Heap} {tb:TypeId} {w:Nat} {rbs:List Nat} {t:Nat→Nat→Nat} (x:TB h tb w rbs t) (hf:Fr S h h') (hs:∀ k∈rbs,¬ S k):TB h' tb w rbs t :=
 ⟨fun i b hi=>(x.row i b hi).fr hf (hs _ (List.mem_of_getElem? hi)),x.nodup⟩
theorem TB.ext {h h':Heap} {tb:TypeId} {w:Nat} {rbs:List Nat} {t:Nat→Nat→Nat} (x:TB h tb w rbs t) (hf:Ext h h'):TB h' tb w rbs t:=x.fr hf (by simp)
theorem TB.cell {h:Heap} {tb:TypeId} {w:Nat} {rbs:List Nat} {t:Nat→Nat→Nat} (x:TB h tb w rbs t) {i j b:Nat} (hi:rbs[i]? = some b) (hj:j<w):cellAt h b (0+j*1)=some (.int .i64 (t i j:Int)):=by
 have:=(x.row i b hi).cell (j:=j) (v:=.int .i64 (t i j:Int)) (by simp [rowI,hj])
 rw [Nat.zero_add,Nat.mul_one];exact this
theorem TB.set {h h':Heap} {tb:TypeId} {w:Nat} {rbs:List Nat} {t:Nat→Nat→Nat} (x:TB h tb w rbs t) {i j rb v:Nat} (hrb:rbs[i]? = some rb)
  (hb:Blk h' rb ((rowI w (t i)).set j (.int .i64 (v:Int))) tb) (hf:Fr (fun k=>k=rb) h h'):TB h' tb w rbs (setT t i j v):=by
 refine ⟨fun a b hab=>?_,x.nodup⟩
 by_cases ha:i=a
 ·subst ha
  rw [hrb] at hab;cases hab
  have:rowI w (setT t i j v i)=(rowI w (t i)).set j (.int .i64 (v:Int)):=by
   unfold rowI
   apply List.ext_getElem (by simp)
   intro k h1 h2
   simp only [List.getElem_set,List.getElem_map,List.getElem_range,setT,true_and]
   by_cases e:k=j
   ·subst e;simp
   ·rw [if_neg e,if_neg (fun q=>e q.symm)]
  rw [this];exact hb
 ·have:setT t i j v a=t a:=by funext b;unfold setT;rw [if_neg (fun q=>ha q.1.symm)]
  rw [this]
  refine (x.row a b hab).fr hf fun e=>?_
  subst e
  obtain ⟨p1,e1⟩:=List.getElem?_eq_some_iff.1 hrb
  obtain ⟨p2,e2⟩:=List.getElem?_eq_some_iff.1 hab
  exact ha (nodup_get x.nodup p1 p2 (e1.trans e2.symm))
theorem rows_cell {h:Heap} {ob w:Nat} {rbs:List Nat} {tr:TypeId} {c:List Value} (x:Blk h ob (rowsV w rbs++c) tr) {i b:Nat} (hi:rbs[i]? = some b):cellAt h ob (0+i*1)=some (.slice (some ⟨b,0,none⟩) w w):=by
 rw [Nat.zero_add,Nat.mul_one]
 have hl:=(List.getElem?_eq_some_iff.1 hi).1
 exact x.cell (by rw [List.getElem?_append_left (by simpa [rowsV] using hl)];simp [rowsV,hi])
end Go.Pat
namespace Go.Proofs.YtlaffgagmncgjaaGreatDoor
open Tryz Go Go.Pat Go.Proofs
theorem plain_best:Plain Tryz.prog 172:=⟨_,func172,by decide +kernel,by rfl⟩
structure TX where
 (k:Nat) (rbs:List Nat)
structure BX where
 (i:Nat) (t:Nat→Nat→Nat)
def FillT (H:List HLine) (W:List (List UInt8)) (i j:Nat) (t:Nat→Nat→Nat):Prop:=∀ a b,a≤H.length→b≤W.length→(a≤i∨(a=i+1∧b≤j)∨b=0)→t a b=lcA H W (H.length-a) (W.length-b)
structure HR (h:Heap) (va vm:Value) (H:List HLine):Prop where
 a:Rd h 1 va H.length (strs (H.map Prod.snd))
 m:Rd h 1 vm H.length (bools (H.map Prod.fst))
theorem HR.ext {h h':Heap} {va vm:Value} {H:List HLine} (x:HR h va vm H) (f:Ext h h'):HR h' va vm H:=⟨x.a.ext f,x.m.ext f⟩
theorem HR.get {h:Heap} {va vm:Value} {H:List HLine} (x:HR h va vm H) {i:Nat} {y:HLine} (hi:H[i]? = some y):∃ b p c b' p' c',va = .slice (some ⟨b,p,none⟩) H.length c∧H.length≤c∧vm = .slice (some ⟨b',p',none⟩) H.length c'∧H.length≤c'∧cellAt h b (p+i*1)=some (.string (str y.2))∧cellAt h b' (p'+i*1)=some (.bool y.1):=by
 obtain ⟨b,p,c,e1,e2,e3⟩:=x.a.cell (strs_get (l:=H.map Prod.snd) (i:=i) (x:=y.2) (by simp [hi]))
 obtain ⟨b',p',c',e1',e2',e3'⟩:=x.m.cell (bools_get (l:=H.map Prod.fst) (i:=i) (x:=y.1) (by simp [hi]))
 exact ⟨b,p,c,b',p',c',e1,e2,e1',e2',e3,e3'⟩
theorem best_ret (va vm vw:Value) (H:List HLine) (W:List (List UInt8)) (h:Heap) (hH:HR h va vm H) (hW:Rd h 1 vw W.length (strs W)) (hl:H.length≤1000) (hw:W.length≤1000) :
  Ret Tryz.prog 172 #[va,vm,vw] h fun v h'=>Ext h h'∧v = .int .i64 (lcs H W:Int):=by
 refine Ret.of_body func172 rfl ntmps172 rfl rfl ?_
 obtain ⟨aa,ca,e⟩:=hH.a.form
 subst e
 obtain ⟨am,cm,e⟩:=hH.m.form
 subst e
 obtain ⟨aw,cw,e⟩:=hW.form
 subst e
 refine zgo ?_
 refine WO.make (m:=H.length+1) tab_ok rfl rfl rfl rfl rfl rfl rfl rfl rfl rfl (by omega) fun h1 hb1 hx1 hs1=>?_
 refine zgo ?_
 refine Runs.loop (X:=TX) (fun x=>[(0,.slice aa H.length ca),(1,.slice am H.length cm),(2,.slice aw W.length cw),(7,.slice (some ⟨h.size,0,none⟩) (H.length+1) (H.length+1)),(19,.int .i64 ((H.length+1:Nat):Int)),(20,.int .i64 (x.k:Int))])
  (fun x h'=>x.k≤H.length+1∧x.rbs.length=x.k∧Ext h h'∧Blk h' h.size (rowsV (W.length+1) x.rbs++List.replicate (H.length+1-x.k) (.slice none 0 0)) 69∧(∀ rb∈x.rbs,h.size<rb)∧TB h' 3 (W.length+1) x.rbs (fun _ _=>0))
  (fun x=>H.length+1-x.k) ⟨0,[]⟩ ⟨rfl,rfl,rfl,rfl,rfl,rfl,trivial⟩ ⟨Nat.zero_le _,rfl,hx1,hb1,by simp,⟨fun i b hi=>by simp at hi,by simp⟩⟩ ?_
 rintro ⟨k,rbs⟩ h2 ⟨hk,hkl,hx2,hb2,hrb2,ht2⟩ ih
 dsimp only at hk hkl hx2 hb2 hrb2 ht2 ih ⊢
 have hlt2:=hb2.lt
 refine zgo ?_
 refine Runs.cond_dec rfl (fun hlt=>?_) (fun hge=>?_)
 ·have hlt':k<H.length+1:=by omega
  refine zgo ?_
  refine WO.make (m:=W.length+1) tab_ok rfl rfl rfl rfl rfl rfl rfl rfl rfl rfl (by omega) fun h3 hb3 hx3 hs3=>?_
  refine zgo ?_
  refine WO.put1 tab_ok rfl rfl rfl rfl rfl rfl rfl (one_slice _ _ _) (hb2.ext hx3) (by simp [rowsV];omega) fun h4 hb4 hx4 hs4=>?_
  refine zgo ?_
  have hb4':Blk h4 h.size (rowsV (W.length+1) (rbs++[h2.size])++List.replicate (H.length+1-(k+1)) (.slice none 0 0)) 69:=by
   have e:H.length+1-k=(H.length+1-(k+1))+1:=by omega
   rw [Nat.zero_add,Nat.mul_one,e,List.replicate_succ,List.set_append,if_neg (by simp [rowsV];omega),show k-(rowsV (W.length+1) rbs).length=0 by simp [rowsV];omega] at hb4
   simpa [rowsV] using hb4
  refine ih ⟨k+1,rbs++[h2.size]⟩ _ _ (by dsimp only;omega) ⟨rfl,rfl,rfl,rfl,rfl,rfl,trivial⟩ ⟨hlt',by simp;omega,?_,hb4',fun rb hrb=>?_,fun i b hi=>?_,?_⟩
  ·exact (hx2.trans hx3).trans_new (hx4.mono (fun k _ e=>.inr (by omega)))
  ·rcases List.mem_append.1 hrb with e | e
   ·exact hrb2 rb e
   ·simp at e;omega
  ·dsimp only at hi
   rcases Nat.lt_or_ge i rbs.length with e | e
   ·rw [List.getElem?_append_left e] at hi
    exact ((ht2.row i b hi).ext hx3).fr hx4 (by have:=hrb2 b (List.mem_of_getElem? hi);omega)
   ·rw [List.getElem?_append_right e] at hi
    have hb:h2.size=b:=by
     have:=List.mem_of_getElem? hi
     simp at this
     exact this.symm
    subst hb
    rw [← rowI_zero]
    exact hb3.fr hx4 (by omega)
  ·rw [List.nodup_append]
   refine ⟨ht2.nodup,by simp,fun x hx y hy e=>?_⟩
   simp at hy;subst hy;subst e
   obtain ⟨i,hi⟩:=List.getElem?_of_mem hx
   have:=(ht2.row _ _ hi).lt
   omega
 have hk':k=H.length+1:=by omega
 subst hk'
 clear ih hge hb1
 rw [Nat.sub_self] at hb2
 have hrow:∀ i,i≤H.length→∃ rb,rbs[i]? = some rb∧h.size<rb:=fun i hi=>by
  have hlt:i<rbs.length:=by omega
  exact ⟨rbs[i],List.getElem?_eq_getElem hlt,hrb2 _ (List.getElem_mem hlt)⟩
 refine zgo ?_
 refine Runs.loop (X:=BX) (fun x=>[(0,.slice aa H.length ca),(1,.slice am H.length cm),(2,.slice aw W.length cw),(7,.slice (some ⟨h.size,0,none⟩) (H.length+1) (H.length+1)),(9,.int .i64 ((x.i+1:Nat):Int))])
  (fun x h'=>x.i≤H.length∧Fr (fun k=>k∈rbs) h2 h'∧TB h' 3 (W.length+1) rbs x.t∧FillT H W x.i 0 x.t)
  (fun x=>H.length-x.i) ⟨0,fun _ _=>0⟩ ⟨rfl,rfl,rfl,rfl,rfl,trivial⟩ ⟨Nat.zero_le _,Fr.refl _ _,ht2,fun a b ha hb hab=>?_⟩ ?_
 ·rcases hab with e | e | e
  ·dsimp only at e;rw [lcA_end1 (by omega)]
  ·rw [lcA_end2 (by omega)]
  ·rw [lcA_end2 (by omega)]
 have hext:∀ h',Fr (fun k=>k∈rbs) h2 h'→Ext h h':=fun h' hf=>hx2.trans_new (hf.mono fun k _ e=>.inr (by have:=hrb2 k e;omega))
 have hout:∀ h',Fr (fun k=>k∈rbs) h2 h'→Blk h' h.size (rowsV (W.length+1) rbs++[]) 69:=fun h' hf=>(by simpa using hb2:Blk h2 h.size (rowsV (W.length+1) rbs++[]) 69).fr hf (fun e=>by have:=hrb2 _ e;omega)
 rintro ⟨i,t⟩ h3 ⟨hi,hf3,ht3,hfill⟩ ih
 dsimp only at hi hf3 ht3 hfill ih ⊢
 refine zgo ?_
 refine Runs.cond_dec rfl (fun hlt=>?_) (fun hge=>?_)
 rotate_left
 ·have hi':i=H.length:=by omega
  subst hi'
  obtain ⟨rb,hrb,_⟩:=hrow H.length (Nat.le_refl _)
  have r1:=rows_cell (hout _ hf3) hrb
  have r2:=ht3.cell (j:=W.length) hrb (by omega)
  refine zgo ?_
  refine Runs.ret func172 (ret1 results172 rfl) ⟨hext _ hf3,?_⟩
  rw [hfill H.length W.length (Nat.le_refl _) (Nat.le_refl _) (.inl (Nat.le_refl _)),Nat.sub_self,Nat.sub_self]
  rfl
 have hlt':i<H.length:=by omega
 refine zgo ?_
 refine Runs.loop (X:=BX) (fun x=>[(0,.slice aa H.length ca),(1,.slice am H.length cm),(2,.slice aw W.length cw),(7,.slice (some ⟨h.size,0,none⟩) (H.length+1) (H.length+1)),(9,.int .i64 ((i+1:Nat):Int)),(10,.int .i64 ((x.i+1:Nat):Int))])
  (fun x h'=>x.i≤W.length∧Fr (fun k=>k∈rbs) h2 h'∧TB h' 3 (W.length+1) rbs x.t∧FillT H W i x.i x.t)
  (fun x=>W.length-x.i) ⟨0,t⟩ ⟨rfl,rfl,rfl,rfl,rfl,rfl,trivial⟩ ⟨Nat.zero_le _,hf3,ht3,hfill⟩ ?_
 clear hf3 ht3 hfill
 rintro ⟨j,t1⟩ h4 ⟨hj,hf4,ht4,hfill⟩ ih2
 dsimp only at hj hf4 ht4 hfill ih2 ⊢
 refine zgo ?_
 refine Runs.cond_dec rfl (fun hjt=>?_) (fun hge=>?_)
 rotate_left
 ·have hj':j=W.length:=by omega
  subst hj'
  refine zgo ?_
  refine ih ⟨i+1,t1⟩ _ _ (by dsimp only;omega) ⟨rfl,rfl,rfl,rfl,rfl,trivial⟩ ⟨hlt',hf4,ht4,fun a b ha hb hab=>hfill a b ha hb ?_⟩
  dsimp only at hab;omega
 have hjt':j<W.length:=by omega
 obtain ⟨rb0,hrb0,hn0⟩:=hrow i (by omega)
 obtain ⟨rb1,hrb1,hn1⟩:=hrow (i+1) (by omega)
 have o4:=hout _ hf4
 have r0:=rows_cell o4 hrb0
 have r1:=rows_cell o4 hrb1
 have c00:=ht4.cell (j:=j) hrb0 (by omega)
 have c01:=ht4.cell (j:=j+1) hrb0 (by omega)
 have c10:=ht4.cell (j:=j) hrb1 (by omega)
 have hxl:H.length-(i+1)<H.length:=by omega
 have hyl:W.length-(j+1)<W.length:=by omega
 have hgx:H[H.length-(i+1)]? = some H[H.length-(i+1)]:=List.getElem?_eq_getElem hxl
 have hgy:W[W.length-(j+1)]? = some W[W.length-(j+1)]:=List.getElem?_eq_getElem hyl
 have hmt:mtS H W (H.length-(i+1)) (W.length-(j+1))=mtc H[H.length-(i+1)] W[W.length-(j+1)]:=by unfold mtS;rw [hgx,hgy]
 generalize H[H.length-(i+1)]=x at *
 generalize W[W.length-(j+1)]=y at *
 have hstep:=lcA_max hxl hyl
 rw [show H.length-(i+1)+1=H.length-i by omega,show W.length-(j+1)+1=W.length-j by omega,hmt,← hfill i (j+1) (by omega) (by omega) (.inl (Nat.le_refl _)),← hfill (i+1) j (by omega) (by omega) (.inr (.inl ⟨rfl,Nat.le_refl _⟩)),← hfill i j (by omega) (by omega) (.inl (Nat.le_refl _))] at hstep
 have hb00:t1 i j≤1000:=by rw [hfill i j (by omega) (by omega) (.inl (Nat.le_refl _))];exact Nat.le_trans (lcA_le _ _) hl
 obtain ⟨b1,p1,k1,b2,p2,k2,ea,_,em,_,ga,gm⟩:=(hH.ext (hext _ hf4)).get hgx
 cases ea
 cases em
 obtain ⟨b3,p3,k3,ew,_,gw⟩:=(hW.ext (hext _ hf4)).cell (strs_get hgy)
 cases ew
 have hS2:∀ v:Nat,(v=lcA H W (H.length-(i+1)) (W.length-(j+1)))→FillT H W i (j+1) (setT t1 (i+1) (j+1) v):=fun v hv a b ha hb hab=>by
  unfold setT
  by_cases e:a=i+1∧b=j+1
  ·rw [if_pos e,hv,e.1,e.2]
  ·rw [if_neg e];exact hfill a b ha hb (by omega)
 refine zgo ?_
 rw [show ((H.length:Int)-((i+1:Nat):Int))=((H.length-(i+1):Nat):Int) by omega]
 refine zgo ?_
 rw [show ((W.length:Int)-((j+1:Nat):Int))=((W.length-(j+1):Nat):Int) by omega]
 refine zgo ?_
 rw [show (((i+1:Nat):Int)-1)=(i:Int) by omega]
 refine zgo ?_
 rw [show (((j+1:Nat):Int)-1)=(j:Int) by omega]
 refine zgo ?_
 refine Runs.joinK (fun env' h'=>Sub [(0,.slice (some ⟨b1,p1,none⟩) H.length ca),(1,.slice (some ⟨b2,p2,none⟩) H.length cm),(2,.slice (some ⟨b3,p3,none⟩) W.length cw),(7,.slice (some ⟨h.size,0,none⟩) (H.length+1) (H.length+1)),(9,.int .i64 ((i+1:Nat):Int)),(10,.int .i64 ((j+1:Nat):Int)),(11,.int .i64 ((H.length-(i+1):Nat):Int)),(12,.int .i64 ((W.length-(j+1):Nat):Int)),(13,.int .i64 ((max (t1 i (j+1)) (t1 (i+1) j):Nat):Int))] env'∧h4=h') (fun k' hJ=>?_) ?_
 ·refine Runs.cond_dec rfl (fun hq=>?_) (fun hq=>?_)
  ·refine zgo ?_
   rw [show (((j+1:Nat):Int)-1)=(j:Int) by omega]
   refine zgo ?_
   refine hJ _ _ ⟨⟨rfl,rfl,rfl,rfl,rfl,rfl,rfl,rfl,?_,trivial⟩,rfl⟩
   rw [Nat.max_eq_right (by omega)];rfl
  ·refine zgo ?_
   refine hJ _ _ ⟨⟨rfl,rfl,rfl,rfl,rfl,rfl,rfl,rfl,?_,trivial⟩,rfl⟩
   rw [Nat.max_eq_left (by omega)];rfl
 rintro env' _ ⟨hsub,rfl⟩
 refine Runs.sub hsub ?_
 clear hsub env'
 generalize hmx:max (t1 i (j+1)) (t1 (i+1) j)=mx at *
 refine zgo ?_
 refine Runs.still mixed (by kernel_rfl) ?_
 refine WS.join (fun env'=>Sub [(0,.slice (some ⟨b1,p1,none⟩) H.length ca),(1,.slice (some ⟨b2,p2,none⟩) H.length cm),(2,.slice (some ⟨b3,p3,none⟩) W.length cw),(7,.slice (some ⟨h.size,0,none⟩) (H.length+1) (H.length+1)),(9,.int .i64 ((i+1:Nat):Int)),(10,.int .i64 ((j+1:Nat):Int)),(13,.int .i64 (mx:Int)),(105,.bool (mtc x y&&decide (mx<t1 i j+1)))] env') ?_ ?_
 ·cases hx1:x.1 with
  | false =>
   rw [hx1] at gm
   have hd:mtc x y=false:=by simp [mtc,hx1]
   rw [hd]
   refine zws ?_
   exact ⟨rfl,rfl,rfl,rfl,rfl,rfl,rfl,rfl,trivial⟩
  | true =>
   rw [hx1] at gm
   refine zws ?_
   by_cases hxy:x.2=y
   ·have hd:decide (x.2=y)=true:=decide_eq_true hxy
    have hm:mtc x y=true:=by simp [mtc,hx1,hxy]
    rw [hd,hm]
    refine zws ?_
    rw [show (((i+1:Nat):Int)-1)=(i:Int) by omega]
    refine zws ?_
    rw [show (((j+1:Nat):Int)-1)=(j:Int) by omega]
    refine zws ?_
    refine ⟨rfl,rfl,rfl,rfl,rfl,rfl,rfl,?_,trivial⟩
    have:decide ((mx:Int)<(t1 i j:Int)+1)=decide (mx<t1 i j+1):=by rw [Bool.eq_iff_iff];simp;omega
    rw [Bool.true_and,← this];rfl
   ·have hd:decide (x.2=y)=false:=decide_eq_false hxy
    have hm:mtc x y=false:=by simp [mtc,hxy]
    rw [hd,hm]
    refine zws ?_
    exact ⟨rfl,rfl,rfl,rfl,rfl,rfl,rfl,rfl,trivial⟩
 intro env' hsub
 refine Runs.sub hsub ?_
 clear hsub env'
 refine zgo ?_
 refine Runs.joinK (fun env' h'=>Sub [(0,.slice (some ⟨b1,p1,none⟩) H.length ca),(1,.slice (some ⟨b2,p2,none⟩) H.length cm),(2,.slice (some ⟨b3,p3,none⟩) W.length cw),(7,.slice (some ⟨h.size,0,none⟩) (H.length+1) (H.length+1)),(9,.int .i64 ((i+1:Nat):Int)),(10,.int .i64 ((j+1:Nat):Int)),(13,.int .i64 ((lcA H W (H.length-(i+1)) (W.length-(j+1)):Nat):Int))] env'∧h4=h') (fun k' hJ=>?_) ?_
 ·refine Runs.cond rfl (fun hq=>?_) (fun hq=>?_)
  ·obtain ⟨q1,q2⟩:=(Bool.and_eq_true _ _).mp hq
   have q3:=of_decide_eq_true q2
   rw [if_pos q1,Nat.max_eq_right (by omega)] at hstep
   refine zgo ?_
   rw [show (((i+1:Nat):Int)-1)=(i:Int) by omega]
   refine zgo ?_
   rw [show (((j+1:Nat):Int)-1)=(j:Int) by omega]
   refine zgo ?_
   exact hJ _ _ ⟨⟨rfl,rfl,rfl,rfl,rfl,rfl,by rw [hstep];rfl,trivial⟩,rfl⟩
  ·have e:lcA H W (H.length-(i+1)) (W.length-(j+1))=mx:=by
    rw [hstep]
    split
    ·rename_i q1
     rw [q1,Bool.true_and] at hq
     have:=of_decide_eq_false hq
     omega
    ·rfl
   refine zgo ?_
   exact hJ _ _ ⟨⟨rfl,rfl,rfl,rfl,rfl,rfl,by rw [e];rfl,trivial⟩,rfl⟩
 rintro env' _ ⟨hsub,rfl⟩
 refine Runs.sub hsub ?_
 clear hsub env'
 refine zgo ?_
 refine WO.put1 tab_ok rfl rfl rfl rfl rfl rfl rfl (one_int _) (ht4.row _ _ hrb1) (by simp [rowI];omega) fun h5 hb5 hx5 hs5=>?_
 refine zgo ?_
 rw [Nat.zero_add,Nat.mul_one] at hb5
 exact ih2 ⟨j+1,setT t1 (i+1) (j+1) (lcA H W (H.length-(i+1)) (W.length-(j+1)))⟩ _ _ (by dsimp only;omega) ⟨rfl,rfl,rfl,rfl,rfl,rfl,trivial⟩ ⟨hjt',hf4.trans (hx5.mono fun k _ e=>by rw [e];exact List.mem_of_getElem? hrb1),ht4.set hrb1 hb5 hx5,hS2 _ rfl⟩
def rowZ (n:Nat) (f:Nat→Int):List Value:=(List.range n).map fun k=>.int .i64 (f k)
theorem rowZ_length (n:Nat) (f:Nat→Int):(rowZ n f).length=n:=by simp [rowZ]
theorem rowZ_get {n:Nat} {f:Nat→Int} {k:Nat} (h:k<n):(rowZ n f)[k]? = some (.int .i64 (f k)):=by simp [rowZ,h]
theorem rowZ_zero (n:Nat):List.replicate n (.int .i64 0)=rowZ n (fun _=>0):=by apply List.ext_getElem<;>simp [rowZ]
theorem rowZ_congr {n:Nat} {f g:Nat→Int} (h:∀ k,k<n→f k=g k):rowZ n f=rowZ n g:=by
 unfold rowZ
 exact List.map_congr_left fun k hk=>by rw [h k (List.mem_range.1 hk)]
theorem rowZ_set (n:Nat) (f:Nat→Int) (j:Nat) (v:Int):(rowZ n f).set j (.int .i64 v)=rowZ n (fun k=>if k=j then v else f k):=by
 unfold rowZ
 apply List.ext_getElem (by simp)
 intro k h1 h2
 simp only [List.getElem_set,List.getElem_map,List.getElem_range]
 by_cases e:k=j
 ·subst e;simp
 ·rw [if_neg e,if_neg (fun q=>e q.symm)]
def oi:Option Nat→Int
 | some j=>(j:Int)
 | none=>-1
structure KA (H:List HLine) (W:List (List UInt8)) (i j:Nat) (acc:List (Nat × Nat)):Prop where
 eq:acc++wkA (H:=H) (W:=W) i j=prs H W
 low:∀ p∈acc,p.1<i∧p.2<j
theorem KA.nil (H:List HLine) (W:List (List UInt8)):KA H W 0 0 []:=⟨rfl,by simp⟩
theorem KA.keep {H:List HLine} {W:List (List UInt8)} {i j:Nat} {acc:List (Nat × Nat)} (x:KA H W i j acc) (h:i<H.length∧j<W.length) (hm:mtS H W i j=true):KA H W (i+1) (j+1) (acc++[(i,j)]):=by
 refine ⟨?_,fun p hp=>?_⟩
 ·rw [← x.eq,wkA_step h,if_pos hm,List.append_assoc];rfl
 ·rcases List.mem_append.1 hp with e | e
  ·have:=x.low p e;omega
  ·simp at e;subst e;dsimp only;omega
theorem KA.down {H:List HLine} {W:List (List UInt8)} {i j:Nat} {acc:List (Nat × Nat)} (x:KA H W i j acc) (h:i<H.length∧j<W.length) (hm:mtS H W i j=false) (hl:lcA H W i (j+1)≤lcA H W (i+1) j):KA H W (i+1) j acc :=
 ⟨by rw [← x.eq,wkA_step h,if_neg (by simp [hm]),if_pos hl],fun p hp=>by have:=x.low p hp;omega⟩
theorem KA.side {H:List HLine} {W:List (List UInt8)} {i j:Nat} {acc:List (Nat × Nat)} (x:KA H W i j acc) (h:i<H.length∧j<W.length) (hm:mtS H W i j=false) (hl:¬ lcA H W i (j+1)≤lcA H W (i+1) j):KA H W i (j+1) acc :=
 ⟨by rw [← x.eq,wkA_step h,if_neg (by simp [hm]),if_neg hl],fun p hp=>by have:=x.low p hp;omega⟩
theorem KA.out {H:List HLine} {W:List (List UInt8)} {i j:Nat} {acc:List (Nat × Nat)} (x:KA H W i j acc) (h:¬ (i<H.length∧j<W.length)) (i':Nat) (hi:i≤i'):KA H W i' j acc :=
 ⟨by rw [← x.eq,wkA_end h,wkA_end (by omega)],fun p hp=>by have:=x.low p hp;omega⟩
theorem KA.done {H:List HLine} {W:List (List UInt8)} {i j:Nat} {acc:List (Nat × Nat)} (x:KA H W i j acc) (h:¬ (i<H.length∧j<W.length)):acc=prs H W:=by rw [← x.eq,wkA_end h];simp
structure KX where
 (i j:Nat) (acc:List (Nat × Nat))
theorem plain_Kept:Plain Tryz.prog 130:=⟨_,func130,by decide +kernel,by rfl⟩
theorem HR.cut {h:Heap} {b p b' p' c c':Nat} {H:List HLine} (x:HR h (.slice (some ⟨b,p,none⟩) H.length c) (.slice (some ⟨b',p',none⟩) H.length c') H) (i:Nat) (hi:i≤H.length) :
  HR h (.slice (some (if c=i then ⟨b,p,none⟩ else ⟨b,p+i*1,none⟩)) (H.length-i) (c-i)) (.slice (some (if c'=i then ⟨b',p',none⟩ else ⟨b',p'+i*1,none⟩)) (H.length-i) (c'-i)) (H.drop i):=by
 have h1:=x.a.cut i H.length hi (Nat.le_refl _)
 have h2:=x.m.cut i H.length hi (Nat.le_refl _)
 rw [Nat.mul_one,Nat.mul_one,List.take_of_length_le (by simp [strs])] at h1
 rw [Nat.mul_one,Nat.mul_one,List.take_of_length_le (by simp [bools])] at h2
 refine ⟨?_,?_⟩
 ·rw [List.length_drop];simpa [strs] using h1
 ·rw [List.length_drop];simpa [bools] using h2
theorem strs_cut {h:Heap} {b p c:Nat} {W:List (List UInt8)} (x:Rd h 1 (.slice (some ⟨b,p,none⟩) W.length c) W.length (strs W)) (i:Nat) (hi:i≤W.length) :
  Rd h 1 (.slice (some (if c=i then ⟨b,p,none⟩ else ⟨b,p+i*1,none⟩)) (W.length-i) (c-i)) (W.drop i).length (strs (W.drop i)):=by
 have h1:=x.cut i W.length hi (Nat.le_refl _)
 rw [Nat.mul_one,Nat.mul_one,List.take_of_length_le (by simp [strs])] at h1
 rw [List.length_drop];simpa [strs] using h1
theorem kept_ret (va vm vw:Value) (H:List HLine) (W:List (List UInt8)) (h:Heap) (hH:HR h va vm H) (hW:Rd h 1 vw W.length (strs W)) (hl:H.length≤1000) (hw:W.length≤1000) :
  Ret Tryz.prog 130 #[va,vm,vw] h fun v h'=>Ext h h'∧∃ b,v = .slice (some ⟨b,0,none⟩) H.length H.length∧h.size≤b∧Blk h' b (rowZ H.length fun i=>oi (atI (prs H W) i)) 3:=by
 refine Ret.of_body func130 rfl ntmps130 rfl rfl ?_
 obtain ⟨aa,ca,e⟩:=hH.a.form
 subst e
 obtain ⟨am,cm,e⟩:=hH.m.form
 subst e
 obtain ⟨aw,cw,e⟩:=hW.form
 subst e
 refine zgo ?_
 refine WO.make tab_ok rfl rfl rfl rfl rfl rfl rfl rfl rfl rfl (by omega) fun h1 hb1 hx1 hs1=>?_
 refine zgo ?_
 rw [rowZ_zero] at hb1
 refine Runs.loop (X:=KX) (fun x=>[(0,.slice aa H.length ca),(1,.slice am H.length cm),(2,.slice aw W.length cw),(7,.slice (some ⟨h.size,0,none⟩) H.length H.length),(8,.int .i64 (x.j:Int)),(16,.int .i64 (H.length:Int)),(17,.int .i64 (x.i:Int))])
  (fun x h'=>x.i≤H.length∧x.j≤W.length∧Ext h h'∧KA H W x.i x.j x.acc∧Blk h' h.size (rowZ H.length fun k=>if k<x.i then oi (atI x.acc k) else 0) 3)
  (fun x=>H.length-x.i) ⟨0,0,[]⟩ ⟨rfl,rfl,rfl,rfl,rfl,rfl,rfl,trivial⟩ ⟨Nat.zero_le _,Nat.zero_le _,hx1,KA.nil H W,by simpa using hb1⟩ ?_
 rintro ⟨i,j,acc⟩ h2 ⟨hi,hj,hx2,ka,hb2⟩ ih
 dsimp only at hi hj hx2 ka hb2 ih ⊢
 refine zgo ?_
 refine Runs.cond_dec rfl (fun hlt=>?_) (fun hge=>?_)
 rotate_left
 ·have hi':i=H.length:=by omega
  subst hi'
  refine zgo ?_
  refine Runs.ret func130 (ret1 results130 rfl) ⟨hx2,h.size,rfl,Nat.le_refl _,?_⟩
  rw [← ka.done (by omega)]
  rw [rowZ_congr (g:=fun k=>if k<H.length then oi (atI acc k) else 0) (fun k hk=>by rw [if_pos hk])]
  exact hb2
 have hlt':i<H.length:=by omega
 have hz2:=hx2.size
 have hhb:=hb2.lt
 refine zgo ?_
 refine WO.put1 tab_ok rfl rfl rfl rfl rfl rfl rfl (one_int _) hb2 (by rw [rowZ_length];omega) fun h3 hb3 hx3 hs3=>?_
 rw [Nat.zero_add,Nat.mul_one,rowZ_set] at hb3
 have hx03:Ext h h3:=hx2.trans_new (hx3.mono fun k _ e=>.inr (by omega))
 refine zgo ?_
 have hgx:H[i]? = some H[i]:=List.getElem?_eq_getElem hlt'
 generalize H[i]=x at *
 refine Runs.loop (X:=Nat) (fun j=>[(0,.slice aa H.length ca),(1,.slice am H.length cm),(2,.slice aw W.length cw),(7,.slice (some ⟨h.size,0,none⟩) H.length H.length),(8,.int .i64 (j:Int)),(16,.int .i64 (H.length:Int)),(17,.int .i64 (i:Int)),(9,.int .i64 (i:Int))])
  (fun j h'=>j≤W.length∧Ext h h'∧KA H W i j acc∧Blk h' h.size (rowZ H.length fun k=>if k=i then -1 else if k<i then oi (atI acc k) else 0) 3)
  (fun j=>W.length-j) j ⟨rfl,rfl,rfl,rfl,rfl,rfl,rfl,rfl,trivial⟩ ⟨hj,hx03,ka,hb3⟩ ?_
 clear hb2 hx2 hb3 hx3 hx03 ka hj
 rintro j h4 ⟨hj,hx4,ka,hb4⟩ ih2
 have hz4:=hx4.size
 have hhb4:=hb4.lt
 have hno:atI acc i=none:=atI_none fun p hp=>by have:=ka.low p hp;omega
 have hfun:(rowZ H.length fun k=>if k=i then -1 else if k<i then oi (atI acc k) else 0)=rowZ H.length fun k=>if k<i+1 then oi (atI acc k) else 0:=rowZ_congr fun k _=>by
  by_cases e:k=i
  ·subst e;rw [if_pos rfl,if_pos (by omega),hno];rfl
  ·rw [if_neg e]
   by_cases e2:k<i
   ·rw [if_pos e2,if_pos (by omega)]
   ·rw [if_neg e2,if_neg (by omega)]
 refine zgo ?_
 refine Runs.cond_dec rfl (fun hjt=>?_) (fun hge=>?_)
 rotate_left
 ·have hnot:¬ (i<H.length∧j<W.length):=by omega
  refine zgo ?_
  exact ih ⟨i+1,j,acc⟩ _ _ (by dsimp only;omega) ⟨rfl,rfl,rfl,rfl,rfl,rfl,rfl,trivial⟩ ⟨hlt',hj,hx4,ka.out hnot (i+1) (by omega),by rw [← hfun];exact hb4⟩
 have hjt':j<W.length:=by omega
 have hgy:W[j]? = some W[j]:=List.getElem?_eq_getElem hjt'
 generalize W[j]=y at *
 have hmt:mtS H W i j=mtc x y:=by unfold mtS;rw [hgx,hgy]
 have hH4:=hH.ext hx4
 have hW4:=hW.ext hx4
 obtain ⟨b1,p1,k1,b2,p2,k2,ea,hc1,em,hc2,ga,gm⟩:=hH4.get hgx
 cases ea
 cases em
 obtain ⟨b3,p3,k3,ew,hc3,gw⟩:=hW4.cell (strs_get hgy)
 cases ew
 refine zgo ?_
 refine Runs.still mixed (by kernel_rfl) ?_
 refine WS.join (fun env'=>Sub [(0,.slice (some ⟨b1,p1,none⟩) H.length ca),(1,.slice (some ⟨b2,p2,none⟩) H.length cm),(2,.slice (some ⟨b3,p3,none⟩) W.length cw),(7,.slice (some ⟨h.size,0,none⟩) H.length H.length),(8,.int .i64 (j:Int)),(16,.int .i64 (H.length:Int)),(17,.int .i64 (i:Int)),(9,.int .i64 (i:Int)),(41,.bool (mtc x y))] env') ?_ ?_
 ·cases hx1:x.1 with
  | false =>
   rw [hx1] at gm
   have hd:mtc x y=false:=by simp [mtc,hx1]
   rw [hd]
   refine zws ?_
   exact ⟨rfl,rfl,rfl,rfl,rfl,rfl,rfl,rfl,rfl,trivial⟩
  | true =>
   rw [hx1] at gm
   have hd:mtc x y=decide (x.2=y):=by simp [mtc,hx1]
   rw [hd]
   refine zws ?_
   exact ⟨rfl,rfl,rfl,rfl,rfl,rfl,rfl,rfl,rfl,trivial⟩
 intro env' hsub
 refine Runs.sub hsub ?_
 clear hsub env'
 refine zgo ?_
 refine Runs.cond rfl (fun hq=>?_) (fun hq=>?_)
 ·refine zgo ?_
  refine WO.put1 tab_ok rfl rfl rfl rfl rfl rfl rfl (one_int _) hb4 (by rw [rowZ_length];omega) fun h5 hb5 hx5 hs5=>?_
  rw [Nat.zero_add,Nat.mul_one,rowZ_set] at hb5
  refine zgo ?_
  refine ih ⟨i+1,j+1,acc++[(i,j)]⟩ _ _ (by dsimp only;omega) ⟨rfl,rfl,rfl,rfl,rfl,rfl,rfl,trivial⟩ ⟨hlt',hjt',hx4.trans_new (hx5.mono fun k _ e=>.inr (by omega)),ka.keep ⟨hlt',hjt'⟩ (by rw [hmt];exact hq),?_⟩
  dsimp only
  rw [rowZ_congr (g:=fun k=>if k=i then (j:Int) else if k=i then -1 else if k<i then oi (atI acc k) else 0) (fun k hk=>?_)]
  ·exact hb5
  ·rw [atI_snoc (fun p hp=>(ka.low p hp).1)]
   by_cases e:k=i
   ·subst e;rw [if_pos (by omega),if_pos rfl,if_pos rfl];rfl
   ·rw [if_neg e,if_neg e,if_neg e]
    by_cases e2:k<i
    ·rw [if_pos e2,if_pos (by omega)]
    ·rw [if_neg e2,if_neg (by omega)]
 have hmf:mtS H W i j=false:=by rw [hmt];exact hq
 refine zgo ?_
 refine Runs.drawn (m:=13) (fun h'=>Ext h4 h') (fun i=>false) mixed rfl ?_
 refine zp 0 (Fr.refl _ _) ?_
 refine zp 1 (Fr.refl _ _) ?_
 refine WF.take 2 rfl (fun _ _=>ov_add rfl rfl rfl (in_i64 (by omega) (by omega))) (Fr.refl _ _) rfl rfl rfl (by kernel_rfl) ?_
 refine WF.take 3 rfl (fun _ _=>ov_slice_lo tab_ok rfl rfl rfl rfl rfl rfl (show i+1≤H.length by omega)) (Fr.refl _ _) rfl rfl rfl (by kernel_rfl) ?_
 refine zp 4 (Fr.refl _ _) ?_
 refine zp 5 (Fr.refl _ _) ?_
 refine WF.take 6 rfl (fun _ _=>ov_add rfl rfl rfl (in_i64 (by omega) (by omega))) (Fr.refl _ _) rfl rfl rfl (by kernel_rfl) ?_
 refine WF.take 7 rfl (fun _ _=>ov_slice_lo tab_ok rfl rfl rfl rfl rfl rfl (show i+1≤H.length by omega)) (Fr.refl _ _) rfl rfl rfl (by kernel_rfl) ?_
 refine zp 8 (Fr.refl _ _) ?_
 refine zp 9 (Fr.refl _ _) ?_
 refine WF.take 10 rfl (fun _ _=>ov_slice_lo tab_ok rfl rfl rfl rfl rfl rfl (show j≤W.length by omega)) (Fr.refl _ _) rfl rfl rfl (by kernel_rfl) ?_
 refine WF.call 11 (by kernel_rfl) rfl rfl rfl rfl rfl plain_best rfl (best_ret _ _ _ (H.drop (i+1)) (W.drop j) _ (hH4.cut (i+1) (by omega)) (strs_cut hW4 j (by omega)) (by simp;omega) (by simp;omega)) fun v5 h5 ⟨hx5,hv5⟩=>⟨.inr hx5,?_⟩
 subst hv5
 refine zx 12 hx5 ?_
 refine zd ?_
 refine zgo ?_
 refine Runs.drawn (m:=12) (fun h'=>Ext h5 h') (fun i=>false) mixed rfl ?_
 refine zp 0 (Fr.refl _ _) ?_
 refine zp 1 (Fr.refl _ _) ?_
 refine WF.take 2 rfl (fun _ _=>ov_slice_lo tab_ok rfl rfl rfl rfl rfl rfl (show i≤H.length by omega)) (Fr.refl _ _) rfl rfl rfl (by kernel_rfl) ?_
 refine zp 3 (Fr.refl _ _) ?_
 refine zp 4 (Fr.refl _ _) ?_
 refine WF.take 5 rfl (fun _ _=>ov_slice_lo tab_ok rfl rfl rfl rfl rfl rfl (show i≤H.length by omega)) (Fr.refl _ _) rfl rfl rfl (by kernel_rfl) ?_
 refine zp 6 (Fr.refl _ _) ?_
 refine zp 7 (Fr.refl _ _) ?_
 refine WF.take 8 rfl (fun _ _=>ov_add rfl rfl rfl (in_i64 (by omega) (by omega))) (Fr.refl _ _) rfl rfl rfl (by kernel_rfl) ?_
 refine WF.take 9 rfl (fun _ _=>ov_slice_lo tab_ok rfl rfl rfl rfl rfl rfl (show j+1≤W.length by omega)) (Fr.refl _ _) rfl rfl rfl (by kernel_rfl) ?_
 refine WF.call 10 (by kernel_rfl) rfl rfl rfl rfl rfl plain_best rfl (best_ret _ _ _ (H.drop i) (W.drop (j+1)) _ ((hH4.ext hx5).cut i (by omega)) (strs_cut (hW4.ext hx5) (j+1) (by omega)) (by simp;omega) (by simp;omega)) fun v6 h6 ⟨hx6,hv6⟩=>⟨.inr hx6,?_⟩
 subst hv6
 refine zx 11 hx6 ?_
 refine zd ?_
 have hx46:=hx5.trans hx6
 refine zgo ?_
 refine Runs.cond_dec rfl (fun hle=>?_) (fun hle=>?_)
 ·have hle':lcA H W i (j+1)≤lcA H W (i+1) j:=by unfold lcA;omega
  refine zgo ?_
  exact ih ⟨i+1,j,acc⟩ _ _ (by dsimp only;omega) ⟨rfl,rfl,rfl,rfl,rfl,rfl,rfl,trivial⟩ ⟨hlt',hj,hx4.trans hx46,ka.down ⟨hlt',hjt'⟩ hmf hle',by rw [← hfun];exact hb4.ext hx46⟩
 ·have hle':¬ lcA H W i (j+1)≤lcA H W (i+1) j:=by unfold lcA;omega
  refine zgo ?_
  exact ih2 (j+1) _ _ (by omega) ⟨rfl,rfl,rfl,rfl,rfl,rfl,rfl,rfl,trivial⟩ ⟨hjt',hx4.trans hx46,ka.side ⟨hlt',hjt'⟩ hmf hle',hb4.ext hx46⟩
end Go.Proofs.YtlaffgagmncgjaaGreatDoor
namespace Go.Proofs.YtlaffgagmncgjaaGreatDoor
open Tryz Go Go.Pat Go.Proofs
theorem linesOf_ref {p:PatchD} {l:LineD} (h:l∈linesOfS p):l.ref.p=p.id:=by
 obtain ⟨⟨c,i⟩,_,rfl⟩:=List.mem_map.1 h
 rfl
theorem linesOf_nodup (p:PatchD):((linesOfS p).map LineD.ref).Nodup:=by
 unfold linesOfS linesUp
 rw [List.map_map,List.nodup_iff_pairwise_ne,List.pairwise_map]
 rw [List.pairwise_iff_getElem]
 intro i j hi hj hij e
 simp only [List.getElem_zipIdx,Function.comp,RefD.mk.injEq] at e
 omega
theorem refs_nodup {ps:List PatchD} (h:(ps.map PatchD.id).Nodup):((linesS ps).map LineD.ref).Nodup:=by
 induction ps with
 | nil=>simp [linesS]
 | cons p ps ih =>
  rw [List.map_cons,List.nodup_cons] at h
  have e:linesS (p::ps)=linesOfS p++linesS ps:=by simp [linesS]
  rw [e,List.map_append,List.nodup_append]
  refine ⟨linesOf_nodup p,ih h.2,fun a ha b hb hab=>?_⟩
  obtain ⟨l,hl,rfl⟩:=List.mem_map.1 ha
  obtain ⟨l',hl',rfl⟩:=List.mem_map.1 hb
  obtain ⟨q,hq,hl'⟩:=List.mem_flatMap.1 hl'
  have h1:=linesOf_ref hl
  have h2:=linesOf_ref hl'
  exact h.1 (List.mem_map.2 ⟨q,hq,by rw [← h2,← hab,h1]⟩)
theorem eqb_iff {a b:RefD}:a.eqb b=true↔a=b:=by
 unfold RefD.eqb
 obtain ⟨a1,a2⟩:=a
 obtain ⟨b1,b2⟩:=b
 simp
theorem ref_at {ps:List PatchD} (h:(ps.map PatchD.id).Nodup) {i j:Nat} (hi:i<nX ps) (hj:j<nX ps) (e:(lnX ps i).ref=(lnX ps j).ref):i=j:=by
 have hn:=refs_nodup h
 rw [List.nodup_iff_pairwise_ne,List.pairwise_iff_getElem] at hn
 have g:∀ k,k<nX ps→((linesS ps).map LineD.ref)[k]? = some (lnX ps k).ref:=fun k hk=>by rw [List.getElem?_map,lnX_get hk];rfl
 have hl:((linesS ps).map LineD.ref).length=nX ps:=by simp [nX]
 have g':∀ k (hk:k<nX ps),((linesS ps).map LineD.ref)[k]'(hl ▸ hk)=(lnX ps k).ref:=fun k hk=>by
  have:=g k hk
  rw [List.getElem?_eq_getElem (hl ▸ hk)] at this
  exact Option.some.inj this
 rcases Nat.lt_trichotomy i j with q | q | q
 ·exact absurd (by rw [g' i hi,g' j hj];exact e) (hn i j (hl ▸ hi) (hl ▸ hj) q)
 ·exact q
 ·exact absurd (by rw [g' i hi,g' j hj];exact e.symm) (hn j i (hl ▸ hj) (hl ▸ hi) q)
theorem place_iff {ps:List PatchD} (h:(ps.map PatchD.id).Nodup) {r:RefD} {i:Nat}:placeS (linesS ps) r=some i↔i<nX ps∧(lnX ps i).ref=r:=by
 unfold placeS
 rw [List.findIdx?_eq_some_iff_getElem]
 have g':∀ k (hk:k<(linesS ps).length),(linesS ps)[k]=lnX ps k:=fun k hk=>by
  have:=lnX_get (ps:=ps) hk
  rw [List.getElem?_eq_getElem hk] at this
  exact Option.some.inj this
 constructor
 ·rintro ⟨hi,e,_⟩
  rw [g' i hi] at e
  exact ⟨hi,eqb_iff.1 e⟩
 ·rintro ⟨hi,e⟩
  have hi2:i<(linesS ps).length:=hi
  refine ⟨hi2,by rw [g' i hi2];exact eqb_iff.2 e,fun j hj=>?_⟩
  have hj':j<(linesS ps).length:=by omega
  rw [g' j hj']
  intro e'
  have:=ref_at h (i:=j) (j:=i) hj' hi2 ((eqb_iff.1 e').trans e.symm)
  omega
theorem ordTo_nodup {dd:Nat→Bool} {fst:Nat→Nat→Bool}:∀ t,(ordTo dd fst t).Nodup:=by
 intro t
 induction t with
 | zero=>simp [ordTo]
 | succ t ih =>
  rw [ordTo_succ]
  split
  ·exact ih
  ·have hno:t∉ordTo dd fst t:=fun h=>by have:=(ordTo_mem t h).1;omega
   unfold insW
   have e:(ordTo dd fst t).takeWhile (fun x=>fst x t)++(ordTo dd fst t).dropWhile (fun x=>fst x t)=ordTo dd fst t:=List.takeWhile_append_dropWhile
   rw [← e] at ih hno
   rw [List.nodup_append] at ih ⊢
   rw [List.nodup_cons]
   rw [List.mem_append,not_or] at hno
   refine ⟨ih.1,⟨hno.2,ih.2.1⟩,fun a ha b hb=>?_⟩
   rcases List.mem_cons.1 hb with q | q
   ·subst q;exact fun e=>hno.1 (e ▸ ha)
   ·exact ih.2.2 a ha b q
def xH (ps:List PatchD) (orx:Nat→Bool) (L:List Nat):List HLine:=L.map fun k=>(mayB (markX ps orx k),(lnX ps k).text)
def xLd (ps:List PatchD) (L:List Nat) (a b:Nat):Bool:=match L[a]?,L[b]? with
 | some k,some l=>getB (onS ps) k l
 | _,_=>false
def xRC (ps:List PatchD) (orx:Nat→Bool) (L:List Nat) (id:Nat) (W:List (List UInt8)):RC:=⟨id,L.map (fun k=>(lnX ps k).ref),prs (xH ps orx L) W,W,xLd ps L⟩
theorem nats_ext:∀ {a b:List Nat},a.Pairwise (· < ·)→b.Pairwise (· < ·)→(∀ x,x∈a↔x∈b)→a=b
 | [],b,_,_,hm=>by
  cases b with
  | nil=>rfl
  | cons y b=>exact absurd ((hm y).2 (by simp)) (by simp)
 | x::a,[],_,_,hm=>absurd ((hm x).1 (by simp)) (by simp)
 | x::a,y::b,h,h',hm=>by
  simp only [List.pairwise_cons] at h h'
  have hxy:x=y:=by
   rcases List.mem_cons.1 ((hm x).1 (by simp)) with e | e
   ·exact e
   ·rcases List.mem_cons.1 ((hm y).2 (by simp)) with e' | e'
    ·exact e'.symm
    ·have:=h.1 y e';have:=h'.1 x e;omega
  subst hxy
  congr 1
  refine nats_ext h.2 h'.2 fun p=>⟨fun hp=>?_,fun hp=>?_⟩
  ·rcases List.mem_cons.1 ((hm p).1 (List.mem_cons_of_mem _ hp)) with e | e
   ·have:=h.1 p hp;omega
   ·exact e
  ·rcases List.mem_cons.1 ((hm p).2 (List.mem_cons_of_mem _ hp)) with e | e
   ·have:=h'.1 p hp;omega
   ·exact e
structure ChOk (ps:List PatchD) (id:Nat) (c:ChangeD):Prop where
 up:c.up.p=0∨c.up.p=id∨c.up.p∈ps.map PatchD.id
 down:c.down.p=0∨c.down.p=id∨c.down.p∈ps.map PatchD.id
 del:c.kind=2→c.down.p=0
theorem line_iff {ps:List PatchD} {r:RefD} {x:Nat}:(∃ l∈besL (linesS ps) r,l.ref.p=x)↔∃ p∈ps,p.id=x∧besB r p=true:=by
 unfold besL besB linesS linesOfS linesUp
 constructor
 ·rintro ⟨l,hl,e⟩
  obtain ⟨hl,hb⟩:=List.mem_filter.1 hl
  obtain ⟨p,hp,hl⟩:=List.mem_flatMap.1 hl
  obtain ⟨⟨d,i⟩,hd,rfl⟩:=List.mem_map.1 hl
  have h1:=List.mk_mem_zipIdx_iff_getElem?.1 hd
  have h2:=List.mem_filter.1 (List.mem_of_getElem? h1)
  exact ⟨p,hp,e,List.any_eq_true.2 ⟨d,h2.1,by rw [h2.2];exact hb⟩⟩
 ·rintro ⟨p,hp,e,hb⟩
  obtain ⟨d,hd,hb⟩:=List.any_eq_true.1 hb
  rw [Bool.and_eq_true] at hb
  obtain ⟨i,hi⟩:=List.getElem?_of_mem (List.mem_filter.2 ⟨hd,hb.1⟩:d∈p.changes.filter fun c=>decide (c.kind=1))
  exact ⟨⟨⟨p.id,i⟩,d.up,d.down,d.text⟩,List.mem_filter.2 ⟨List.mem_flatMap.2 ⟨p,hp,List.mem_map.2 ⟨(d,i),List.mk_mem_zipIdx_iff_getElem?.2 hi,rfl⟩⟩,hb.2⟩,e⟩
theorem nd_same {ps:List PatchD} (hinv:Inv ps) {id:Nat} (hid:id∉ps.map PatchD.id) {ch:List ChangeD} (hc:∀ c∈ch,ChOk ps id c) {l:List Nat} (hs:l.Pairwise (· < ·))
  (hm:∀ x,x∈l↔∃ c∈ch,x∈spkN id (spk (linesS ps) c)):l=ndS ps ch:=by
 refine nats_ext hs (List.Pairwise.sublist (List.filter_sublist.map PatchD.id) hinv.rise) fun x=>?_
 rw [hm]
 unfold ndS spkN
 simp only [List.mem_map,List.mem_filter,Bool.and_eq_true,decide_eq_true_eq,Bool.not_eq_true',decide_eq_false_iff_not]
 constructor
 ·rintro ⟨c,hcm,r,⟨hr,h0,hne⟩,rfl⟩
  have hk:=hc c hcm
  unfold spk at hr
  split at hr
  ·rename_i h2
   rcases List.mem_cons.1 hr with e | e
   ·subst e
    have:c.up.p∈ps.map PatchD.id:=by
     rcases hk.up with e | e | e
     ·omega
     ·exact absurd e hne
     ·exact e
    obtain ⟨p,hp,e⟩:=List.mem_map.1 this
    exact ⟨p,⟨hp,List.any_eq_true.2 ⟨c,hcm,by simp [e]⟩⟩,e⟩
   ·obtain ⟨y,hy,rfl⟩:=List.mem_map.1 e
    obtain ⟨p,hp,e,hb⟩:=line_iff.1 ⟨y,hy,rfl⟩
    exact ⟨p,⟨hp,List.any_eq_true.2 ⟨c,hcm,by simp [h2,hb]⟩⟩,e⟩
  ·have:(c.up.p=r.p∨c.down.p=r.p)∧r.p∈ps.map PatchD.id:=by
    simp only [List.mem_cons,List.not_mem_nil,or_false] at hr
    rcases hr with e | e
    ·subst e
     refine ⟨.inl rfl,?_⟩
     rcases hk.up with e | e | e
     ·omega
     ·exact absurd e hne
     ·exact e
    ·subst e
     refine ⟨.inr rfl,?_⟩
     rcases hk.down with e | e | e
     ·omega
     ·exact absurd e hne
     ·exact e
   obtain ⟨h1,h2⟩:=this
   obtain ⟨p,hp,e⟩:=List.mem_map.1 h2
   refine ⟨p,⟨hp,List.any_eq_true.2 ⟨c,hcm,?_⟩⟩,e⟩
   rw [← e] at h1
   rcases h1 with h1 | h1<;>simp [h1]
 ·rintro ⟨p,⟨hp,hb⟩,rfl⟩
  have hmem:p.id∈ps.map PatchD.id:=List.mem_map.2 ⟨p,hp,rfl⟩
  obtain ⟨t,ht,_⟩:=hinv.fine p hp
  have hpos:0<p.id:=Nat.pos_of_ne_zero (parse_ok ht).2
  have hne:¬ p.id=id:=fun e=>hid (e ▸ hmem)
  obtain ⟨c,hcm,h⟩:=List.any_eq_true.1 hb
  have hk:=hc c hcm
  simp only [Bool.or_eq_true,Bool.and_eq_true,decide_eq_true_eq] at h
  rcases h with (h | h) | ⟨h2,h⟩
  ·refine ⟨c,hcm,c.up,⟨?_,by omega,by omega⟩,h⟩
   unfold spk
   split<;>simp
  ·refine ⟨c,hcm,c.down,⟨?_,by omega,by omega⟩,h⟩
   unfold spk
   rw [if_neg (fun e=>by have:=hk.del e;omega)]
   simp
  ·obtain ⟨y,hy,e⟩:=line_iff.2 ⟨p,hp,rfl,h⟩
   refine ⟨c,hcm,y.ref,⟨?_,by omega,by omega⟩,e⟩
   unfold spk
   rw [if_pos h2]
   exact List.mem_cons_of_mem _ (List.mem_map.2 ⟨y,hy,rfl⟩)
theorem RC.kind3 (c:RC) {d:ChangeD} (hd:d∈c.ch):kind3 d:=by
 unfold RC.ch at hd
 rcases List.mem_append.1 hd with h | h
 ·obtain ⟨i,_,h⟩:=List.mem_flatMap.1 h
  unfold RC.del at h
  split at h
  ·simp only [List.mem_singleton] at h;subst h;exact .inr (.inl rfl)
  ·simp at h
 ·obtain ⟨j,_,h⟩:=List.mem_flatMap.1 h
  unfold RC.put at h
  split at h
  ·simp only [List.mem_singleton] at h;subst h;exact .inl rfl
  ·split at h
   ·simp at h
   ·split at h
    ·simp at h
    ·split at h
     ·simp at h
     ·simp only [List.mem_singleton] at h;subst h;exact .inr (.inr rfl)
structure RcOk (ps:List PatchD) (c:RC):Prop where
 id:c.id<10000∧c.id≠0
 out:c.id∉ps.map PatchD.id
 ref:∀ r∈c.R,RefD.ok r∧r.p∈ps.map PatchD.id
 inc:Inc c.pr
 low:∀ p∈c.pr,p.1<c.R.length∧p.2<c.W.length
 want:c.W.length≤24∧∀ t∈c.W,t.length≤12
namespace RcOk
variable {ps:List PatchD} {c:RC} (k:RcOk ps c)
include k
theorem st {j i:Nat} (h:c.st j=some i):i<c.R.length∧j<c.W.length:=k.low _ ((atJ_iff k.inc i j).1 h)
theorem refOk {i:Nat} (h:i<c.R.length):RefD.ok (c.ref i)∧(c.ref i).p∈ps.map PatchD.id:=by
 have e:c.ref i=c.R[i]:=by simp [RC.ref,List.getD_eq_getElem?_getD,h]
 rw [e];exact k.ref _ (List.getElem_mem h)
theorem nmOk {j:Nat} (h:j<24):RefD.ok (c.nm j)∧((c.nm j).p=c.id∨(c.nm j).p∈ps.map PatchD.id):=by
 unfold RC.nm
 split
 ·rename_i i e
  have:=k.refOk (k.st e).1
  exact ⟨this.1,.inr this.2⟩
 ·have:=c.own_le j
  have:=k.id
  exact ⟨⟨this.1,by show c.own j<10000;omega,fun e=>absurd e this.2⟩,.inl rfl⟩
theorem upOk {j:Nat} (h:j<24):RefD.ok (c.up j)∧((c.up j).p=0∨(c.up j).p=c.id∨(c.up j).p∈ps.map PatchD.id):=by
 unfold RC.up
 split
 ·exact ⟨⟨by decide,by decide,fun _=>by decide⟩,.inl rfl⟩
 ·have:=k.nmOk (j:=j-1) (by omega)
  exact ⟨this.1,.inr this.2⟩
theorem dnOk:∀ (l:List Nat),(∀ j∈l,j<24)→RefD.ok (c.dnF l)∧((c.dnF l).p=0∨(c.dnF l).p=c.id∨(c.dnF l).p∈ps.map PatchD.id)
 | [],_=>⟨⟨Nat.zero_lt_succ _,Nat.one_lt_succ_succ _,fun _=>Nat.one_lt_two⟩,.inl rfl⟩
 | j::l,h=>by
  unfold RC.dnF
  split
  ·have:=k.nmOk (h j (by simp))
   exact ⟨this.1,.inr this.2⟩
  ·exact dnOk l fun x hx=>h x (List.mem_cons_of_mem _ hx)
theorem chOk {d:ChangeD} (h:d∈c.ch):ChangeD.ok d∧ChOk ps c.id d:=by
 have hw:=k.want
 unfold RC.ch at h
 rcases List.mem_append.1 h with h | h
 ·obtain ⟨i,hi,h⟩:=List.mem_flatMap.1 h
  unfold RC.del at h
  split at h
  ·simp only [List.mem_singleton] at h
   subst h
   have:=k.refOk (List.mem_range.1 hi)
   exact ⟨⟨this.1,⟨Nat.zero_lt_succ _,Nat.zero_lt_succ _,fun _=>Nat.zero_lt_two⟩,by simp⟩,⟨.inr (.inr this.2),.inl rfl,fun _=>rfl⟩⟩
  ·simp at h
 ·obtain ⟨j,hj,h⟩:=List.mem_flatMap.1 h
  have hj':=List.mem_range.1 hj
  unfold RC.put at h
  split at h
  ·simp only [List.mem_singleton] at h
   subst h
   have h1:=k.upOk (j:=j) (by omega)
   have h2:=k.dnOk (List.range' (j+1) (c.W.length-(j+1))) (fun x hx=>by have:=List.mem_range'_1.1 hx;omega)
   have h3:c.W.getD j []∈c.W:=by simp [List.getD_eq_getElem?_getD,hj']
   exact ⟨⟨h1.1,h2.1,hw.2 _ h3⟩,⟨h1.2,h2.2,fun e=>by simp at e⟩⟩
  ·rename_i i e
   split at h
   ·simp at h
   ·split at h
    ·simp at h
    ·rename_i i' e'
     split at h
     ·simp at h
     ·simp only [List.mem_singleton] at h
      subst h
      have h1:=k.refOk (k.st e).1
      have h2:=k.refOk (k.st e').1
      exact ⟨⟨h2.1,h1.1,by simp⟩,⟨.inr (.inr h2.2),.inr (.inr h1.2),fun e=>by simp at e⟩⟩
theorem pOk (hinv:Inv ps) (hl:c.ch.length≤30):PatchD.ok ⟨c.id,ndS ps c.ch,c.ch⟩:=by
 refine ⟨k.id.1,fun n hn=>?_,fun d hd=>(k.chOk hd).1,hl,?_⟩
 ·obtain ⟨p,hp,rfl⟩:=List.mem_map.1 hn
  exact (hinv.ok (List.mem_filter.1 hp).1).id
 ·show (ndS ps c.ch).length≤20
  unfold ndS
  have:=List.length_filter_le (ndB c.ch) ps
  have:=hinv.len
  rw [List.length_map];omega
end RcOk
theorem xRC_ok {ps:List PatchD} (hinv:Inv ps) {orx:Nat→Bool} {sd:Nat→Int} {id:Nat} {W:List (List UInt8)} (h1:id<10000∧id≠0) (h2:id∉ps.map PatchD.id) (h3:W.length≤24∧∀ t∈W,t.length≤12):RcOk ps (xRC ps orx (ordX ps sd) id W):=by
 refine ⟨h1,h2,fun r hr=>?_,wk_inc _ _ _,fun p hp=>?_,h3⟩
 ·obtain ⟨k,hk,rfl⟩:=List.mem_map.1 hr
  have hk1:=(ordX_mem k hk).1
  have hm:=List.mem_of_getElem? (lnX_get hk1)
  obtain ⟨q,hq,e1,e2⟩:=mem_linesS.1 ⟨_,hm,rfl⟩
  have hqk:=hinv.ok hq
  have:=ownN_le q.changes
  have:=hqk.len
  obtain ⟨t,ht,_⟩:=hinv.fine q hq
  refine ⟨⟨by rw [e1];exact hqk.id,by omega,fun e=>?_⟩,by rw [e1];exact List.mem_map.2 ⟨q,hq,rfl⟩⟩
  exact absurd (e1.symm.trans e) (parse_ok ht).2
 ·have:=wk_low _ _ _ _ hp
  simp only [xRC,xH,List.length_map] at this ⊢
  omega
end Go.Proofs.YtlaffgagmncgjaaGreatDoor
namespace Go.Proofs.YtlaffgagmncgjaaGreatDoor
open Tryz Go Go.Pat Go.Proofs
def refAt (al:List LineD) (s:ShD):RefD:=match al[s.i]? with
 | some l=>l.ref
 | none=>⟨0,0⟩
def mH (al:List LineD) (L:List ShD):List HLine:=L.map fun s=>(mayB s.mark,textAt al s)
def mLd (ld:List (List Bool)) (L:List ShD) (a b:Nat):Bool:=match L[a]?,L[b]? with
 | some s,some t=>getB ld s.i t.i
 | _,_=>false
def mRC (al:List LineD) (ld:List (List Bool)) (L:List ShD) (id:Nat) (W:List (List UInt8)):RC:=⟨id,L.map (refAt al),prs (mH al L) W,W,mLd ld L⟩
def insN (n:Nat) (l:List Nat):List Nat:=l.filter (fun x=>decide (x<n))++n::l.filter fun x=>decide (n<x)
theorem insN_all {l:List Nat} {n:Nat} (h:∀ x∈l,x<n):insN n l=l++[n]:=by
 unfold insN
 rw [List.filter_eq_self.2 (fun x hx=>by simpa using h x hx),List.filter_eq_nil_iff.2 (fun x hx=>by have:=h x hx;simp;omega)]
theorem insN_snoc {l:List Nat} {n x:Nat} (h:n<x):insN n (l++[x])=insN n l++[x]:=by
 unfold insN
 have e1:[x].filter (fun y=>decide (y<n))=[]:=List.filter_eq_nil_iff.2 fun y hy=>by simp at hy;subst hy;simp;omega
 have e2:[x].filter (fun y=>decide (n<y))=[x]:=List.filter_eq_self.2 fun y hy=>by simp at hy;subst hy;simpa using h
 rw [List.filter_append,List.filter_append,e1,e2]
 simp
theorem insN_sort {l:List Nat} {n:Nat} (h:l.Pairwise (· < ·)):(insN n l).Pairwise (· < ·):=by
 unfold insN
 rw [List.pairwise_append,List.pairwise_cons]
 refine ⟨h.sublist List.filter_sublist,⟨fun x hx=>by simpa using (List.mem_filter.1 hx).2,h.sublist List.filter_sublist⟩,fun x hx y hy=>?_⟩
 have h1:x<n:=by simpa using (List.mem_filter.1 hx).2
 rcases List.mem_cons.1 hy with e | e
 ·omega
 ·have:n<y:=by simpa using (List.mem_filter.1 e).2
  omega
theorem insN_mem {l:List Nat} {n x:Nat}:x∈insN n l↔x=n∨x∈l:=by
 unfold insN
 simp only [List.mem_append,List.mem_cons,List.mem_filter,decide_eq_true_eq]
 constructor
 ·rintro (⟨h,_⟩ | h | ⟨h,_⟩)
  ·exact .inr h
  ·exact .inl h
  ·exact .inr h
 ·rintro (h | h)
  ·exact .inr (.inl h)
  ·rcases Nat.lt_trichotomy x n with e | e | e
   ·exact .inl ⟨h,e⟩
   ·exact .inr (.inl e)
   ·exact .inr (.inr ⟨h,e⟩)
theorem plain_wiN:Plain Tryz.prog 173:=⟨_,func173,by decide +kernel,by rfl⟩
structure WNX where
 (i:Nat) (d:Bool) (v:Value) (o:List Nat)
theorem wiN_ret (l:List Nat) (n:Nat) (vl:Value) (h:Heap) (hr:Rd h 1 vl l.length (ints l)) (hs:l.Pairwise (· < ·)) (hl:l.length≤16777216) :
  Ret Tryz.prog 173 #[vl,.int .i64 (n:Int)] h fun v h'=>Ext h h'∧∃ r:List Nat,r.length≤l.length+1∧r.Pairwise (· < ·)∧(∀ x,x∈r↔x=n∨x∈l)∧Rd h' 1 v r.length (ints r)∧∀ k,v.ownBlock=some k→vl.ownBlock=some k∨h.size≤k:=by
 refine Ret.of_body func173 rfl ntmps173 rfl rfl ?_
 obtain ⟨ad,cap,e⟩:=hr.form
 subst e
 refine zgo ?_
 refine Runs.loop (X:=WNX) (fun x=>[(0,.slice ad l.length cap),(1,.int .i64 (n:Int)),(5,x.v),(6,.bool x.d),(9,.slice ad l.length cap),(10,.int .i64 (l.length:Int)),(11,.int .i64 (x.i:Int))])
  (fun x h'=>x.i≤l.length∧Ext h h'∧Own h' 3 1 x.v x.o.length (ints x.o)∧(∀ k,x.v.ownBlock=some k→h.size≤k)∧n∉l.take x.i∧(x.d=true→x.o=insN n (l.take x.i)∧∃ y∈l.take x.i,n<y)∧(x.d=false→x.o=l.take x.i∧∀ y∈l.take x.i,y<n)∧x.o.length≤x.i+1)
  (fun x=>l.length-x.i) ⟨0,false,.slice none 0 0,[]⟩ ⟨rfl,rfl,rfl,rfl,rfl,rfl,rfl,trivial⟩ ⟨Nat.zero_le _,Fr.refl _ _,Own.nil _ _ _,fun k hk=>by simp [Value.ownBlock] at hk,by simp,fun e=>by simp at e,fun _=>⟨rfl,by simp⟩,by simp⟩ ?_
 rintro ⟨i,d,v,o⟩ h2 ⟨hi,hx2,ho2,hm2,hn2,hd2,hf2,hol⟩ ih
 dsimp only at hi hx2 ho2 hm2 hn2 hd2 hf2 hol ih ⊢
 have hz2:=hx2.size
 refine zgo ?_
 refine Runs.cond_dec rfl (fun hlt=>?_) (fun hge=>?_)
 rotate_left
 ·rw [List.take_of_length_le (by omega)] at hn2 hd2 hf2
  cases d with
  | true =>
   obtain ⟨e,_⟩:=hd2 rfl
   refine zgo ?_
   refine Runs.ret func173 (ret1 results173 rfl) ⟨hx2,o,?_,by rw [e];exact insN_sort hs,fun x=>by rw [e,insN_mem],ho2.rd,fun k hk=>.inr (hm2 k hk)⟩
   omega
  | false =>
   obtain ⟨e,hall⟩:=hf2 rfl
   refine zgo ?_
   refine zh (one_int _) ho2 ?_
   intro v' h3 o1 o2 o3
   refine zgo ?_
   have o1':Own h3 3 1 v' (insN n l).length (ints (insN n l)):=by
    rw [insN_all hall,← e];simpa [ints] using o1
   refine Runs.ret func173 (ret1 results173 rfl) ⟨hx2.trans_new (o2.mono fun k _ e=>.inr (hm2 k e)),insN n l,by rw [insN_all hall];simp,insN_sort hs,fun x=>insN_mem,o1'.rd,fun k hk=>.inr ?_⟩
   rcases o3 k hk with e | e
   ·exact hm2 k e
   ·omega
 have hlt':i<l.length:=by omega
 have hget:l[i]? = some l[i]:=List.getElem?_eq_getElem hlt'
 have hsn:l.take (i+1)=l.take i++[l[i]]:=List.take_succ_eq_append_getElem hlt'
 have hbig:∀ y∈l.take i,y<l[i]:=fun y hy=>by
  have hs':(l.take i++l.drop i).Pairwise (· < ·):=by rw [List.take_append_drop];exact hs
  exact (List.pairwise_append.1 hs').2.2 y hy _ (List.mem_of_getElem? (i:=0) (by simp [hget]))
 have hmem:l[i]∈l:=List.getElem_mem hlt'
 generalize l[i]=x at *
 obtain ⟨b0,p0,cap0,hv,_,hcell⟩:=(hr.ext hx2).cell (ints_get hget)
 cases hv
 refine zgo ?_
 refine Runs.cond_dec rfl (fun hxn=>?_) (fun hxn=>?_)
 ·have hxn':x=n:=by omega
  refine zgo ?_
  refine Runs.ret func173 (ret1 results173 rfl) ⟨hx2,l,by omega,hs,fun y=>⟨.inr,fun e=>?_⟩,hr.ext hx2,fun k hk=>.inl hk⟩
  rcases e with e | e
  ·rw [e,← hxn'];exact hmem
  ·exact e
 have hxn':¬ x=n:=by omega
 have hn3:n∉l.take (i+1):=by
  rw [hsn,List.mem_append,not_or]
  exact ⟨hn2,by simp;omega⟩
 cases d with
 | true =>
  obtain ⟨e1,y,hy,hny⟩:=hd2 rfl
  have hxbig:=hbig y hy
  refine zgo ?_
  refine zh (one_int _) ho2 ?_
  intro v' h3 o1 o2 o3
  refine zgo ?_
  refine ih ⟨i+1,true,v',o++[x]⟩ _ _ (by dsimp only;omega) ⟨rfl,rfl,rfl,rfl,rfl,rfl,rfl,trivial⟩ ⟨hlt',hx2.trans_new (o2.mono fun k _ e=>.inr (hm2 k e)),by simpa [ints] using o1,fun k hk=>?_,hn3,fun _=>⟨?_,x,by rw [hsn];simp,by omega⟩,fun e=>by simp at e,by simp;omega⟩
  ·rcases o3 k hk with e | e
   ·exact hm2 k e
   ·omega
  ·dsimp only;rw [hsn,insN_snoc (by omega),e1]
 | false =>
  obtain ⟨e1,hall⟩:=hf2 rfl
  refine zgo ?_
  by_cases hnx:(n:Int)<(x:Int)
  ·have hd:decide ((n:Int)<(x:Int))=true:=decide_eq_true hnx
   rw [hd]
   refine zgo ?_
   refine zh (one_int _) ho2 ?_
   intro v' h3 o1 o2 o3
   have o1':Own h3 3 1 v' (o++[n]).length (ints (o++[n])):=by simpa [ints] using o1
   have hm3:∀ k,v'.ownBlock=some k→h.size≤k:=fun k hk=>by
    rcases o3 k hk with e | e
    ·exact hm2 k e
    ·omega
   have hx3:=hx2.trans_new (o2.mono fun k _ e=>.inr (hm2 k e))
   have hz3:=hx3.size
   refine zgo ?_
   refine WO.push tab_ok rfl rfl rfl rfl rfl rfl rfl rfl rfl rfl rfl rfl rfl rfl rfl rfl rfl (by simp) (one_int _) o1' (by simp;omega) ?_
   intro v4 h4 q1 q2 q3
   refine zgo ?_
   have hol':o.length≤i:=by rw [e1];simp;omega
   refine ih ⟨i+1,true,v4,(o++[n])++[x]⟩ _ _ (by dsimp only;omega) ⟨rfl,rfl,rfl,rfl,rfl,rfl,rfl,trivial⟩ ⟨hlt',hx3.trans_new (q2.mono fun k _ e=>.inr (hm3 k e)),by simpa [ints] using q1,fun k hk=>?_,hn3,fun _=>⟨?_,x,by rw [hsn];simp,by omega⟩,fun e=>by simp at e,by simp;omega⟩
   ·rcases q3 k hk with e | e
    ·exact hm3 k e
    ·omega
   ·dsimp only;rw [hsn,insN_snoc (by omega),insN_all hall,e1]
  ·have hd:decide ((n:Int)<(x:Int))=false:=decide_eq_false hnx
   rw [hd]
   refine zgo ?_
   refine zh (one_int _) ho2 ?_
   intro v' h3 o1 o2 o3
   refine zgo ?_
   refine ih ⟨i+1,false,v',o++[x]⟩ _ _ (by dsimp only;omega) ⟨rfl,rfl,rfl,rfl,rfl,rfl,rfl,trivial⟩ ⟨hlt',hx2.trans_new (o2.mono fun k _ e=>.inr (hm2 k e)),by simpa [ints] using o1,fun k hk=>?_,hn3,fun e=>by simp at e,fun _=>⟨?_,fun y hy=>?_⟩,by simp;omega⟩
   ·rcases o3 k hk with e | e
    ·exact hm2 k e
    ·omega
   ·dsimp only;rw [hsn,e1]
   ·rw [hsn] at hy
    rcases List.mem_append.1 hy with e | e
    ·exact hall y e
    ·simp at e;omega
def lawB (t:List UInt8):Bool:=decide (t.length≤12)&&t.all fun b=>decide (32≤b.toNat)&&decide (b.toNat<127)
def lawS (W:List (List UInt8)):Bool:=decide (W.length≤24)&&W.all lawB
theorem plain_Lawful:Plain Tryz.prog 87:=⟨_,func87,by decide +kernel,by rfl⟩
theorem lawful_ret (W:List (List UInt8)) (vw:Value) (h:Heap) (hr:Rd h 1 vw W.length (strs W)) (hl:W.length≤16777216) (htl:∀ t∈W,t.length≤16777216) :
  Ret Tryz.prog 87 #[vw] h fun v h'=>h'=h∧v = .bool (lawS W):=by
 refine Ret.of_body func87 rfl ntmps87 rfl rfl ?_
 obtain ⟨ad,cap,e⟩:=hr.form
 subst e
 refine zgo ?_
 refine Runs.loop (X:=Nat) (fun i=>[(3,.bool (decide (W.length≤24)&&(W.take i).all lawB)),(10,.slice ad W.length cap),(11,.int .i64 (W.length:Int)),(12,.int .i64 (i:Int))])
  (fun i h'=>h=h'∧i≤W.length) (fun i=>W.length-i) 0 ⟨?_,rfl,rfl,rfl,trivial⟩ ⟨rfl,Nat.zero_le _⟩ ?_
 ·have:decide ((W.length:Int)≤24)=(decide (W.length≤24)&&(W.take 0).all lawB):=by simp;omega
  rw [← this];rfl
 rintro i _ ⟨rfl,hi⟩ ih
 refine zgo ?_
 refine Runs.cond_dec rfl (fun hlt=>?_) (fun hge=>?_)
 rotate_left
 ·refine zgo ?_
  exact Runs.ret func87 (ret1 results87 rfl) ⟨rfl,by unfold lawS;rw [List.take_of_length_le (by omega)]⟩
 have hlt':i<W.length:=by omega
 have hget:W[i]? = some W[i]:=List.getElem?_eq_getElem hlt'
 have hsn:W.take (i+1)=W.take i++[W[i]]:=List.take_succ_eq_append_getElem hlt'
 have htt:=htl _ (List.getElem_mem hlt')
 generalize W[i]=t at *
 obtain ⟨b0,p0,cap0,hv,_,hcell⟩:=hr.cell (strs_get hget)
 cases hv
 have hsn':(decide (W.length≤24)&&(W.take (i+1)).all lawB)=((decide (W.length≤24)&&(W.take i).all lawB)&&lawB t):=by rw [hsn,List.all_append];simp [Bool.and_assoc]
 generalize (decide (W.length≤24)&&(W.take i).all lawB)=r at *
 refine zgo ?_
 refine WO.join (fun env' h'=>h=h'∧Sub [(10,.slice (some ⟨b0,p0,none⟩) W.length cap),(11,.int .i64 (W.length:Int)),(12,.int .i64 (i:Int)),(5,.string (str t)),(3,.bool (r&&decide (t.length≤12)))] env') ?_ ?_
 ·refine WO.split 17 _ rfl (fun q1=>?_) (fun q1=>?_)
  ·refine zgo ?_
   refine ⟨rfl,rfl,rfl,rfl,rfl,?_,trivial⟩
   show some _=some _
   have:decide ((t.length:Int)≤12)=decide (t.length≤12):=by rw [Bool.eq_iff_iff];simp;omega
   rw [this,q1];rfl
  ·refine zgo ?_
   refine ⟨rfl,rfl,rfl,rfl,rfl,?_,trivial⟩
   show some _=some _
   rw [q1];rfl
 rintro env' _ ⟨rfl,hsub⟩
 refine Runs.sub hsub ?_
 clear hsub env'
 have hlaw:(r&&lawB t)=((r&&decide (t.length≤12))&&t.all fun b=>decide (32≤b.toNat)&&decide (b.toNat<127)):=by unfold lawB;rw [Bool.and_assoc]
 generalize (r&&decide (t.length≤12))=r2 at *
 refine zgo ?_
 refine Runs.loop (X:=Nat) (fun j=>[(10,.slice (some ⟨b0,p0,none⟩) W.length cap),(11,.int .i64 (W.length:Int)),(12,.int .i64 (i:Int)),(5,.string (str t)),(6,.int .i64 (j:Int)),(3,.bool (r2&&(t.take j).all fun b=>decide (32≤b.toNat)&&decide (b.toNat<127)))])
  (fun j h'=>h=h'∧j≤t.length) (fun j=>t.length-j) 0 ⟨rfl,rfl,rfl,rfl,rfl,by simp;rfl,trivial⟩ ⟨rfl,Nat.zero_le _⟩ ?_
 rintro j _ ⟨rfl,hj⟩ ih2
 refine zgo ?_
 refine Runs.cond_dec rfl (fun hjt=>?_) (fun hge=>?_)
 rotate_left
 ·rw [List.take_of_length_le (by omega),← hlaw,← hsn']
  refine zgo ?_
  exact ih (i+1) _ _ (by omega) ⟨rfl,rfl,rfl,rfl,trivial⟩ ⟨rfl,hlt'⟩
 have hjt':j<t.length:=by omega
 have hcj:t[j]? = some t[j]:=List.getElem?_eq_getElem hjt'
 have hok:(t.take (j+1)).all (fun b=>decide (32≤b.toNat)&&decide (b.toNat<127))=((t.take j).all (fun b=>decide (32≤b.toNat)&&decide (b.toNat<127))&&(decide (32≤t[j].toNat)&&decide (t[j].toNat<127))):=by
  rw [List.take_succ_eq_append_getElem hjt',List.all_append];simp
 generalize t[j]=x at *
 generalize (t.take j).all (fun b=>decide (32≤b.toNat)&&decide (b.toNat<127))=q at *
 refine zgo ?_
 refine WO.join (fun env' h'=>h=h'∧Sub [(10,.slice (some ⟨b0,p0,none⟩) W.length cap),(11,.int .i64 (W.length:Int)),(12,.int .i64 (i:Int)),(5,.string (str t)),(6,.int .i64 (j:Int)),(3,.bool ((r2&&q)&&(decide (32≤x.toNat)&&decide (x.toNat<127))))] env') ?_ ?_
 ·have e1:decide ((32:Int)≤(x.toNat:Int))=decide (32≤x.toNat):=by rw [Bool.eq_iff_iff];simp;omega
  have e2:decide ((x.toNat:Int)<127)=decide (x.toNat<127):=by rw [Bool.eq_iff_iff];simp;omega
  refine WO.split 29 _ rfl (fun q1=>?_) (fun q1=>?_)
  ·refine zgo ?_
   refine WO.split 35 _ rfl (fun q2=>?_) (fun q2=>?_)
   ·refine zgo ?_
    refine ⟨rfl,rfl,rfl,rfl,rfl,rfl,?_,trivial⟩
    show some _=some _
    rw [q1,← e1,q2,← e2];rfl
   ·refine zgo ?_
    refine ⟨rfl,rfl,rfl,rfl,rfl,rfl,?_,trivial⟩
    show some _=some _
    rw [q1,← e1,q2];rfl
  ·refine zgo ?_
   refine ⟨rfl,rfl,rfl,rfl,rfl,rfl,?_,trivial⟩
   show some _=some _
   rw [q1];rfl
 rintro env' _ ⟨rfl,hsub⟩
 refine Runs.sub hsub ?_
 clear hsub env'
 refine zgo ?_
 refine ih2 (j+1) _ _ (by omega) ⟨rfl,rfl,rfl,rfl,rfl,?_,trivial⟩ ⟨rfl,hjt'⟩
 rw [hok]
 show some (Value.bool ((r2&&q)&&_))=_
 rw [Bool.and_assoc]
theorem eqbI (a b:RefD):decide ((a.p:Int)=(b.p:Int)∧(a.i:Int)=(b.i:Int))=a.eqb b:=by
 unfold RefD.eqb
 rw [Bool.eq_iff_iff]
 simp
 omega
def refsC (l:List RefD):List Value:=l.flatMap RefD.cells
theorem refsC_append (l m:List RefD):refsC (l++m)=refsC l++refsC m:=by simp [refsC]
theorem refsC_get {h:Heap}:∀ {l:List RefD} {b p:Nat},Cells h b p (refsC l)→∀ {i:Nat} {c:RefD},l[i]? = some c→Cells h b (p+i*2) c.cells:=by
 intro l
 induction l with
 | nil=>intro b p _ i c hi;simp at hi
 | cons x l ih =>
  intro b p hc i c hi
  have hc':Cells h b p (x.cells++refsC l):=hc
  cases i with
  | zero=>simp at hi;subst hi;have h2:Cells h b p x.cells:=hc'.take 2;simpa using h2
  | succ i =>
   have h2:Cells h b (p+2) (refsC l):=hc'.tail.tail
   have:=ih h2 (i:=i) (c:=c) (by simpa using hi)
   rw [Nat.add_assoc,show 2+i*2=(i+1)*2 by omega] at this
   exact this
theorem own_of_blk {h:Heap} {e:TypeId} {sz b n:Nat} {xs:List Value} (hb:Blk h b xs e) (hl:xs.length=n*sz) (hn:n≤1000000):Own h e sz (.slice (some ⟨b,0,none⟩) n n) n xs :=
 ⟨hl,.inr ⟨b,n,xs.toArray,rfl,hb,Nat.le_refl _,by unfold maxLen;omega,by simpa using hl,by rw [← hl];simp⟩⟩
structure RNX where
 (i:Nat) (v:Value) (r:List Nat)
structure RLX where
 (i:Nat) (v:Value) (l:List RefD)
theorem plain_rneeds:Plain Tryz.prog 131:=⟨_,func131,by decide +kernel,by rfl⟩
theorem rneeds_ret {F:Nat→Prop} (mb b pb id:Nat) (bs:List Nat) (ps:List PatchD) (ch:List ChangeD) (nv cv:Value) (h:Heap) (hm:cellAt h mb 0=some (.pointer (some ⟨b,0,none⟩))) (hs:SA F h b bs ps) (hg:Good ps)
  (hp:Cells h pb 0 [.int .i64 (id:Int),nv,cv]) (hc:Rd h 6 cv ch.length (changes ch)) (hl:ch.length≤100) :
  Ret Tryz.prog 131 #[.pointer (some ⟨mb,0,none⟩),.pointer (some ⟨pb,0,none⟩)] h fun v h'=>Ext h h'∧∃ r:List Nat,r.Pairwise (· < ·)∧(∀ x,x∈r↔∃ c∈ch,x∈spkN id (spk (linesS ps) c))∧Rd h' 1 v r.length (ints r)∧∀ k,v.ownBlock=some k→h.size≤k:=by
 refine Ret.of_body func131 rfl ntmps131 rfl rfl ?_
 have hbs:bs.length=ps.length:=by obtain ⟨_,_,_,e,_⟩:=hs;exact e.1
 have hpl:=hg.len
 have hll:=linesS_len hg
 have p0:=hp.head
 have p2:=hp.tail.tail.head
 obtain ⟨ad,cap,e⟩:=hc.form
 subst e
 refine zgo ?_
 refine Runs.loop (X:=RNX) (fun x=>[(0,.pointer (some ⟨mb,0,none⟩)),(1,.pointer (some ⟨pb,0,none⟩)),(5,x.v),(16,.slice ad ch.length cap),(17,.int .i64 (ch.length:Int)),(18,.int .i64 (x.i:Int))])
  (fun x h'=>x.i≤ch.length∧Ext h h'∧x.r.Pairwise (· < ·)∧(∀ y,y∈x.r↔∃ c∈ch.take x.i,y∈spkN id (spk (linesS ps) c))∧Rd h' 1 x.v x.r.length (ints x.r)∧(∀ k,x.v.ownBlock=some k→h.size≤k)∧x.r.length≤x.i*1000)
  (fun x=>ch.length-x.i) ⟨0,.slice none 0 0,[]⟩ ⟨rfl,rfl,rfl,rfl,rfl,rfl,trivial⟩ ⟨Nat.zero_le _,Fr.refl _ _,List.Pairwise.nil,by simp,(Own.nil h 3 1).rd,fun k hk=>by simp [Value.ownBlock] at hk,by simp⟩ ?_
 rintro ⟨i,v,r⟩ h2 ⟨hi,hx2,hsort,hmem,hr2,hv2,hrl⟩ ih
 dsimp only at hi hx2 hsort hmem hr2 hv2 hrl ih ⊢
 refine zgo ?_
 refine Runs.cond_dec rfl (fun hlt=>?_) (fun hge=>?_)
 rotate_left
 ·rw [List.take_of_length_le (by omega)] at hmem
  refine zgo ?_
  exact Runs.ret func131 (ret1 results131 rfl) ⟨hx2,r,hsort,hmem,hr2,hv2⟩
 have hlt':i<ch.length:=by omega
 have hget:ch[i]? = some ch[i]:=List.getElem?_eq_getElem hlt'
 have hsn:ch.take (i+1)=ch.take i++[ch[i]]:=List.take_succ_eq_append_getElem hlt'
 generalize ch[i]=c at *
 obtain ⟨b0,q0,cap0,hv,_,hcells⟩:=(hc.ext hx2).pos (by omega)
 cases hv
 have hcc:=changes_get hcells hget
 have hz2:=hx2.size
 refine zgo ?_
 refine zv c.one fun h3 hb3 hx3 hs3=>?_
 have e1:Cells h3 h2.size (0+1) c.up.cells:=hb3.cells.tail.take 2
 have e0:=hb3.cell (j:=0) rfl
 refine zgo ?_
 refine WO.lit [.int .i64 (c.up.p:Int),.int .i64 (c.up.i:Int)] tab_ok rfl rfl rfl rfl rfl rfl rfl rfl rfl rfl rfl rfl fun h4 hb4 hx4 hs4=>?_
 have hx24:=hx3.trans hx4
 have hx04:=hx2.trans hx24
 have f0:=hx4.xc e0
 have ho4:Own h4 105 2 (.slice (some ⟨h3.size,0,none⟩) 1 1) [c.up].length (refsC [c.up]):=own_of_blk hb4 rfl (by simp)
 have ec4:=hx4.xcs hb3.cells
 refine zgo ?_
 refine Runs.joinK (fun env' h'=>∃ lv,Sub [(0,.pointer (some ⟨mb,0,none⟩)),(1,.pointer (some ⟨pb,0,none⟩)),(5,v),(16,.slice (some ⟨b0,q0,none⟩) ch.length cap),(17,.int .i64 (ch.length:Int)),(18,.int .i64 (i:Int)),(8,lv)] env'∧Ext h h'∧Ext h2 h'∧Own h' 105 2 lv (spk (linesS ps) c).length (refsC (spk (linesS ps) c))) (fun k' hJ=>?_) ?_
 ·by_cases hk2:c.kind=2
  ·have hd:decide ((c.kind:Int)=2)=true:=decide_eq_true (by omega)
   rw [hd]
   have hspk:spk (linesS ps) c=c.up::(besL (linesS ps) c.up).map LineD.ref:=by unfold spk;rw [if_pos hk2]
   rw [hspk] at hJ
   have g0:=hx04.xc hm
   refine zgo ?_
   refine WO.call rfl rfl rfl rfl plain72 rfl (lines_ret b bs ps _ (hs.ext hx04) (by omega) (fun p hp=>by have:=(hg.ok p hp).len;omega)) fun v5 h5 ⟨hx5,ho5,hm5⟩=>?_
   have hr5:=ho5.rd
   have hlb5:=ho5.lt
   generalize hL:linesS ps=L at *
   obtain ⟨ad5,cap5,e⟩:=hr5.form
   subst e
   have hz4:=hx04.size
   refine zgo ?_
   refine Runs.loop (X:=RLX) (fun x=>[(0,.pointer (some ⟨mb,0,none⟩)),(1,.pointer (some ⟨pb,0,none⟩)),(5,v),(16,.slice (some ⟨b0,q0,none⟩) ch.length cap),(17,.int .i64 (ch.length:Int)),(18,.int .i64 (i:Int)),(7,.pointer (some ⟨h2.size,0,none⟩)),(8,x.v),(37,.slice ad5 L.length cap5),(38,.int .i64 (L.length:Int)),(39,.int .i64 (x.i:Int))])
    (fun x h'=>x.i≤L.length∧Ext h h'∧Ext h2 h'∧h5.size≤h'.size∧Cells h' h2.size 0 c.cells∧Rd h' 7 (.slice ad5 L.length cap5) L.length (linesC L)∧Own h' 105 2 x.v (c.up::(besL (L.take x.i) c.up).map LineD.ref).length (refsC (c.up::(besL (L.take x.i) c.up).map LineD.ref))∧(∀ k,x.v.ownBlock=some k→h3.size≤k∧(Value.slice ad5 L.length cap5).ownBlock≠some k))
    (fun x=>L.length-x.i) ⟨0,.slice (some ⟨h3.size,0,none⟩) 1 1,[]⟩ ⟨rfl,rfl,rfl,rfl,rfl,rfl,rfl,rfl,rfl,rfl,rfl,trivial⟩ ⟨Nat.zero_le _,hx04.trans hx5,hx24.trans hx5,Nat.le_refl _,hx5.xcs ec4,hr5,by simpa [besL] using ho4.fr hx5 (by simp),fun k hk=>⟨?_,fun e=>?_⟩⟩ ?_
   ·simp [Value.ownBlock] at hk;omega
   ·have h9:=hm5 k e
    simp [Value.ownBlock] at hk h9
    omega
   rintro ⟨j,lv,_⟩ h6 ⟨hj,hx06,hx26,hx56,c6,hr6,ho6,hm6⟩ ih2
   dsimp only at hj hx06 hx26 hx56 c6 hr6 ho6 hm6 ih2 ⊢
   refine zgo ?_
   refine Runs.cond_dec rfl (fun hjt=>?_) (fun hge=>?_)
   rotate_left
   ·rw [List.take_of_length_le (by omega)] at ho6
    refine zgo ?_
    exact hJ _ _ ⟨lv,⟨rfl,rfl,rfl,rfl,rfl,rfl,rfl,trivial⟩,hx06,hx26,ho6⟩
   have hjt':j<L.length:=by omega
   have hgj:L[j]? = some L[j]:=List.getElem?_eq_getElem hjt'
   have hsj:besL (L.take (j+1)) c.up=besL (L.take j) c.up++(if (L[j].up.eqb c.up||L[j].down.eqb c.up)=true then [L[j]] else []):=by
    rw [List.take_succ_eq_append_getElem hjt'];unfold besL;rw [List.filter_append];simp [List.filter_cons]
   generalize L[j]=ln at *
   obtain ⟨b5,q5,cap6,hv,_,hcl5⟩:=hr6.pos (by omega)
   cases hv
   have hcl:=linesC_get hcl5 hgj
   have hz6:=hx26.size
   have hlb6:=ho6.lt
   refine zgo ?_
   refine zv ln.one fun h7 hb7 hx7 hs7=>?_
   have k0:Cells h7 h6.size (0+0) ln.ref.cells:=hb7.cells.take 2
   have k1:Cells h7 h6.size (0+2) ln.up.cells:=hb7.cells.tail.tail.take 2
   have k2:Cells h7 h6.size (0+4) ln.down.cells:=hb7.cells.tail.tail.tail.tail.take 2
   have c7:=hx7.xcs c6
   have c7u:Cells h7 h2.size (0+1) c.up.cells:=c7.tail.take 2
   have ho7:=ho6.fr hx7 (by simp)
   have hr7:=hr6.ext hx7
   refine zgo ?_
   refine WO.val (ov_eql2 two107 rfl rfl rfl) rfl rfl rfl ?_
   rw [eqbI]
   refine zgo ?_
   refine WO.join (fun env' h'=>h7=h'∧Sub [(0,.pointer (some ⟨mb,0,none⟩)),(1,.pointer (some ⟨pb,0,none⟩)),(5,v),(16,.slice (some ⟨b0,q0,none⟩) ch.length cap),(17,.int .i64 (ch.length:Int)),(18,.int .i64 (i:Int)),(7,.pointer (some ⟨h2.size,0,none⟩)),(8,lv),(37,.slice (some ⟨b5,q5,none⟩) L.length cap5),(38,.int .i64 (L.length:Int)),(39,.int .i64 (j:Int)),(10,.pointer (some ⟨h6.size,0,none⟩)),(54,.bool (ln.up.eqb c.up||ln.down.eqb c.up))] env') ?_ ?_
   ·refine WO.split 48 _ rfl (fun q1=>?_) (fun q1=>?_)
    ·refine zgo ?_
     refine ⟨rfl,rfl,rfl,rfl,rfl,rfl,rfl,rfl,rfl,rfl,rfl,rfl,rfl,?_,trivial⟩
     rw [q1];rfl
    ·refine zgo ?_
     refine WO.val (ov_eql2 two107 rfl rfl rfl) rfl rfl rfl ?_
     rw [eqbI]
     refine zgo ?_
     refine ⟨rfl,rfl,rfl,rfl,rfl,rfl,rfl,rfl,rfl,rfl,rfl,rfl,rfl,?_,trivial⟩
     rw [q1];rfl
   rintro env' _ ⟨rfl,hsub⟩
   refine Runs.sub hsub ?_
   clear hsub env'
   refine zgo ?_
   refine Runs.cond rfl (fun hq=>?_) (fun hq=>?_)
   ·rw [if_pos hq] at hsj
    have hle:(besL (L.take j) c.up).length≤j:=by unfold besL;exact Nat.le_trans (List.length_filter_le _ _) (by simp;omega)
    refine zgo ?_
    refine WO.push tab_ok rfl rfl rfl rfl rfl rfl rfl rfl rfl rfl rfl rfl rfl rfl rfl rfl rfl (by simp) ln.ref.one ho7 (by simp;omega) ?_
    intro v8 h8 o1 o2 o3
    refine zgo ?_
    have hlv:∀ k,lv.ownBlock=some k→h2.size<k∧k<h7.size:=fun k hk=>by have:=(hm6 k hk).1;have:=hlb6 k hk;omega
    refine ih2 ⟨j+1,v8,[]⟩ _ _ (by dsimp only;omega) ⟨rfl,rfl,rfl,rfl,rfl,rfl,rfl,rfl,rfl,rfl,rfl,trivial⟩ ⟨hjt',(hx06.trans hx7).trans_new (o2.mono fun k _ e=>.inr (by have:=hlv k e;omega)),(hx26.trans hx7).trans_new (o2.mono fun k _ e=>.inr (by have:=hlv k e;omega)),?_,o2.cells (fun e=>by have:=hlv _ e;omega) c7,hr7.fr o2 fun k hk e=>(hm6 k e).2 hk,?_,fun k hk=>?_⟩
    ·have:=o2.size;omega
    ·dsimp only
     rw [hsj,List.map_append,← List.cons_append,refsC_append,List.length_append]
     exact o1
    ·rcases o3 k hk with e | e
     ·exact hm6 k e
     ·refine ⟨by omega,fun e'=>?_⟩
      have:=hlb5 k e'
      omega
   ·rw [if_neg (by simp [hq]),List.append_nil] at hsj
    refine zgo ?_
    exact ih2 ⟨j+1,lv,[]⟩ _ _ (by dsimp only;omega) ⟨rfl,rfl,rfl,rfl,rfl,rfl,rfl,rfl,rfl,rfl,rfl,trivial⟩ ⟨hjt',hx06.trans hx7,hx26.trans hx7,by omega,c7,hr7,by dsimp only;rw [hsj];exact ho7,hm6⟩
  ·have hd:decide ((c.kind:Int)=2)=false:=decide_eq_false (by omega)
   rw [hd]
   have hspk:spk (linesS ps) c=[c.up]++[c.down]:=by unfold spk;rw [if_neg hk2];rfl
   rw [hspk] at hJ
   have e2:Cells h4 h2.size (0+3) c.down.cells:=ec4.tail.tail.tail.take 2
   refine zgo ?_
   refine WO.push tab_ok rfl rfl rfl rfl rfl rfl rfl rfl rfl rfl rfl rfl rfl rfl rfl rfl rfl (by simp) c.down.one ho4 (by simp) ?_
   intro v8 h8 o1 o2 o3
   refine zgo ?_
   have hown:∀ k,(Value.slice (some ⟨h3.size,0,none⟩) 1 1).ownBlock=some k→k=h3.size:=fun k hk=>by simp [Value.ownBlock] at hk;exact hk.symm
   exact hJ _ _ ⟨v8,⟨rfl,rfl,rfl,rfl,rfl,rfl,rfl,trivial⟩,hx04.trans_new (o2.mono fun k _ e=>.inr (by have:=hown k e;omega)),hx24.trans_new (o2.mono fun k _ e=>.inr (by have:=hown k e;omega)),by rw [refsC_append];exact o1⟩
 rintro env' h5 ⟨lv,hsub,hx05,hx25,ho5⟩
 refine Runs.sub hsub ?_
 clear hsub env' hb3 hb4 ec4 e0 e1 f0 ho4 hx3 hx4 hx24 hx04
 have hspl:(spk (linesS ps) c).length≤602:=by
  unfold spk
  split
  ·have:(besL (linesS ps) c.up).length≤(linesS ps).length:=List.length_filter_le _ _
   simp;omega
  ·simp
 have hmem2:∀ y,(y∈r∨y∈spkN id (spk (linesS ps) c))↔∃ d∈ch.take (i+1),y∈spkN id (spk (linesS ps) d):=fun y=>by
  rw [hsn,hmem y]
  simp only [List.mem_append,List.mem_singleton]
  constructor
  ·rintro (⟨d,hd,e⟩ | e)
   ·exact ⟨d,.inl hd,e⟩
   ·exact ⟨c,.inr rfl,e⟩
  ·rintro ⟨d,hd | hd,e⟩
   ·exact .inl ⟨d,hd,e⟩
   ·subst hd;exact .inr e
 generalize spk (linesS ps) c=S at *
 have hr5:=ho5.rd
 obtain ⟨ad5,cap5,e⟩:=hr5.form
 subst e
 refine zgo ?_
 refine Runs.loop (X:=RNX) (fun x=>[(0,.pointer (some ⟨mb,0,none⟩)),(1,.pointer (some ⟨pb,0,none⟩)),(5,x.v),(16,.slice (some ⟨b0,q0,none⟩) ch.length cap),(17,.int .i64 (ch.length:Int)),(18,.int .i64 (i:Int)),(61,.slice ad5 S.length cap5),(62,.int .i64 (S.length:Int)),(63,.int .i64 (x.i:Int))])
  (fun x h'=>x.i≤S.length∧Ext h h'∧Ext h5 h'∧x.r.Pairwise (· < ·)∧(∀ y,y∈x.r↔y∈r∨y∈spkN id (S.take x.i))∧Rd h' 1 x.v x.r.length (ints x.r)∧(∀ k,x.v.ownBlock=some k→h.size≤k)∧x.r.length≤i*1000+x.i)
  (fun x=>S.length-x.i) ⟨0,v,r⟩ ⟨rfl,rfl,rfl,rfl,rfl,rfl,rfl,rfl,rfl,trivial⟩ ⟨Nat.zero_le _,hx05,Fr.refl _ _,hsort,by simp [spkN],hr2.ext hx25,hv2,by dsimp only;omega⟩ ?_
 rintro ⟨j,v6,r6⟩ h6 ⟨hj,hx06,hx56,hsort6,hmem6,hr6,hv6,hl6⟩ ih2
 dsimp only at hj hx06 hx56 hsort6 hmem6 hr6 hv6 hl6 ih2 ⊢
 refine zgo ?_
 refine Runs.cond_dec rfl (fun hjt=>?_) (fun hge=>?_)
 rotate_left
 ·rw [List.take_of_length_le (by omega)] at hmem6
  refine zgo ?_
  exact ih ⟨i+1,v6,r6⟩ _ _ (by dsimp only;omega) ⟨rfl,rfl,rfl,rfl,rfl,rfl,trivial⟩ ⟨hlt',hx06,hsort6,fun y=>by rw [hmem6 y];exact hmem2 y,hr6,hv6,by dsimp only;omega⟩
 have hjt':j<S.length:=by omega
 have hgj:S[j]? = some S[j]:=List.getElem?_eq_getElem hjt'
 have hsj:spkN id (S.take (j+1))=spkN id (S.take j)++(if (decide (0<S[j].p) && !decide (S[j].p=id))=true then [S[j].p] else []):=by
  rw [List.take_succ_eq_append_getElem hjt'];unfold spkN;rw [List.filter_append,List.map_append];congr 1
  by_cases e:(decide (0<S[j].p) && !decide (S[j].p=id))=true<;>simp [e]
 generalize S[j]=rf at *
 obtain ⟨b5,q5,cap6,hv,_,hcl5⟩:=(hr5.ext hx56).pos (by omega)
 cases hv
 have hcl:=refsC_get hcl5 hgj
 have hz6:=hx06.size
 refine zgo ?_
 refine zv rf.one fun h7 hb7 hx7 hs7=>?_
 have k0:=hb7.cell (j:=0) rfl
 have hx07:=hx06.trans hx7
 have k1:=hx07.xc p0
 refine zgo ?_
 refine Runs.still mixed (by kernel_rfl) ?_
 refine WS.join (fun env'=>Sub [(0,.pointer (some ⟨mb,0,none⟩)),(1,.pointer (some ⟨pb,0,none⟩)),(5,v6),(16,.slice (some ⟨b0,q0,none⟩) ch.length cap),(17,.int .i64 (ch.length:Int)),(18,.int .i64 (i:Int)),(61,.slice (some ⟨b5,q5,none⟩) S.length cap5),(62,.int .i64 (S.length:Int)),(63,.int .i64 (j:Int)),(12,.pointer (some ⟨h6.size,0,none⟩)),(78,.bool (decide (0<rf.p) && !decide (rf.p=id)))] env') ?_ ?_
 ·by_cases h0:0<rf.p
  ·have hd:decide ((0:Int)<(rf.p:Int))=true:=decide_eq_true (by omega)
   have hd2:decide (0<rf.p)=true:=decide_eq_true h0
   have hd3:decide (rf.p=id)=decide ((rf.p:Int)=(id:Int)):=by rw [Bool.eq_iff_iff];simp;omega
   rw [hd2,hd3]
   refine zws ?_
   rw [hd]
   refine zws ?_
   exact ⟨rfl,rfl,rfl,rfl,rfl,rfl,rfl,rfl,rfl,rfl,rfl,trivial⟩
  ·have hd:decide ((0:Int)<(rf.p:Int))=false:=decide_eq_false (by omega)
   have hd2:decide (0<rf.p)=false:=decide_eq_false h0
   rw [hd2]
   refine zws ?_
   rw [hd]
   refine zws ?_
   exact ⟨rfl,rfl,rfl,rfl,rfl,rfl,rfl,rfl,rfl,rfl,rfl,trivial⟩
 intro env' hsub
 refine Runs.sub hsub ?_
 clear hsub env'
 refine zgo ?_
 refine Runs.cond rfl (fun hq=>?_) (fun hq=>?_)
 ·rw [if_pos hq] at hsj
  refine zgo ?_
  refine WO.call rfl rfl rfl rfl plain_wiN rfl (wiN_ret r6 rf.p v6 _ (hr6.ext hx7) hsort6 (by omega)) fun v8 h8 ⟨hx8,r8,hl8,hsort8,hmem8,hr8,hv8⟩=>?_
  refine zgo ?_
  refine ih2 ⟨j+1,v8,r8⟩ _ _ (by dsimp only;omega) ⟨rfl,rfl,rfl,rfl,rfl,rfl,rfl,rfl,rfl,trivial⟩ ⟨hjt',hx07.trans hx8,(hx56.trans hx7).trans hx8,hsort8,fun y=>?_,hr8,fun k hk=>?_,by dsimp only;omega⟩
  ·dsimp only
   rw [hmem8 y,hsj,hmem6 y]
   simp only [List.mem_append,List.mem_singleton]
   constructor
   ·rintro (e | e | e)
    ·exact .inr (.inr e)
    ·exact .inl e
    ·exact .inr (.inl e)
   ·rintro (e | e | e)
    ·exact .inr (.inl e)
    ·exact .inr (.inr e)
    ·exact .inl e
  ·rcases hv8 k hk with e | e
   ·exact hv6 k e
   ·have:=hx07.size;omega
 ·rw [if_neg (by simp [hq]),List.append_nil] at hsj
  refine zgo ?_
  exact ih2 ⟨j+1,v6,r6⟩ _ _ (by dsimp only;omega) ⟨rfl,rfl,rfl,rfl,rfl,rfl,rfl,rfl,rfl,trivial⟩ ⟨hjt',hx07,hx56.trans hx7,hsort6,fun y=>by rw [hsj];exact hmem6 y,hr6.ext hx7,hv6,by dsimp only;omega⟩
end Go.Proofs.YtlaffgagmncgjaaGreatDoor
namespace Go.Proofs.YtlaffgagmncgjaaGreatDoor
open Tryz Go Go.Pat Go.Proofs
theorem plain_rRecord:Plain Tryz.prog 88:=⟨_,func88,by decide +kernel,by rfl⟩
structure RP (hB h':Heap) (pb id:Nat) (cv:Value) (ch:List ChangeD) (av:List Nat):Prop where
 ext:Ext hB h'
 pat:Blk h' pb [.int .i64 (id:Int),.slice none 0 0,cv] 81
 own:Own h' 107 6 cv ch.length (changes ch)
 cvb:∀ k,cv.ownBlock=some k→hB.size≤k∧k≠pb∧k∉av
 pbb:hB.size≤pb
theorem RP.fr {S:Nat→Prop} {hB h1 h2:Heap} {pb id:Nat} {cv:Value} {ch:List ChangeD} {av:List Nat} (x:RP hB h1 pb id cv ch av) (f:Fr S h1 h2) (hs:∀ k,S k→hB.size≤k∧k≠pb∧cv.ownBlock≠some k):RP hB h2 pb id cv ch av :=
 ⟨x.ext.trans_new (f.mono fun k _ e=>.inr (hs k e).1),x.pat.fr f fun e=>(hs _ e).2.1 rfl,x.own.fr f fun k hk e=>(hs k e).2.2 hk,x.cvb,x.pbb⟩
theorem RP.up {hB h1 h2:Heap} {pb id:Nat} {cv:Value} {ch:List ChangeD} {av:List Nat} (x:RP hB h1 pb id cv ch av) (f:Ext h1 h2):RP hB h2 pb id cv ch av:=x.fr f fun _ e=>e.elim
theorem RP.av {hB h1:Heap} {pb id:Nat} {cv:Value} {ch:List ChangeD} {av:List Nat} (x:RP hB h1 pb id cv ch av) {b:Nat} (hb:∀ k,cv.ownBlock=some k→k≠b):RP hB h1 pb id cv ch (b::av) :=
 ⟨x.ext,x.pat,x.own,fun k hk=>⟨(x.cvb k hk).1,(x.cvb k hk).2.1,fun e=>by
  rcases List.mem_cons.1 e with e | e
  ·exact hb k hk e
  ·exact (x.cvb k hk).2.2 e⟩,x.pbb⟩
theorem RP.push {hB h1 h2 h3:Heap} {pb id:Nat} {cv cv':Value} {ch:List ChangeD} {d:ChangeD} {av:List Nat} (x:RP hB h1 pb id cv ch av) (hav:∀ k∈av,k<h1.size) (o1:Own h2 107 6 cv' (ch.length+1) (changes ch++d.cells)) (o2:Fr (fun k=>cv.ownBlock=some k) h1 h2) (o3:Moved h1 cv cv')
  (hb:Blk h3 pb [.int .i64 (id:Int),.slice none 0 0,cv'] 81) (hx:Fr (fun k=>k=pb) h2 h3):RP hB h3 pb id cv' (ch++[d]) av∧Fr (fun k=>k=pb∨cv.ownBlock=some k) h1 h3:=by
 have hpl:=x.pat.lt
 have hsz:=x.ext.size
 have key:∀ k,cv'.ownBlock=some k→hB.size≤k∧k≠pb∧k∉av:=fun k hk=>by
  rcases o3 k hk with e | e
  ·exact x.cvb k e
  ·exact ⟨by omega,by omega,fun e'=>by have:=hav k e';omega⟩
 refine ⟨⟨(x.ext.trans_new (o2.mono fun k _ e=>.inr (x.cvb k e).1)).trans_new (hx.mono fun k _ e=>.inr (by have:=x.pbb;omega)),hb,?_,key,x.pbb⟩,(o2.mono fun k _ e=>.inr e).trans (hx.mono fun k _ e=>.inl e)⟩
 have:Own h2 107 6 cv' (ch++[d]).length (changes (ch++[d])):=by
  rw [changes_append,List.length_append];simpa [changes] using o1
 exact this.fr hx fun k hk e=>(key k hk).2.1 e
structure CVX where
 (i:Nat) (v:Value)
def svA (c:RC) (L:List ShD) (k:Nat) (j:Nat):Int:=match c.st j with
 | some i=>if i<k then ((L.getD i sh0).i:Int) else -1
 | none=>-1
theorem rRecord_ret {F:Nat→Prop} {mb b:Nat} {bs:List Nat} {ps:List PatchD} {st:Nat→Nat} {orp:Nat→Bool} {h:Heap} (x:Mn F h mb b bs ps st orp) (id:Nat) (W:List (List UInt8)) (vw:Value) (hW:Rd h 1 vw W.length (strs W)) (hwl:W.length≤24) :
  Ret Tryz.prog 88 #[.pointer (some ⟨mb,0,none⟩),.int .i64 (id:Int),vw] h fun v h'=>Ext h h' ∧
   ((30<(mRC (alS ps) (leadS ps) (shL ps st orp) id W).ch.length∧v = .tuple #[.pointer none,.int .i64 7])∨((mRC (alS ps) (leadS ps) (shL ps st orp) id W).ch.length=0∧v = .tuple #[.pointer none,.int .i64 11]) ∨
    ((mRC (alS ps) (leadS ps) (shL ps st orp) id W).ch.length≤30∧(mRC (alS ps) (leadS ps) (shL ps st orp) id W).ch.length≠0∧∃ pb r,v = .tuple #[.pointer (some ⟨pb,0,none⟩),.int .i64 0]∧r.Pairwise (· < ·)∧(∀ y,y∈r↔∃ c∈(mRC (alS ps) (leadS ps) (shL ps st orp) id W).ch,y∈spkN id (spk (linesS ps) c))∧PA (fun k=>h.size≤k) h' pb ⟨id,r,(mRC (alS ps) (leadS ps) (shL ps st orp) id W).ch⟩)):=by
 refine Ret.of_body func88 rfl ntmps88 rfl rfl ?_
 have hal:=alS_600 x.good
 obtain ⟨alv,ldv,fxv,blv,hc,har,hmat,_⟩:=x.mg.out
 have hsq:=x.mg.sq
 have f0:=hc.head
 have f1:=hc.tail.head
 have f2:=hc.tail.tail.head
 obtain ⟨ada,capa,e⟩:=har.form
 subst e
 obtain ⟨aw,cw,e⟩:=hW.form
 subst e
 refine zgo ?_
 refine WO.call rfl rfl rfl rfl plain90 rfl (order_of x) fun v1 h1 ⟨hx1,hr1⟩=>?_
 refine zgo ?_
 refine WO.call rfl rfl rfl rfl plain_rFile rfl (rFile_ret (x.ext hx1)) fun v2 h2 ⟨hx2,ho2⟩=>?_
 have hll:=shL_length ps st orp
 have hmi:=(opOf ps st orp).to_mem (alS ps).length
 have hdef:(opOf ps st orp).to (alS ps).length=shL ps st orp:=rfl
 rw [hdef] at hmi
 have hsa:=x.sa
 have hgood:=x.good
 have hin:∀ s∈shL ps st orp,s.i<(alS ps).length:=fun s hs=>(hmi s hs).1
 clear hdef hmi
 generalize shL ps st orp=L at *
 generalize hld:leadS ps=ld at *
 generalize hale:alS ps=al at *
 rw [← hll] at hr1
 obtain ⟨adL,capL,e⟩:=hr1.form
 subst e
 have hr2:=ho2.rd
 obtain ⟨adh,caph,e⟩:=hr2.form
 subst e
 rw [List.length_map] at hr2
 have hx02:=hx1.trans hx2
 have hrL:=hr1.ext hx2
 simp only [List.length_map]
 refine zgo ?_
 refine Runs.loop (X:=IV) (fun u=>[(0,.pointer (some ⟨mb,0,none⟩)),(1,.int .i64 (id:Int)),(2,.slice aw W.length cw),(8,.slice adL L.length capL),(9,.slice adh L.length caph),(10,u.v),(29,.slice adL L.length capL),(30,.int .i64 (L.length:Int)),(31,.int .i64 (u.i:Int))])
  (fun u h'=>u.i≤L.length∧Ext h2 h'∧Own h' 4 1 u.v ((L.take u.i).map fun s=>mayB s.mark).length (bools ((L.take u.i).map fun s=>mayB s.mark))∧(∀ k,u.v.ownBlock=some k→h2.size≤k))
  (fun u=>L.length-u.i) ⟨0,.slice none 0 0⟩ ⟨rfl,rfl,rfl,rfl,rfl,rfl,rfl,rfl,rfl,trivial⟩ ⟨Nat.zero_le _,Fr.refl _ _,Own.nil _ _ _,fun k hk=>by simp [Value.ownBlock] at hk⟩ ?_
 rintro ⟨i,v⟩ h3 ⟨hi,hx3,ho3,hm3⟩ ih
 dsimp only at hi hx3 ho3 hm3 ih ⊢
 have hz3:=hx3.size
 refine zgo ?_
 refine Runs.cond_dec rfl (fun hlt=>?_) (fun hge=>?_)
 ·have hlt':i<L.length:=by omega
  have hget:L[i]? = some L[i]:=List.getElem?_eq_getElem hlt'
  have hsn:(L.take (i+1)).map (fun s=>mayB s.mark)=(L.take i).map (fun s=>mayB s.mark)++[mayB L[i].mark]:=by rw [List.take_succ_eq_append_getElem hlt',List.map_append];rfl
  have hfl:((L.take i).map fun s=>mayB s.mark).length≤i:=by simp;omega
  generalize L[i]=s at *
  obtain ⟨b0,p0,cap0,hv0,_,hcs⟩:=(hrL.ext hx3).pos (by omega)
  cases hv0
  have hsc:=shC_get hcs hget
  refine zgo ?_
  refine zv s.one fun h4 hb4 hx4 hs4=>?_
  have c1:=hb4.cell (j:=1) rfl
  have ho4:=ho3.fr hx4 (by simp)
  have fin:∀ v' h5,Own h5 4 1 v' (((L.take i).map fun s=>mayB s.mark).length+1) (bools ((L.take i).map fun s=>mayB s.mark)++[.bool (mayB s.mark)])→Fr (fun k=>v.ownBlock=some k) h4 h5→Moved h4 v v'→(i+1≤L.length∧Ext h2 h5∧Own h5 4 1 v' ((L.take (i+1)).map fun s=>mayB s.mark).length (bools ((L.take (i+1)).map fun s=>mayB s.mark))∧(∀ k,v'.ownBlock=some k→h2.size≤k)):=fun v' h5 o1 o2 o3=>by
   refine ⟨hlt',(hx3.trans hx4).trans_new (o2.mono fun k _ e=>.inr (hm3 k e)),?_,fun k hk=>?_⟩
   ·rw [hsn,List.length_append];simpa [bools] using o1
   ·rcases o3 k hk with e | e
    ·exact hm3 k e
    ·omega
  refine zgo ?_
  by_cases q1:s.mark=32
  ·have hd:decide ((s.mark:Int)=32)=true:=decide_eq_true (by omega)
   have hd2:mayB s.mark=true:=by simp [mayB,q1]
   rw [hd2] at fin
   rw [hd]
   refine zgo ?_
   refine zh (one_bool _) ho4 ?_
   intro v' h5 o1 o2 o3
   refine zgo ?_
   exact ih ⟨i+1,v'⟩ _ _ (by dsimp only;omega) ⟨rfl,rfl,rfl,rfl,rfl,rfl,rfl,rfl,rfl,trivial⟩ (fin v' h5 o1 o2 o3)
  ·have hd:decide ((s.mark:Int)=32)=false:=decide_eq_false (by omega)
   have hd2:mayB s.mark=decide ((s.mark:Int)=124):=by
    unfold mayB;rw [Bool.eq_iff_iff];simp [q1];omega
   rw [hd2] at fin
   rw [hd]
   refine zgo ?_
   refine zh (one_bool _) ho4 ?_
   intro v' h5 o1 o2 o3
   refine zgo ?_
   exact ih ⟨i+1,v'⟩ _ _ (by dsimp only;omega) ⟨rfl,rfl,rfl,rfl,rfl,rfl,rfl,rfl,rfl,trivial⟩ (fin v' h5 o1 o2 o3)
 rw [List.take_of_length_le (by omega)] at ho3
 clear ih hge hi hm3
 have hHR:HR h3 (.slice adh L.length caph) v (mH al L):=by
  have e1:(mH al L).length=L.length:=by simp [mH]
  have e2:(mH al L).map Prod.snd=L.map (textAt al):=by simp [mH,Function.comp_def]
  have e3:(mH al L).map Prod.fst=L.map fun s=>mayB s.mark:=by simp [mH,Function.comp_def]
  refine ⟨?_,?_⟩
  ·rw [e1,e2];exact hr2.ext hx3
  ·rw [e1,e3];simpa using ho3.rd
 have hx03:=hx02.trans hx3
 refine zgo ?_
 refine WO.call rfl rfl rfl rfl plain_Kept rfl (kept_ret _ _ _ (mH al L) W _ hHR (hW.ext hx03) (by simp [mH];omega) (by omega)) fun v4 h4 ⟨hx4,tb,hv4,htb,hb4⟩=>?_
 subst hv4
 have hlH:(mH al L).length=L.length:=by simp [mH]
 rw [hlH] at hb4
 obtain ⟨c,hcd⟩:∃ c,c=mRC al ld L id W:=⟨_,rfl⟩
 rw [← hcd]
 have hpr:prs (mH al L) W=c.pr:=by rw [hcd];rfl
 have hcW:c.W=W:=by rw [hcd];rfl
 have hcR:c.R.length=L.length:=by rw [hcd];simp [mRC]
 have hcid:c.id=id:=by rw [hcd];rfl
 have hinc:Inc c.pr:=by rw [← hpr];exact wk_inc _ _ _
 have hlow:∀ p∈c.pr,p.1<L.length∧p.2<W.length:=fun p hp=>by
  rw [← hpr] at hp
  have:=wk_low _ _ _ _ hp
  omega
 have hRef:∀ (i:Nat) (s:ShD) (ln:LineD),L[i]? = some s→al[s.i]? = some ln→c.ref i=ln.ref:=fun i s ln h1 h2=>by
  rw [hcd];simp [RC.ref,mRC,List.getD_eq_getElem?_getD,h1,refAt,h2]
 have hLd:∀ (i k:Nat) (s t:ShD),L[i]? = some s→L[k]? = some t→c.ld i k=getB ld s.i t.i:=fun i k s t h1 h2=>by
  rw [hcd];simp [mRC,mLd,h1,h2]
 rw [hpr] at hb4
 have hx04:=hx03.trans hx4
 have hz04:=hx04.size
 have hx24:=hx3.trans hx4
 have hrL4:=hrL.ext hx24
 have har4:=har.ext hx04
 have hW4:=hW.ext hx04
 have g0:=hx04.xc f0
 have g1:=hx04.xc f1
 have g2:=hx04.xc f2
 have hmat4:=hmat.ext hx04
 have hsa4:=hsa.ext hx04
 have hget:∀ i,i<L.length→∃ s ln,L[i]? = some s∧s.i<al.length∧al[s.i]? = some ln∧c.ref i=ln.ref:=fun i hi=>by
  have h1:L[i]? = some L[i]:=List.getElem?_eq_getElem hi
  have h2:=hin L[i] (List.getElem_mem hi)
  have h3:=List.getElem?_eq_getElem h2
  exact ⟨L[i],_,h1,h2,h3,hRef i _ _ h1 h3⟩
 clear hHR hx1 hr1 hx2 hx02 hrL ho2 hr2 hx3 ho3 hx03 hx4 hx24 hz3 har f0 f1 f2 hmat hsa x hc
 refine zgo ?_
 refine zb fun h5 hb5 hx5 hs5=>?_
 have rp5:RP h4 h5 h4.size id (.slice none 0 0) [] []:=⟨hx5,hb5,Own.nil _ _ _,fun k hk=>by simp [Value.ownBlock] at hk,Nat.le_refl _⟩
 refine zgo ?_
 refine Runs.loop (X:=CVX) (fun u=>[(0,.pointer (some ⟨mb,0,none⟩)),(1,.int .i64 (id:Int)),(2,.slice aw W.length cw),(8,.slice adL L.length capL),(13,.slice (some ⟨tb,0,none⟩) (mH al L).length (mH al L).length),(14,.pointer (some ⟨h4.size,0,none⟩)),(55,.int .i64 (L.length:Int)),(56,.int .i64 (u.i:Int))])
  (fun u h'=>u.i≤L.length∧RP h4 h' h4.size id u.v (c.dels u.i) []) (fun u=>L.length-u.i) ⟨0,.slice none 0 0⟩ ⟨rfl,rfl,rfl,rfl,rfl,rfl,rfl,rfl,trivial⟩ ⟨Nat.zero_le _,rp5⟩ ?_
 rintro ⟨i,v⟩ h6 ⟨hi,rp⟩ ih
 dsimp only at hi rp ih ⊢
 refine zgo ?_
 refine Runs.cond_dec rfl (fun hlt=>?_) (fun hge=>?_)
 ·have hlt':i<L.length:=by omega
  obtain ⟨s,ln,hgs,hsl,hga,href⟩:=hget i hlt'
  have t0:cellAt h6 tb (0+i*1)=some (.int .i64 (oi (atI c.pr i))):=by
   rw [Nat.zero_add,Nat.mul_one];exact (hb4.ext rp.ext).cell (rowZ_get hlt')
  have hil:i<(mH al L).length:=by omega
  have hdl:=c.dels_len i
  refine zgo ?_
  refine Runs.cond_dec rfl (fun hneg=>?_) (fun hpos=>?_)
  ·have hno:atI c.pr i=none:=by
    cases e:atI c.pr i with
    | none=>rfl
    | some j=>rw [e] at hneg;simp only [oi] at hneg;omega
   have hdel:c.dels (i+1)=c.dels i++[⟨2,ln.ref,⟨0,0⟩,[]⟩]:=by rw [RC.dels_succ,RC.del,hno,href];rfl
   obtain ⟨bL,pL,_,hv0,_,hcs⟩:=hrL4.pos (by omega)
   cases hv0
   obtain ⟨ba,pa,_,hv0,_,hca⟩:=har4.pos (by omega)
   cases hv0
   have hsc:cellAt h4 bL (pL+i*4+0)=some (.int .i64 (s.i:Int)):=shC_get hcs hgs 0 _ rfl
   have hlc:Cells h4 ba (pa+s.i*7+0) ln.ref.cells:=(linesC_get hca hga).take 2
   have hS0:cellAt h6 h4.size (0+2)=some v∧Ext h4 h6:=⟨rp.pat.cell (j:=2) rfl,rp.ext⟩
   have hSS:∀ h',Fr (fun k=>v.ownBlock=some k) h6 h'→cellAt h' h4.size (0+2)=some v∧Ext h4 h':=fun h' hf=>⟨hf.cell (fun e=>(rp.cvb _ e).2.1 rfl) hS0.1,rp.ext.trans_new (hf.mono fun k _ e=>.inr (rp.cvb k e).1)⟩
   refine zgo ?_
   refine Runs.drawn (m:=23) (fun h'=>cellAt h' h4.size (0+2)=some v∧Ext h4 h') (fun i=>Nat.beq i 22) mixed rfl ?_
   refine zp 0 hS0 ?_
   refine zp 1 hS0 ?_
   refine zp 2 hS0 ?_
   refine zp 3 hS0 ?_
   refine zl 4 (fun _ hS=>hS.1) hS0 ?_
   refine zp 5 hS0 ?_
   refine zp 6 hS0 ?_
   refine zp 7 hS0 ?_
   refine zl 8 (fun _ hS=>(hS.2.xc g1)) hS0 ?_
   refine zp 9 hS0 ?_
   refine zp 10 hS0 ?_
   refine zi 11 hlt' hS0 ?_
   refine zp 12 hS0 ?_
   refine zl 13 (fun _ hS=>(hS.2.xc hsc)) hS0 ?_
   refine zi 14 hsl hS0 ?_
   refine zp 15 hS0 ?_
   refine zL 16 (fun _ hS=>(hS.2.xcs hlc)) hS0 ?_
   refine zp 17 hS0 ?_
   refine WF.push 18 19 tab_ok (by kernel_rfl) (by kernel_rfl) rfl rfl rfl rfl rfl rfl rfl rfl rfl rfl rfl rfl rfl rfl rfl rfl rfl rfl rfl (by simp) (ChangeD.one ⟨2,ln.ref,⟨0,0⟩,[]⟩) rp.own (by omega) hSS ?_
   intro v7 h7 o1 o2 o3
   have hS7:=hSS _ o2
   refine zx 20 hS7 ?_
   refine zx 21 hS7 ?_
   obtain ⟨ad7,cap7,hv7⟩:=o1.rd.form
   have hone7:One [v7]:=by rw [hv7];exact one_slice _ _ _
   have hl7:oneList v7=some [v7]:=by rw [hv7];rfl
   refine WF.put 22 tab_ok (by kernel_rfl) rfl rfl rfl rfl rfl rfl rfl hl7 rfl hone7 (rp.pat.fr o2 fun e=>(rp.cvb _ e).2.1 rfl) rfl rfl fun h8 hb8 hx8 hs8=>?_
   refine zd ?_
   refine zgo ?_
   obtain ⟨rp8,_⟩:=rp.push (d:=⟨2,ln.ref,⟨0,0⟩,[]⟩) (by simp) o1 o2 o3 hb8 hx8
   exact ih ⟨i+1,v7⟩ _ _ (by dsimp only;omega) ⟨rfl,rfl,rfl,rfl,rfl,rfl,rfl,rfl,trivial⟩ ⟨hlt',by rw [hdel];exact rp8⟩
  ·have hdel:c.dels (i+1)=c.dels i:=by
    rw [RC.dels_succ,RC.del]
    cases e:atI c.pr i with
    | none=>rw [e] at hpos;simp only [oi] at hpos;omega
    | some j=>simp
   refine zgo ?_
   exact ih ⟨i+1,v⟩ _ _ (by dsimp only;omega) ⟨rfl,rfl,rfl,rfl,rfl,rfl,rfl,rfl,trivial⟩ ⟨hlt',by rw [hdel];exact rp⟩
 have hiL:i=L.length:=by omega
 subst hiL
 clear ih hge hi rp5 hb5 hx5 hs5 h5
 refine zgo ?_
 refine WO.make tab_ok rfl rfl rfl rfl rfl rfl rfl rfl rfl rfl (by omega) fun h7 hb7 hx7 hs7=>?_
 have rp7:RP h4 h7 h4.size id v (c.dels L.length) [h6.size]:=(rp.up hx7).av fun k hk=>by have:=rp.own.lt k hk;omega
 have hz6:=rp.ext.size
 have hpb6:h4.size<h6.size:=rp.pat.lt
 rw [rowZ_zero] at hb7
 clear rp
 refine zgo ?_
 refine Runs.loop (X:=Nat) (fun j=>[(0,.pointer (some ⟨mb,0,none⟩)),(1,.int .i64 (id:Int)),(2,.slice aw W.length cw),(8,.slice adL L.length capL),(13,.slice (some ⟨tb,0,none⟩) (mH al L).length (mH al L).length),(14,.pointer (some ⟨h4.size,0,none⟩)),(16,.slice (some ⟨h6.size,0,none⟩) W.length W.length),(91,.int .i64 (W.length:Int)),(92,.int .i64 (j:Int))])
  (fun j h'=>j≤W.length∧RP h4 h' h4.size id v (c.dels L.length) [h6.size]∧h6.size<h'.size∧Blk h' h6.size (rowZ W.length fun k=>if k<j then -1 else 0) 3) (fun j=>W.length-j) 0 ⟨rfl,rfl,rfl,rfl,rfl,rfl,rfl,rfl,rfl,trivial⟩ ⟨Nat.zero_le _,rp7,by omega,by simpa using hb7⟩ ?_
 clear rp7 hb7 hx7 hs7
 rintro j h8 ⟨hj,rp,hz8,hb8⟩ ih
 refine zgo ?_
 refine Runs.cond_dec rfl (fun hjt=>?_) (fun hge=>?_)
 ·have hjt':j<W.length:=by omega
  refine zgo ?_
  refine WO.put1 tab_ok rfl rfl rfl rfl rfl rfl rfl (one_int _) hb8 (by rw [rowZ_length];omega) fun h9 hb9 hx9 hs9=>?_
  rw [Nat.zero_add,Nat.mul_one,rowZ_set] at hb9
  refine zgo ?_
  refine ih (j+1) _ _ (by omega) ⟨rfl,rfl,rfl,rfl,rfl,rfl,rfl,rfl,rfl,trivial⟩ ⟨hjt',rp.fr hx9 (fun k e=>⟨by omega,by omega,fun e'=>(rp.cvb k e').2.2 (by simp [e])⟩),by omega,?_⟩
  rw [rowZ_congr (g:=fun k=>if k=j then -1 else if k<j then -1 else 0) (fun k _=>?_)]
  ·exact hb9
  ·by_cases e:k=j
   ·rw [if_pos e,if_pos (by omega)]
   ·rw [if_neg e]
    by_cases e2:k<j
    ·rw [if_pos e2,if_pos (by omega)]
    ·rw [if_neg e2,if_neg (by omega)]
 have hsv0:Blk h8 h6.size (rowZ W.length (svA c L 0)) 3:=by
  rw [rowZ_congr (g:=fun k=>if k<j then -1 else 0) (fun k hk=>?_)]
  ·exact hb8
  ·rw [if_pos (by omega)]
   unfold svA
   split<;>simp
 clear ih hge hb8 hj
 refine zgo ?_
 refine Runs.loop (X:=Nat) (fun i=>[(0,.pointer (some ⟨mb,0,none⟩)),(1,.int .i64 (id:Int)),(2,.slice aw W.length cw),(8,.slice adL L.length capL),(13,.slice (some ⟨tb,0,none⟩) (mH al L).length (mH al L).length),(14,.pointer (some ⟨h4.size,0,none⟩)),(16,.slice (some ⟨h6.size,0,none⟩) W.length W.length),(100,.int .i64 (L.length:Int)),(101,.int .i64 (i:Int))])
  (fun i h'=>i≤L.length∧RP h4 h' h4.size id v (c.dels L.length) [h6.size]∧h6.size<h'.size∧Blk h' h6.size (rowZ W.length (svA c L i)) 3) (fun i=>L.length-i) 0 ⟨rfl,rfl,rfl,rfl,rfl,rfl,rfl,rfl,rfl,trivial⟩ ⟨Nat.zero_le _,rp,hz8,hsv0⟩ ?_
 clear hsv0 rp hz8 h8
 rintro i h8 ⟨hi,rp,hz8,hb8⟩ ih
 refine zgo ?_
 refine Runs.cond_dec rfl (fun hlt=>?_) (fun hge=>?_)
 ·have hlt':i<L.length:=by omega
  obtain ⟨s,ln,hgs,hsl,hga,href⟩:=hget i hlt'
  have t0:cellAt h8 tb (0+i*1)=some (.int .i64 (oi (atI c.pr i))):=by
   rw [Nat.zero_add,Nat.mul_one];exact (hb4.ext rp.ext).cell (rowZ_get hlt')
  have hil:i<(mH al L).length:=by omega
  have hgd:L.getD i sh0=s:=by simp [List.getD_eq_getElem?_getD,hgs]
  refine zgo ?_
  refine Runs.cond_dec rfl (fun hpos=>?_) (fun hneg=>?_)
  ·obtain ⟨j,hat⟩:∃ j,atI c.pr i=some j:=by
    cases e:atI c.pr i with
    | none=>rw [e] at hpos;simp only [oi] at hpos;omega
    | some j=>exact ⟨j,rfl⟩
   have hmem:=(atI_iff hinc i j).1 hat
   have hjw:=(hlow _ hmem).2
   dsimp only at hjw
   rw [hat] at t0
   simp only [oi] at t0
   obtain ⟨bL,pL,_,hv0,_,hcs⟩:=hrL4.pos (by omega)
   cases hv0
   have hsc:cellAt h8 bL (pL+i*4+0)=some (.int .i64 (s.i:Int)):=rp.ext.xc (shC_get hcs hgs 0 _ rfl)
   rw [hat]
   simp only [oi]
   refine zgo ?_
   refine Runs.drawn (m:=12) (fun h'=>h8=h') (fun i=>Nat.beq i 11) mixed rfl ?_
   refine zp 0 rfl ?_
   refine zp 1 rfl ?_
   refine zp 2 rfl ?_
   refine zi 3 hil rfl ?_
   refine WF.take 4 rfl (fun _ hS=>by rw [← hS];exact ov_load tab_ok rfl rfl rfl rfl t0) rfl rfl rfl rfl (by kernel_rfl) ?_
   refine zp 5 rfl ?_
   refine zp 6 rfl ?_
   refine zi 7 hlt' rfl ?_
   refine zp 8 rfl ?_
   refine WF.take 9 rfl (fun _ hS=>by rw [← hS];exact ov_load tab_ok rfl rfl rfl rfl hsc) rfl rfl rfl rfl (by kernel_rfl) ?_
   refine zi 10 hjw rfl ?_
   refine WF.put1 11 tab_ok (by kernel_rfl) rfl rfl rfl rfl rfl rfl rfl rfl (one_int _) hb8 (by rw [rowZ_length];omega) rfl fun h9 hb9 hx9 hs9=>?_
   refine zd ?_
   rw [Nat.zero_add,Nat.mul_one,rowZ_set] at hb9
   refine zgo ?_
   refine ih (i+1) _ _ (by omega) ⟨rfl,rfl,rfl,rfl,rfl,rfl,rfl,rfl,rfl,trivial⟩ ⟨hlt',rp.fr hx9 (fun k e=>⟨by omega,by omega,fun e'=>(rp.cvb k e').2.2 (by simp [e])⟩),by omega,?_⟩
   rw [rowZ_congr (g:=fun k=>if k=j then (s.i:Int) else svA c L i k) (fun k _=>?_)]
   ·exact hb9
   ·unfold svA
    by_cases e:k=j
    ·subst e
     rw [if_pos rfl,show c.st k=some i from (atJ_iff hinc i k).2 hmem]
     dsimp only
     rw [if_pos (by omega),hgd]
    ·rw [if_neg e]
     cases hs:c.st k with
     | none=>rfl
     | some a =>
      dsimp only
      by_cases ea:a=i
      ·subst ea
       have h2:=inc_inj hinc _ ((atJ_iff hinc a k).1 hs) _ hmem (.inl rfl)
       cases h2
       exact absurd rfl e
      ·by_cases e2:a<i
       ·rw [if_pos e2,if_pos (by omega)]
       ·rw [if_neg e2,if_neg (by omega)]
  ·have hno:atI c.pr i=none:=by
    cases e:atI c.pr i with
    | none=>rfl
    | some j=>rw [e] at hneg;simp only [oi] at hneg;omega
   refine zgo ?_
   refine ih (i+1) _ _ (by omega) ⟨rfl,rfl,rfl,rfl,rfl,rfl,rfl,rfl,rfl,trivial⟩ ⟨hlt',rp,hz8,?_⟩
   rw [rowZ_congr (g:=svA c L i) (fun k _=>?_)]
   ·exact hb8
   ·unfold svA
    cases hs:c.st k with
    | none=>rfl
    | some a =>
     dsimp only
     have:a≠i:=fun e=>by
      subst e
      rw [(atI_iff hinc a k).2 ((atJ_iff hinc a k).1 hs)] at hno
      cases hno
     by_cases e2:a<i
     ·rw [if_pos e2,if_pos (by omega)]
     ·rw [if_neg e2,if_neg (by omega)]
 have hiL:i=L.length:=by omega
 subst hiL
 clear ih hge hi
 have hsome:∀ (j i:Nat),c.st j=some i→i<L.length∧j<W.length∧svA c L L.length j=((L.getD i sh0).i:Int):=fun j i hs=>by
  have:=hlow _ ((atJ_iff hinc i j).1 hs)
  refine ⟨this.1,this.2,?_⟩
  unfold svA
  rw [hs]
  exact if_pos this.1
 have hnone:∀ j,c.st j=none→svA c L L.length j = -1:=fun j hs=>by unfold svA;rw [hs]
 refine zgo ?_
 refine zv (RefD.one ⟨0,0⟩) fun h9 hb9 hx9 hs9=>?_
 have rp9:RP h4 h9 h4.size id v (c.dels L.length) [h8.size,h6.size]:=(rp.up hx9).av fun k hk=>by have:=rp.own.lt k hk;omega
 have hb9s:=hb8.ext hx9
 have hdl:=c.dels_len L.length
 have hpl:=rp.pat.lt
 refine zgo ?_
 refine Runs.loop (X:=CVX) (fun u=>[(0,.pointer (some ⟨mb,0,none⟩)),(1,.int .i64 (id:Int)),(2,.slice aw W.length cw),(14,.pointer (some ⟨h4.size,0,none⟩)),(16,.slice (some ⟨h6.size,0,none⟩) W.length W.length),(19,.int .i64 (c.own u.i:Int)),(20,.pointer (some ⟨h8.size,0,none⟩)),(123,.int .i64 (W.length:Int)),(124,.int .i64 (u.i:Int))])
  (fun u h'=>u.i≤W.length∧RP h4 h' h4.size id u.v (c.dels L.length++c.puts u.i) [h8.size,h6.size]∧h8.size<h'.size∧Blk h' h6.size (rowZ W.length (svA c L L.length)) 3∧Blk h' h8.size (c.up u.i).cells 105) (fun u=>W.length-u.i) ⟨0,v⟩ ⟨rfl,rfl,rfl,rfl,rfl,rfl,rfl,rfl,rfl,trivial⟩ ⟨Nat.zero_le _,by simpa [RC.puts] using rp9,by omega,hb9s,hb9⟩ ?_
 clear rp9 hb9s hb9 hx9 hs9 hb8 rp
 rintro ⟨j,cv⟩ h10 ⟨hj,rp,hz10,hst10,hup10⟩ ih
 dsimp only at hj rp hz10 hst10 hup10 ih ⊢
 have hpul:=c.puts_len j
 have hcl:(c.dels L.length++c.puts j).length≤700:=by rw [List.length_append];omega
 refine zgo ?_
 refine Runs.cond_dec rfl (fun hjt=>?_) (fun hge=>?_)
 rotate_left
 ·have hjW:j=W.length:=by omega
  subst hjW
  have hch:c.dels L.length++c.puts W.length=c.ch:=by unfold RC.ch;rw [hcR,hcW]
  rw [hch] at rp hcl
  have hrc:=rp.own.rd
  obtain ⟨adc,capc,e⟩:=hrc.form
  subst e
  have p2:=rp.pat.cell (j:=2) rfl
  refine zgo ?_
  refine Runs.cond_dec rfl (fun hbig=>?_) (fun hsm=>?_)
  ·refine zgo ?_
   exact Runs.ret func88 (ret2 results88 rfl rfl) ⟨hx04.trans rp.ext,.inl ⟨by omega,rfl⟩⟩
  refine zgo ?_
  refine Runs.cond_dec rfl (fun hz=>?_) (fun hnz=>?_)
  ·refine zgo ?_
   exact Runs.ret func88 (ret2 results88 rfl rfl) ⟨hx04.trans rp.ext,.inr (.inl ⟨by omega,rfl⟩)⟩
  refine zgo ?_
  refine WO.call rfl rfl rfl rfl plain_rneeds rfl (rneeds_ret mb b h4.size id bs ps c.ch _ _ _ (rp.ext.xc g0) (hsa4.ext rp.ext) hgood rp.pat.cells hrc (by omega)) fun v11 h11 ⟨hx11,r,hr1,hr2,hr3,hr4⟩=>?_
  obtain ⟨adr,capr,e⟩:=hr3.form
  subst e
  refine zgo ?_
  refine zt (one_slice _ _ _) (rp.pat.ext hx11) fun h12 hb12 hx12 hs12=>?_
  refine zgo ?_
  have hz10':=rp.ext.size
  refine Runs.ret func88 (ret2 results88 rfl rfl) ⟨(hx04.trans (rp.ext.trans hx11)).trans_new (hx12.mono fun k _ e=>.inr (by omega)),.inr (.inr ⟨by omega,by omega,h4.size,r,rfl,hr1,hr2,_,_,hb12.cells,hr3.fr hx12 (fun k hk e=>by have:=hr4 k hk;omega),(hrc.ext hx11).fr hx12 (fun k hk e=>(rp.cvb k hk).2.1 e),by omega,fun k hk=>by have:=hr4 k hk;omega,fun k hk=>by have:=(rp.cvb k hk).1;omega⟩)⟩
 have hjt':j<W.length:=by omega
 have s0:cellAt h10 h6.size (0+j*1)=some (.int .i64 (svA c L L.length j)):=by
  rw [Nat.zero_add,Nat.mul_one];exact hst10.cell (rowZ_get hjt')
 have hown:=c.own_le j
 refine zgo ?_
 refine Runs.cond_dec rfl (fun hpos=>?_) (fun hneg=>?_)
 ·obtain ⟨i,hst⟩:∃ i,c.st j=some i:=by
   cases e:c.st j with
   | none=>rw [hnone j e] at hpos;omega
   | some i=>exact ⟨i,rfl⟩
  obtain ⟨hiL,_,hsv⟩:=hsome j i hst
  obtain ⟨s,ln,hgs,hsl,hga,href⟩:=hget i hiL
  have hgd:L.getD i sh0=s:=by simp [List.getD_eq_getElem?_getD,hgs]
  rw [hgd] at hsv
  rw [hsv] at s0
  obtain ⟨ba,pa,_,hv0,_,hca⟩:=har4.pos (by omega)
  cases hv0
  have hlc:Cells h4 ba (pa+s.i*7+0) ln.ref.cells:=(linesC_get hca hga).take 2
  have hnm:c.nm j=ln.ref:=by unfold RC.nm;rw [hst];exact href
  have hup1:c.up (j+1)=ln.ref:=by unfold RC.up;rw [if_neg (by omega)];exact hnm
  have hown1:c.own (j+1)=c.own j:=by rw [RC.own_succ,hst];simp
  rw [hsv]
  refine zgo ?_
  refine Runs.drawn (m:=13) (fun h'=>Ext h10 h') (fun _=>false) mixed rfl ?_
  refine zp 0 (Fr.refl _ _) ?_
  refine zp 1 (Fr.refl _ _) ?_
  refine zp 2 (Fr.refl _ _) ?_
  refine zl 3 (fun _ hS=>((rp.ext.trans hS).xc g1)) (Fr.refl _ _) ?_
  refine zp 4 (Fr.refl _ _) ?_
  refine zp 5 (Fr.refl _ _) ?_
  refine zi 6 hjt' (Fr.refl _ _) ?_
  refine zl 7 (fun _ hS=>(Fr.xc hS s0)) (Fr.refl _ _) ?_
  refine zi 8 hsl (Fr.refl _ _) ?_
  refine zp 9 (Fr.refl _ _) ?_
  refine zL 10 (fun _ hS=>((rp.ext.trans hS).xcs hlc)) (Fr.refl _ _) ?_
  refine WF.var 11 12 tab_ok (by kernel_rfl) (by kernel_rfl) rfl rfl rfl rfl rfl rfl rfl rfl rfl rfl rfl rfl (by simp) rfl rfl ln.ref.one rfl (fun h' hx'=>hx') fun h11 hb11 hx11 hs11=>?_
  refine zd ?_
  have rp11:=rp.up hx11
  have hst11:=hst10.ext hx11
  have hup11:=hup10.ext hx11
  have s1:=hx11.xc s0
  have ge2:=rp11.ext.xc g2
  refine zgo ?_
  refine Runs.still mixed (by kernel_rfl) ?_
  refine WS.join (fun env'=>∃ tb:Bool,Sub [(0,.pointer (some ⟨mb,0,none⟩)),(1,.int .i64 (id:Int)),(2,.slice aw W.length cw),(14,.pointer (some ⟨h4.size,0,none⟩)),(16,.slice (some ⟨h6.size,0,none⟩) W.length W.length),(19,.int .i64 (c.own j:Int)),(20,.pointer (some ⟨h8.size,0,none⟩)),(123,.int .i64 (W.length:Int)),(124,.int .i64 (j:Int)),(22,.pointer (some ⟨h10.size,0,none⟩)),(172,.bool tb)] env'∧(tb=true→c.put j=[⟨3,c.up j,ln.ref,[]⟩])∧(tb=false→c.put j=[])) ?_ ?_
  ·by_cases h0:j=0
   ·have hd:decide ((0:Int)<(j:Int))=false:=decide_eq_false (by omega)
    refine zws ?_
    rw [hd]
    refine zws ?_
    refine ⟨false,⟨rfl,rfl,rfl,rfl,rfl,rfl,rfl,rfl,rfl,rfl,rfl,trivial⟩,fun e=>(by cases e),fun _=>?_⟩
    unfold RC.put;rw [hst];exact if_pos h0
   ·have hd:decide ((0:Int)<(j:Int))=true:=decide_eq_true (by omega)
    have s2:cellAt h11 h6.size (0+(j-1)*1)=some (.int .i64 (svA c L L.length (j-1))):=by
     rw [Nat.zero_add,Nat.mul_one];exact hst11.cell (rowZ_get (by omega))
    cases hs1:c.st (j-1) with
    | none =>
     rw [hnone _ hs1] at s2
     refine zws ?_
     rw [hd]
     refine zws ?_
     rw [show ((j:Int)-1)=((j-1:Nat):Int) by omega]
     refine zws ?_
     refine ⟨false,⟨rfl,rfl,rfl,rfl,rfl,rfl,rfl,rfl,rfl,rfl,rfl,trivial⟩,fun e=>(by cases e),fun _=>?_⟩
     unfold RC.put;rw [hst];dsimp only;rw [if_neg h0,hs1]
    | some k =>
     obtain ⟨hkL,_,hsv2⟩:=hsome _ k hs1
     obtain ⟨s',ln',hgs',hsl',hga',href'⟩:=hget k hkL
     have hgd':L.getD k sh0=s':=by simp [List.getD_eq_getElem?_getD,hgs']
     rw [hsv2,hgd'] at s2
     have hd2:decide ((0:Int)≤(s'.i:Int))=true:=decide_eq_true (by omega)
     obtain ⟨bm1,pm1,capm1,hvm,rbm,rpm,rcm,cm1,dm1⟩:=(hmat4.ext rp11.ext).get hsq hsl' hsl
     subst hvm
     refine zws ?_
     rw [hd]
     refine zws ?_
     rw [show ((j:Int)-1)=((j-1:Nat):Int) by omega]
     refine zws ?_
     rw [hd2]
     refine zws ?_
     rw [show ((j:Int)-1)=((j-1:Nat):Int) by omega]
     refine zws ?_
     have hup:c.up j=c.ref k:=by unfold RC.up RC.nm;rw [if_neg h0,hs1]
     have hputj:c.put j=if getB ld s'.i s.i=true then [] else [⟨3,c.ref k,c.ref i,[]⟩]:=by
      unfold RC.put;rw [hst];dsimp only;rw [if_neg h0,hs1];dsimp only;rw [hLd k i s' s hgs' hgs]
     refine ⟨!getB ld s'.i s.i,⟨rfl,rfl,rfl,rfl,rfl,rfl,rfl,rfl,rfl,rfl,rfl,trivial⟩,fun e=>?_,fun e=>?_⟩
     ·rw [hputj,if_neg (by simpa using e),hup,href]
     ·rw [hputj,if_pos (by simpa using e)]
  rintro env' ⟨tb,hsub,htb1,htb2⟩
  refine Runs.sub hsub ?_
  clear hsub env'
  refine zgo ?_
  refine Runs.cond rfl (fun hq=>?_) (fun hq=>?_)
  ·have hput:c.dels L.length++c.puts (j+1)=(c.dels L.length++c.puts j)++[⟨3,c.up j,ln.ref,[]⟩]:=by rw [RC.puts_succ,htb1 hq,List.append_assoc]
   generalize c.up j=u at *
   have hlt10:=rp.own.lt
   have hS0:cellAt h11 h4.size (0+2)=some cv∧Cells h11 h8.size 0 u.cells∧Cells h11 h10.size 0 ln.ref.cells:=⟨rp11.pat.cell (j:=2) rfl,hup11.cells,hb11.cells⟩
   have hSS:∀ h',Fr (fun k=>cv.ownBlock=some k) h11 h'→cellAt h' h4.size (0+2)=some cv∧Cells h' h8.size 0 u.cells∧Cells h' h10.size 0 ln.ref.cells:=fun h' hf=>⟨hf.cell (fun e=>(rp.cvb _ e).2.1 rfl) hS0.1,hf.cells (fun e=>(rp.cvb _ e).2.2 (by simp)) hS0.2.1,hf.cells (fun e=>by have:=hlt10 _ e;omega) hS0.2.2⟩
   refine zgo ?_
   refine Runs.drawn (m:=13) (fun h'=>cellAt h' h4.size (0+2)=some cv∧Cells h' h8.size 0 u.cells∧Cells h' h10.size 0 ln.ref.cells) (fun i=>Nat.beq i 12) mixed rfl ?_
   refine zp 0 hS0 ?_
   refine zp 1 hS0 ?_
   refine zp 2 hS0 ?_
   refine zp 3 hS0 ?_
   refine zl 4 (fun _ hS=>hS.1) hS0 ?_
   refine zL 5 (fun _ hS=>hS.2.1) hS0 ?_
   refine zL 6 (fun _ hS=>hS.2.2) hS0 ?_
   refine zp 7 hS0 ?_
   refine WF.push 8 9 tab_ok (by kernel_rfl) (by kernel_rfl) rfl rfl rfl rfl rfl rfl rfl rfl rfl rfl rfl rfl rfl rfl rfl rfl rfl rfl rfl (by simp) (ChangeD.one ⟨3,u,ln.ref,[]⟩) rp11.own (by omega) hSS ?_
   intro v12 h12 o1 o2 o3
   have hS12:=hSS _ o2
   refine zx 10 hS12 ?_
   refine zx 11 hS12 ?_
   obtain ⟨ad12,cap12,hv12⟩:=o1.rd.form
   have hone12:One [v12]:=by rw [hv12];exact one_slice _ _ _
   have hl12:oneList v12=some [v12]:=by rw [hv12];rfl
   refine WF.put 12 tab_ok (by kernel_rfl) rfl rfl rfl rfl rfl rfl rfl hl12 rfl hone12 (rp11.pat.fr o2 fun e=>(rp.cvb _ e).2.1 rfl) rfl rfl fun h13 hb13 hx13 hs13=>?_
   refine zd ?_
   obtain ⟨rp13,hf13⟩:=rp11.push (d:=⟨3,u,ln.ref,[]⟩) (by simp;omega) o1 o2 o3 hb13 hx13
   have hup13:Blk h13 h8.size u.cells 105:=hup11.fr hf13 fun e=>by
    rcases e with e | e
    ·omega
    ·exact (rp.cvb _ e).2.2 (by simp)
   have hst13:=hst11.fr hf13 fun e=>by
    rcases e with e | e
    ·omega
    ·exact (rp.cvb _ e).2.2 (by simp)
   have hr13:Cells h13 h10.size 0 ln.ref.cells:=hf13.cells (fun e=>by
    rcases e with e | e
    ·omega
    ·have:=hlt10 _ e;omega) hS0.2.2
   have hz13:=hf13.size
   refine zgo ?_
   refine zt ln.ref.one hup13 fun h14 hb14 hx14 hs14=>?_
   refine zgo ?_
   refine ih ⟨j+1,v12⟩ _ _ (by dsimp only;omega) ⟨rfl,rfl,rfl,rfl,rfl,by rw [hown1];rfl,rfl,rfl,rfl,trivial⟩ ⟨hjt',?_,by omega,hst13.fr hx14 (by omega),by rw [hup1];exact hb14⟩
   rw [hput]
   exact rp13.fr hx14 fun k e=>⟨by omega,by omega,fun e'=>(rp13.cvb k e').2.2 (by simp [e])⟩
  ·have hput:c.puts (j+1)=c.puts j:=by rw [RC.puts_succ,htb2 hq,List.append_nil]
   refine zgo ?_
   refine zt ln.ref.one hup11 fun h12 hb12 hx12 hs12=>?_
   refine zgo ?_
   refine ih ⟨j+1,cv⟩ _ _ (by dsimp only;omega) ⟨rfl,rfl,rfl,rfl,rfl,by rw [hown1];rfl,rfl,rfl,rfl,trivial⟩ ⟨hjt',?_,by omega,hst11.fr hx12 (by omega),by rw [hup1];exact hb12⟩
   rw [hput]
   exact rp11.fr hx12 fun k e=>⟨by omega,by omega,fun e'=>(rp.cvb k e').2.2 (by simp [e])⟩
 ·have hst:c.st j=none:=by
   cases e:c.st j with
   | none=>rfl
   | some i =>
    have:=(hsome j i e).2.2
    omega
  have hown1:c.own (j+1)=c.own j+1:=by rw [RC.own_succ,hst];rfl
  have hup1:c.up (j+1)=⟨id,c.own j⟩:=by unfold RC.up RC.nm;rw [if_neg (by omega),Nat.add_sub_cancel,hst,hcid]
  have hput:c.dels L.length++c.puts (j+1)=(c.dels L.length++c.puts j)++[⟨1,c.up j,c.dn j,W.getD j []⟩]:=by rw [RC.puts_succ,List.append_assoc];unfold RC.put;rw [hst,hcW]
  have hgw:W[j]? = some (W.getD j []):=by simp [List.getD_eq_getElem?_getD,hjt']
  generalize W.getD j []=w at *
  refine zgo ?_
  refine zv (RefD.one ⟨0,1⟩) fun h11 hb11 hx11 hs11=>?_
  have hdn0:c.dnF (List.range' (W.length-1+1) (W.length-(W.length-1+1)))=⟨0,1⟩:=by rw [show W.length-(W.length-1+1)=0 by omega];rfl
  have hb11':Blk h11 h10.size (c.dnF (List.range' (W.length-1+1) (W.length-(W.length-1+1)))).cells 105:=by rw [hdn0];exact hb11
  have hlt10:=rp.own.lt
  refine zgo ?_
  rw [show ((W.length:Int)-1)=((W.length-1:Nat):Int) by omega]
  refine zgo ?_
  refine Runs.loop (X:=Nat) (fun k=>[(0,.pointer (some ⟨mb,0,none⟩)),(1,.int .i64 (id:Int)),(2,.slice aw W.length cw),(14,.pointer (some ⟨h4.size,0,none⟩)),(16,.slice (some ⟨h6.size,0,none⟩) W.length W.length),(19,.int .i64 (c.own j:Int)),(20,.pointer (some ⟨h8.size,0,none⟩)),(123,.int .i64 (W.length:Int)),(124,.int .i64 (j:Int)),(21,.int .i64 (j:Int)),(23,.pointer (some ⟨h10.size,0,none⟩)),(24,.int .i64 (k:Int))])
   (fun k h'=>j≤k∧k<W.length∧Ext h10 h'∧h10.size<h'.size∧Blk h' h10.size (c.dnF (List.range' (k+1) (W.length-(k+1)))).cells 105) (fun k=>k) (W.length-1) ⟨rfl,rfl,rfl,rfl,rfl,rfl,rfl,rfl,rfl,rfl,rfl,rfl,trivial⟩ ⟨by omega,by omega,hx11,by omega,hb11'⟩ ?_
  clear hb11 hb11' hdn0 hx11 hs11
  rintro k h11 ⟨hk1,hk2,hx11,hz11,hb11⟩ ih2
  have rp11:=rp.up hx11
  have hst11:=hst10.ext hx11
  have hup11:=hup10.ext hx11
  refine zgo ?_
  refine Runs.cond_dec rfl (fun hkj=>?_) (fun hkj=>?_)
  ·have hdn1:c.dnF (List.range' (k-1+1) (W.length-(k-1+1)))=if (c.st k).isSome then c.nm k else c.dnF (List.range' (k+1) (W.length-(k+1))):=by
    rw [show k-1+1=k by omega,show W.length-k=(W.length-(k+1))+1 by omega,List.range'_succ];rfl
   have s1:cellAt h11 h6.size (0+k*1)=some (.int .i64 (svA c L L.length k)):=by
    rw [Nat.zero_add,Nat.mul_one];exact hst11.cell (rowZ_get hk2)
   refine zgo ?_
   refine Runs.cond_dec rfl (fun hp1=>?_) (fun hp1=>?_)
   ·obtain ⟨i,hsk⟩:∃ i,c.st k=some i:=by
     cases e:c.st k with
     | none=>rw [hnone k e] at hp1;omega
     | some i=>exact ⟨i,rfl⟩
    obtain ⟨hiL,_,hsv⟩:=hsome k i hsk
    obtain ⟨s,ln,hgs,hsl,hga,href⟩:=hget i hiL
    have hgd:L.getD i sh0=s:=by simp [List.getD_eq_getElem?_getD,hgs]
    rw [hgd] at hsv
    rw [hsv] at s1
    rw [hsv]
    obtain ⟨ba,pa,_,hv0,_,hca⟩:=har4.pos (by omega)
    cases hv0
    have hlc:Cells h11 ba (pa+s.i*7+0) ln.ref.cells:=rp11.ext.xcs ((linesC_get hca hga).take 2)
    have ge1:=rp11.ext.xc g1
    have hnk:c.nm k=ln.ref:=by unfold RC.nm;rw [hsk];exact href
    rw [hsk,hnk] at hdn1
    refine zgo ?_
    refine Runs.drawn (m:=12) (fun h'=>h11=h') (fun i=>Nat.beq i 11) mixed rfl ?_
    refine zp 0 rfl ?_
    refine zp 1 rfl ?_
    refine zp 2 rfl ?_
    refine WF.take 3 rfl (fun _ hS=>by rw [← hS];exact ov_load tab_ok rfl rfl rfl rfl ge1) rfl rfl rfl rfl (by kernel_rfl) ?_
    refine zp 4 rfl ?_
    refine zp 5 rfl ?_
    refine zi 6 hk2 rfl ?_
    refine WF.take 7 rfl (fun _ hS=>by rw [← hS];exact ov_load tab_ok rfl rfl rfl rfl s1) rfl rfl rfl rfl (by kernel_rfl) ?_
    refine zi 8 hsl rfl ?_
    refine zp 9 rfl ?_
    refine WF.take 10 rfl (fun _ hS=>by rw [← hS];exact ov_loads tab_ok rfl rfl rfl rfl rfl hlc) rfl rfl rfl rfl (by kernel_rfl) ?_
    refine WF.put 11 tab_ok (by kernel_rfl) rfl rfl rfl rfl rfl rfl rfl rfl rfl ln.ref.one hb11 rfl rfl fun h12 hb12 hx12 hs12=>?_
    refine zd ?_
    refine zgo ?_
    rw [show ((k:Int)-1)=((k-1:Nat):Int) by omega]
    refine zgo ?_
    exact ih2 (k-1) _ _ (by omega) ⟨rfl,rfl,rfl,rfl,rfl,rfl,rfl,rfl,rfl,rfl,rfl,rfl,trivial⟩ ⟨by omega,by omega,hx11.trans_new (hx12.mono fun k _ e=>.inr (by omega)),by omega,by rw [hdn1];exact hb12⟩
   ·have hsk:c.st k=none:=by
     cases e:c.st k with
     | none=>rfl
     | some i =>
      have:=(hsome k i e).2.2
      omega
    rw [hsk] at hdn1
    refine zgo ?_
    rw [show ((k:Int)-1)=((k-1:Nat):Int) by omega]
    refine zgo ?_
    exact ih2 (k-1) _ _ (by omega) ⟨rfl,rfl,rfl,rfl,rfl,rfl,rfl,rfl,rfl,rfl,rfl,rfl,trivial⟩ ⟨by omega,by omega,hx11,hz11,by rw [hdn1];exact hb11⟩
  have hkj':k=j:=by omega
  subst hkj'
  have hdn:c.dnF (List.range' (k+1) (W.length-(k+1)))=c.dn k:=by unfold RC.dn;rw [hcW]
  rw [hdn] at hb11
  clear hdn ih2
  generalize c.dn k=dn at *
  generalize c.up k=u at *
  obtain ⟨bw,pw,_,hvw,_,hwc⟩:=hW4.cell (strs_get hgw)
  cases hvw
  have hS0:cellAt h11 h4.size (0+2)=some cv∧Cells h11 h8.size 0 u.cells∧Cells h11 h10.size 0 dn.cells∧Ext h4 h11:=⟨rp11.pat.cell (j:=2) rfl,hup11.cells,hb11.cells,rp11.ext⟩
  have hSS:∀ h',Fr (fun k=>cv.ownBlock=some k) h11 h'→cellAt h' h4.size (0+2)=some cv∧Cells h' h8.size 0 u.cells∧Cells h' h10.size 0 dn.cells∧Ext h4 h':=fun h' hf=>⟨hf.cell (fun e=>(rp.cvb _ e).2.1 rfl) hS0.1,hf.cells (fun e=>(rp.cvb _ e).2.2 (by simp)) hS0.2.1,hf.cells (fun e=>by have:=hlt10 _ e;omega) hS0.2.2.1,rp11.ext.trans_new (hf.mono fun k _ e=>.inr (rp.cvb k e).1)⟩
  refine zgo ?_
  refine Runs.drawn (m:=17) (fun h'=>cellAt h' h4.size (0+2)=some cv∧Cells h' h8.size 0 u.cells∧Cells h' h10.size 0 dn.cells∧Ext h4 h') (fun i=>Nat.beq i 16) mixed rfl ?_
  refine zp 0 hS0 ?_
  refine zp 1 hS0 ?_
  refine zp 2 hS0 ?_
  refine zp 3 hS0 ?_
  refine zl 4 (fun _ hS=>hS.1) hS0 ?_
  refine zL 5 (fun _ hS=>hS.2.1) hS0 ?_
  refine zL 6 (fun _ hS=>hS.2.2.1) hS0 ?_
  refine zp 7 hS0 ?_
  refine zp 8 hS0 ?_
  refine zi 9 hjt' hS0 ?_
  refine zl 10 (fun _ hS=>(Fr.xc hS.2.2.2 hwc)) hS0 ?_
  refine zp 11 hS0 ?_
  refine WF.push 12 13 tab_ok (by kernel_rfl) (by kernel_rfl) rfl rfl rfl rfl rfl rfl rfl rfl rfl rfl rfl rfl rfl rfl rfl rfl rfl rfl rfl (by simp) (ChangeD.one ⟨1,u,dn,w⟩) rp11.own (by omega) hSS ?_
  intro v12 h12 o1 o2 o3
  have hS12:=hSS _ o2
  refine zx 14 hS12 ?_
  refine zx 15 hS12 ?_
  obtain ⟨ad12,cap12,hv12⟩:=o1.rd.form
  have hone12:One [v12]:=by rw [hv12];exact one_slice _ _ _
  have hl12:oneList v12=some [v12]:=by rw [hv12];rfl
  refine WF.put 16 tab_ok (by kernel_rfl) rfl rfl rfl rfl rfl rfl rfl hl12 rfl hone12 (rp11.pat.fr o2 fun e=>(rp.cvb _ e).2.1 rfl) rfl rfl fun h13 hb13 hx13 hs13=>?_
  refine zd ?_
  obtain ⟨rp13,hf13⟩:=rp11.push (d:=⟨1,u,dn,w⟩) (by simp;omega) o1 o2 o3 hb13 hx13
  have hup13:Blk h13 h8.size u.cells 105:=hup11.fr hf13 fun e=>by
   rcases e with e | e
   ·omega
   ·exact (rp.cvb _ e).2.2 (by simp)
  have hst13:=hst11.fr hf13 fun e=>by
   rcases e with e | e
   ·omega
   ·exact (rp.cvb _ e).2.2 (by simp)
  have hz13:=hf13.size
  refine zgo ?_
  refine zt (RefD.one ⟨id,c.own k⟩) hup13 fun h14 hb14 hx14 hs14=>?_
  refine zgo ?_
  refine ih ⟨k+1,v12⟩ _ _ (by dsimp only;omega) ⟨rfl,rfl,rfl,rfl,rfl,by rw [hown1];rfl,rfl,rfl,rfl,trivial⟩ ⟨hjt',?_,by omega,hst13.fr hx14 (by omega),by rw [hup1];exact hb14⟩
  rw [hput]
  exact rp13.fr hx14 fun k e=>⟨by omega,by omega,fun e'=>(rp13.cvb k e').2.2 (by simp [e])⟩
end Go.Proofs.YtlaffgagmncgjaaGreatDoor
namespace Go.Proofs.YtlaffgagmncgjaaGreatDoor
open Tryz Go Go.Pat Go.Proofs
section
variable {ps:List PatchD} {st:Nat→Nat} {orp orx:Nat→Bool} {sd:Nat→Int}
theorem rec_same (hst:∀ i,IsStrand (alS ps).length (leadS ps) (blkS ps) i (st i)) (hor:∀ i l,(alS ps)[i]? = some l→(orp i=true↔Orphan ps l)) (hn:NumX ps sd orx) (id:Nat) (W:List (List UInt8)) :
  mRC (alS ps) (leadS ps) (shL ps st orp) id W=xRC ps orx (ordX ps sd) id W:=by
 unfold mRC xRC
 have hord:ordX ps sd=(shL ps st orp).map fun s=>nth (liv (nX ps) (ddX ps)) s.i:=ordX_eq (orp:=orp) hst hn.str
 have key:∀ s∈shL ps st orp,s.mark=markX ps orx (nth (liv (nX ps) (ddX ps)) s.i):=fun s hs=>by
  obtain ⟨h1,h2⟩:=shL_mem hs
  have:s.mark=(opOf ps st orp).mark s.i:=by rw [h2];rfl
  rw [this,opOf_mark (orx_eq hor hn) h1]
 have hR:(shL ps st orp).map (refAt (alS ps))=(ordX ps sd).map fun k=>(lnX ps k).ref:=by
  rw [hord,List.map_map]
  refine List.map_congr_left fun s hs=>?_
  unfold refAt
  rw [alS_get (shL_mem hs).1];rfl
 have hH:mH (alS ps) (shL ps st orp)=xH ps orx (ordX ps sd):=by
  unfold mH xH
  rw [hord,List.map_map]
  refine List.map_congr_left fun s hs=>?_
  show (mayB s.mark,textAt (alS ps) s)=_
  unfold textAt
  rw [key s hs,alS_get (shL_mem hs).1];rfl
 have hL:mLd (leadS ps) (shL ps st orp)=xLd ps (ordX ps sd):=by
  funext a b
  unfold mLd xLd
  rw [hord,List.getElem?_map,List.getElem?_map]
  cases ha:(shL ps st orp)[a]? with
  | none=>rfl
  | some s =>
   cases hb:(shL ps st orp)[b]? with
   | none=>rfl
   | some t =>
    have h1:=(shL_mem (List.mem_of_getElem? ha)).1
    have h2:=(shL_mem (List.mem_of_getElem? hb)).1
    have h3:leadS ps=ldS (onS ps) (liv (nX ps) (ddX ps)) (liv (nX ps) (ddX ps)):=by simp only [leadS,liveS_eq]
    show getB (leadS ps) s.i t.i=getB (onS ps) _ _
    rw [h3,ld_get _ _ h1 h2]
 rw [hR,hH,hL]
end
theorem mRC_ok {ps:List PatchD} (hinv:Inv ps) {st:Nat→Nat} {orp:Nat→Bool} {id:Nat} {W:List (List UInt8)} (h1:id<10000∧id≠0) (h2:id∉ps.map PatchD.id) (h3:W.length≤24∧∀ t∈W,t.length≤12):RcOk ps (mRC (alS ps) (leadS ps) (shL ps st orp) id W):=by
 refine ⟨h1,h2,fun r hr=>?_,wk_inc _ _ _,fun p hp=>?_,h3⟩
 ·obtain ⟨s,hs,rfl⟩:=List.mem_map.1 hr
  have hg:=alS_get (shL_mem hs).1
  unfold refAt
  rw [hg]
  dsimp only
  have hm:=alS_mem (List.mem_of_getElem? hg)
  obtain ⟨q,hq,e1,e2⟩:=mem_linesS.1 ⟨_,hm,rfl⟩
  have hqk:=hinv.ok hq
  have:=ownN_le q.changes
  have:=hqk.len
  obtain ⟨t,ht,_⟩:=hinv.fine q hq
  refine ⟨⟨by rw [e1];exact hqk.id,by omega,fun e=>?_⟩,by rw [e1];exact List.mem_map.2 ⟨q,hq,rfl⟩⟩
  exact absurd (e1.symm.trans e) (parse_ok ht).2
 ·have:=wk_low _ _ _ _ hp
  simp only [mRC,mH,List.length_map] at this ⊢
  omega
theorem lawB_len {t:List UInt8} (h:lawB t=true):t.length≤12:=by
 unfold lawB at h
 rw [Bool.and_eq_true] at h
 exact of_decide_eq_true h.1
theorem lawS_out {W:List (List UInt8)} (h:lawS W=true):W.length≤24∧∀ t∈W,t.length≤12:=by
 unfold lawS at h
 rw [Bool.and_eq_true,List.all_eq_true] at h
 exact ⟨of_decide_eq_true h.1,fun t ht=>lawB_len (h.2 t ht)⟩
def RecM (ps:List PatchD) (st:Nat→Nat) (orp:Nat→Bool) (q:Int) (W:List (List UInt8)) (e:Nat) (t:List UInt8):Prop :=
 (¬ (1≤q∧q≤9999∧lawS W=true)∧e=12∧t=[])∨((1≤q∧q≤9999∧lawS W=true)∧∃ id:Nat,q=(id:Int)∧((id∈ps.map PatchD.id∧e=3∧t=[])∨(id∉ps.map PatchD.id∧(e,t)=recS ps (mRC (alS ps) (leadS ps) (shL ps st orp) id W))))
theorem plain_mRecord:Plain Tryz.prog 48:=⟨_,func48,by decide +kernel,by rfl⟩
theorem mRecord_ret {F:Nat→Prop} (bm b:Nat) (bs:List Nat) (ps:List PatchD) (st:Nat→Nat) (orp:Nat→Bool) (q:Int) (W:List (List UInt8)) (wv:Value) (h:Heap) (hb:Blk h bm [.pointer (some ⟨b,0,none⟩)] 61) (hs:SA F h b bs ps) (hinv:Inv ps)
  (hst:∀ i,IsStrand (alS ps).length (leadS ps) (blkS ps) i (st i)) (hor:∀ i l,(alS ps)[i]? = some l→(orp i=true↔Orphan ps l)) (hW:Rd h 1 wv W.length (strs W)) (hwl:W.length≤16777216) (htl:∀ t∈W,t.length≤16777216) :
  Ret Tryz.prog 48 #[.pointer (some ⟨bm,0,none⟩),.int .i64 q,wv] h fun v h'=>Ext h h'∧∃ t e,v = .tuple #[.string (str t),.int .i64 (e:Nat)]∧RecM ps st orp q W e t:=by
 refine Ret.of_body func48 rfl ntmps48 rfl rfl ?_
 have m0:=hb.cell (j:=0) rfl
 have hbs:bs.length=ps.length:=by obtain ⟨_,_,_,e,_⟩:=hs;exact e.1
 have hpl:=hinv.len
 have bad:∀ h',Ext h h'→¬ (1≤q∧q≤9999∧lawS W=true)→Ext h h'∧∃ t e,(Value.tuple #[.string (str []),.int .i64 12]) = .tuple #[.string (str t),.int .i64 (e:Nat)]∧RecM ps st orp q W e t:=fun h' hx hn=>⟨hx,[],12,rfl,.inl ⟨hn,rfl,rfl⟩⟩
 obtain ⟨aw,cw,e⟩:=hW.form
 subst e
 refine zgo ?_
 refine WO.call rfl rfl rfl rfl plain_Lawful rfl (lawful_ret W _ h hW hwl htl) fun v3 h3 ⟨hx3,hv3⟩=>?_
 replace hx3:=hx3.symm
 subst hx3 hv3
 refine zgo ?_
 by_cases h1:q<1
 ·have hd:decide (q<1)=true:=decide_eq_true h1
  rw [hd]
  refine zgo ?_
  exact Runs.ret func48 (ret2 results48 rfl rfl) (bad _ (Fr.refl _ _) (by omega))
 have hd1:decide (q<1)=false:=decide_eq_false h1
 rw [hd1]
 refine zgo ?_
 by_cases h2:9999<q
 ·have hd:decide (9999<q)=true:=decide_eq_true h2
  rw [hd]
  refine zgo ?_
  exact Runs.ret func48 (ret2 results48 rfl rfl) (bad _ (Fr.refl _ _) (by omega))
 have hd2:decide (9999<q)=false:=decide_eq_false h2
 rw [hd2]
 cases hfo:lawS W
 ·refine zgo ?_
  exact Runs.ret func48 (ret2 results48 rfl rfl) (bad _ (Fr.refl _ _) (by rw [hfo];simp))
 clear bad
 obtain ⟨id,rfl⟩:∃ id:Nat,q=(id:Int):=⟨q.toNat,by omega⟩
 have hok:(1≤(id:Int)∧(id:Int)≤9999∧lawS W=true):=⟨by omega,by omega,hfo⟩
 have hw:=lawS_out hfo
 refine zgo ?_
 refine WO.call rfl rfl rfl rfl plain60 rfl (get_ret b bs ps (id:Int) _ hs (by omega)) fun v4 h4 ⟨hx4,hgot⟩=>?_
 replace hx4:=hx4.symm
 subst hx4
 obtain ⟨i,bb,p,hbi,hpi,hpq,hv4⟩ | ⟨hno,hv4⟩:=hgot
 ·subst hv4
  have hpm:p∈ps:=List.mem_of_getElem? hpi
  refine zgo ?_
  exact Runs.ret func48 (ret2 results48 rfl rfl) ⟨Fr.refl _ _,[],3,rfl,.inr ⟨hok,id,rfl,.inl ⟨List.mem_map.2 ⟨p,hpm,by omega⟩,rfl,rfl⟩⟩⟩
 subst hv4
 have hout:id∉ps.map PatchD.id:=fun hm=>by
  obtain ⟨p,hp,e⟩:=List.mem_map.1 hm
  exact hno p hp (by omega)
 have hrc:=mRC_ok hinv (st:=st) (orp:=orp) (W:=W) ⟨by omega,by omega⟩ hout hw
 have fin:∀ t e h',Ext h h'→(e,t)=recS ps (mRC (alS ps) (leadS ps) (shL ps st orp) id W)→Ext h h'∧∃ t' e',(Value.tuple #[.string (str t),.int .i64 (e:Nat)]) = .tuple #[.string (str t'),.int .i64 (e':Nat)]∧RecM ps st orp (id:Int) W e' t':=fun t e h' hx hr=>⟨hx,t,e,rfl,.inr ⟨hok,id,rfl,.inr ⟨hout,hr⟩⟩⟩
 have hnd:∀ r:List Nat,r.Pairwise (· < ·)→(∀ y,y∈r↔∃ c∈(mRC (alS ps) (leadS ps) (shL ps st orp) id W).ch,y∈spkN id (spk (linesS ps) c))→r=ndS ps (mRC (alS ps) (leadS ps) (shL ps st orp) id W).ch:=fun r h1 h2=>nd_same hinv hout (fun d hd=>(hrc.chOk hd).2) h1 h2
 have hpo:(mRC (alS ps) (leadS ps) (shL ps st orp) id W).ch.length≤30→PatchD.ok ⟨id,ndS ps (mRC (alS ps) (leadS ps) (shL ps st orp) id W).ch,(mRC (alS ps) (leadS ps) (shL ps st orp) id W).ch⟩:=fun hl=>hrc.pOk hinv hl
 refine zgo ?_
 refine WO.call rfl rfl rfl rfl plain_Of rfl (of_mn hs hinv.good hinv.closed hst hor) fun v5 h5 ⟨hx5,mb,hv5,x5⟩=>?_
 subst hv5
 refine zgo ?_
 refine WO.call rfl rfl rfl rfl plain_rRecord rfl (rRecord_ret x5 id W _ (hW.ext hx5) hw.1) fun v6 h6 ⟨hx6,hv6⟩=>?_
 have hx06:=hx5.trans hx6
 have hcid:(mRC (alS ps) (leadS ps) (shL ps st orp) id W).id=id:=rfl
 generalize mRC (alS ps) (leadS ps) (shL ps st orp) id W=c at *
 rcases hv6 with ⟨hl,rfl⟩ | ⟨hl,rfl⟩ | ⟨hl,hl0,pb,r,rfl,hr1,hr2,hpa⟩
 ·refine zgo ?_
  refine Runs.ret func48 (ret2 results48 rfl rfl) (fin [] 7 _ hx06 ?_)
  unfold recS
  rw [if_pos hl]
 ·refine zgo ?_
  refine Runs.ret func48 (ret2 results48 rfl rfl) (fin [] 11 _ hx06 ?_)
  unfold recS
  rw [if_neg (by omega),if_pos hl]
 ·rw [hnd r hr1 hr2] at hpa
  refine zgo ?_
  refine WO.call rfl rfl rfl rfl plain63 rfl (text_ret _ pb _ hpa (hpo hl)) fun v7 h7 ⟨hx7,hv7⟩=>?_
  subst hv7
  refine zgo ?_
  refine Runs.ret func48 (ret2 results48 rfl rfl) (fin _ 0 _ (hx06.trans hx7) ?_)
  unfold recS
  rw [if_neg (by omega),if_neg hl0,hcid]
end Go.Proofs.YtlaffgagmncgjaaGreatDoor
