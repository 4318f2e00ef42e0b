import Derived.Test.YtlaffgagmncgjabDoorT24
namespace Go.Proofs.YtlaffgagmncgjabDoor
open Go Go.Pat Go.Proofs
def sh0:ShD:=⟨0,0,0,0⟩
def preA (L:List ShD) (k:Nat) (s:ShD):Bool:=decide (0≤s.block)&&(decide (k=0) || !decide ((L.getD (k-1) sh0).block=s.block))
def preB (L:List ShD) (k:Nat) (s:ShD):Bool:=decide (0≤s.block) && !decide ((L.getD (k-1) sh0).strand=s.strand)
def preC (L:List ShD) (k:Nat) (s:ShD):Bool:=decide (0≤s.block)&&(decide (k+1=L.length) || !decide ((L.getD (k+1) sh0).block=s.block))
def preP (L:List ShD) (k:Nat) (s:ShD):List (List UInt8):=if preA L k s then [[60]] else if preB L k s then [[61]] else []
def preQ (L:List ShD) (k:Nat) (s:ShD):List (List UInt8):=if preC L k s then [[62]] else []
def lineT (al:List LineD) (s:ShD):List UInt8:=match al[s.i]? with
 | some l=>UInt8.ofNat s.mark::l.text
 | none=>[]
def showAt (al:List LineD) (L:List ShD) (k:Nat):List (List UInt8):=match L[k]? with
 | some s=>preP L k s++(lineT al s::preQ L k s)
 | none=>[]
def showTo (al:List LineD) (L:List ShD) (k:Nat):List (List UInt8):=(List.range k).flatMap (showAt al L)
theorem showTo_succ (al:List LineD) (L:List ShD) (k:Nat):showTo al L (k+1)=showTo al L k++showAt al L k:=by simp [showTo,List.range_succ,List.flatMap_append]
theorem showAt_len (al:List LineD) (L:List ShD) (k:Nat):(showAt al L k).length≤3:=by
 unfold showAt
 split
 ·rename_i s _
  have h1:(preP L k s).length≤1:=by unfold preP;split<;>(try split)<;>simp
  have h2:(preQ L k s).length≤1:=by unfold preQ;split<;>simp
  simp;omega
 ·simp
theorem showTo_len (al:List LineD) (L:List ShD) (k:Nat):(showTo al L k).length≤3*k:=by
 induction k with
 | zero=>simp [showTo]
 | succ k ih=>rw [showTo_succ,List.length_append];have:=showAt_len al L k;omega
theorem strs_append (l m:List (List UInt8)):strs (l++m)=strs l++strs m:=by simp [strs]
theorem strand_ex (n:Nat) (ld:List (List Bool)) (bl:List Int):∃ st:Nat→Nat,∀ i,IsStrand n ld bl i (st i):=by
 refine Classical.axiomOfChoice fun i=>?_
 have key:∀ m k,k≤m→Conn n ld bl i k→∃ r,IsStrand n ld bl i r:=by
  intro m
  induction m with
  | zero=>intro k hk hc;exact ⟨k,hc,fun j _=>by omega⟩
  | succ m ih =>
   intro k hk hc
   by_cases h:∃ j,j<k∧Conn n ld bl i j
   ·obtain ⟨j,hj,hjc⟩:=h
    exact ih j (by omega) hjc
   ·refine ⟨k,hc,fun j hj=>?_⟩
    rcases Nat.lt_or_ge j k with e | e
    ·exact absurd ⟨j,e,hj⟩ h
    ·exact e
 exact key i i (Nat.le_refl _) .refl
theorem orphan_ex (ps:List PatchD) (al:List LineD):∃ orp:Nat→Bool,∀ i l,al[i]? = some l→(orp i=true↔Orphan ps l):=by
 refine ⟨fun i=>@decide (∃ l,al[i]? = some l∧Orphan ps l) (Classical.propDecidable _),fun i l hl=>?_⟩
 rw [@decide_eq_true_iff _ (Classical.propDecidable _)]
 constructor
 ·rintro ⟨l',h1,h2⟩
  rw [hl] at h1;cases h1;exact h2
 ·intro h;exact ⟨l,hl,h⟩
def opOf (ps:List PatchD) (st:Nat→Nat) (orp:Nat→Bool):OP:=⟨(alS ps).length,leadS ps,fixS ps,blkS ps,st,orp⟩
def showFull (ps:List PatchD) (st:Nat→Nat) (orp:Nat→Bool):List (List UInt8):=showTo (alS ps) ((opOf ps st orp).to (alS ps).length) (alS ps).length
theorem alS_mem {ps:List PatchD} {l:LineD} (h:l∈alS ps):l∈linesS ps:=by
 unfold alS alOf at h
 obtain ⟨k,_,e⟩:=List.mem_filterMap.1 h
 exact List.mem_of_getElem? e
theorem alS_len (ps:List PatchD):(alS ps).length≤(linesS ps).length:=by
 unfold alS alOf liveS liveTo
 refine Nat.le_trans (List.length_filterMap_le _ _) (Nat.le_trans (List.length_filter_le _ _) ?_)
 simp
theorem linesS_mem {ps:List PatchD} {l:LineD} (h:l∈linesS ps):∃ p∈ps,l.ref.p=p.id∧∃ c∈p.changes,l.text=c.text:=by
 unfold linesS linesOfS linesUp at h
 obtain ⟨p,hp,hl⟩:=List.mem_flatMap.1 h
 obtain ⟨⟨c,i⟩,hc,rfl⟩:=List.mem_map.1 hl
 have:=List.mem_zipIdx' hc
 refine ⟨p,hp,rfl,c,?_,rfl⟩
 have h2:=this.2
 rw [h2]
 exact (List.mem_filter.1 (List.getElem_mem _)).1
theorem show_ne {ps:List PatchD} {st:Nat→Nat} {orp:Nat→Bool}:∀ t∈showFull ps st orp,t≠[]:=by
 intro t ht
 unfold showFull showTo at ht
 obtain ⟨k,hk,hs⟩:=List.mem_flatMap.1 ht
 unfold showAt at hs
 split at hs
 ·rename_i s e
  have hm:=(opOf ps st orp).to_mem _ s (List.mem_of_getElem? e)
  rcases List.mem_append.1 hs with h | h
  ·unfold preP at h
   split at h
   ·simp at h;subst h;simp
   ·split at h
    ·simp at h;subst h;simp
    ·simp at h
  ·rcases List.mem_cons.1 h with h | h
   ·subst h
    unfold lineT
    rw [List.getElem?_eq_getElem hm.1]
    simp
   ·unfold preQ at h
    split at h
    ·simp at h;subst h;simp
    ·simp at h
 ·simp at hs
end Go.Proofs.YtlaffgagmncgjabDoor
