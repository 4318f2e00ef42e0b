import Derived.Test.YtlaffgagmncgjabDoorT13
import Derived.Test.YtlaffgagmncgjabDoorMem3
namespace Go.Proofs.YtlaffgagmncgjabDoor
open Go Go.Pat Go.Proofs
def placeS (ls:List LineD) (r:RefD):Option Nat:=ls.findIdx? fun l=>(l.ref.eqb r)
end Go.Proofs.YtlaffgagmncgjabDoor
namespace Go.Proofs.YtlaffgagmncgjabDoor
open Go Go.Pat Go.Proofs
theorem filter_range_succ (f:Nat→Bool) (j:Nat):((List.range (j+1)).filter f).length=((List.range j).filter f).length+(if f j=true then 1 else 0):=by
 rw [List.range_succ,List.filter_append]
 by_cases h:f j=true<;>simp [h]
theorem filter_range_le (f:Nat→Bool) (j:Nat):((List.range j).filter f).length≤j:=by
 have:=List.length_filter_le f (List.range j)
 simpa using this
end Go.Proofs.YtlaffgagmncgjabDoor
namespace Go.Proofs.YtlaffgagmncgjabDoor
open Go Go.Pat Go.Proofs
def kills (r:RefD) (id:Nat) (l:List ChangeD):List Nat:=(l.filter fun c=>decide (c.kind=2)&&(c.up.eqb r)).map fun _=>id
def killersS (r:RefD) (ps:List PatchD):List Nat:=ps.flatMap fun p=>kills r p.id p.changes
theorem kills_snoc (r:RefD) (id:Nat) (l:List ChangeD) (c:ChangeD):kills r id (l++[c])=kills r id l++(if c.kind=2∧c.up.eqb r=true then [id] else []):=by
 unfold kills;rw [List.filter_append];by_cases h:c.kind=2∧c.up.eqb r=true
 ·rw [if_pos h];simp [h.1,h.2]
 ·rw [if_neg h];simp;intro e e2;exact h ⟨e,RefD.eqb_iff.2 e2⟩
theorem kills_le (r:RefD) (id:Nat) (l:List ChangeD):(kills r id l).length≤l.length:=by
 unfold kills;rw [List.length_map];exact List.length_filter_le _ _
theorem ints_append (l m:List Nat):ints (l++m)=ints l++ints m:=by simp [ints]
end Go.Proofs.YtlaffgagmncgjabDoor
