import Derived.Test.YtlaffgagmncgjabDoorT11
namespace Go.Proofs.YtlaffgagmncgjabDoor
open Go Go.Pat Go.Proofs
structure Good (ps:List PatchD):Prop where
 ok:∀ p∈ps,PatchD.ok p
 len:ps.length≤20
 nodup:(ps.map PatchD.id).Nodup
theorem find_eq {ps:List PatchD} (h:(ps.map PatchD.id).Nodup) {old:PatchD} {n:Nat} (hm:old∈ps) (he:old.id=n):ps.find? (fun q=>decide (q.id=n))=some old:=by
 cases hf:ps.find? (fun q=>decide (q.id=n)) with
 | none=>rw [List.find?_eq_none] at hf;exact absurd he (by simpa using hf old hm)
 | some x =>
  have h1:=List.mem_of_find?_eq_some hf
  have h2:=List.find?_some hf
  simp at h2
  rw [ids_inj h h1 hm (by rw [h2,he])]
def lineBad (ls:List LineD) (c:ChangeD):Bool:=!hasS ls c.up||(!decide (c.kind=2) && !hasS ls c.down)
def applyS (ps:List PatchD) (t:List UInt8):Nat × List PatchD :=
 match parseS t with
 | none=>(1,ps)
 | some p =>
  if formedS p=false then (2,ps) else
  match ps.find? fun q=>decide (q.id=p.id) with
  | some old=>if textS old=t then (3,ps) else (4,ps)
  | none =>
   if p.needs.all (fun n=>(ps.map PatchD.id).contains n)=false then (5,ps) else
   if p.changes.any (lineBad (linesS ps++linesOfS p)) then (6,ps) else
   if 20≤ps.length∨90<(linesS ps++linesOfS p).length then (7,ps) else (0,withS p ps)
theorem find_got {bs:List Nat} {ps:List PatchD} {n:Nat} {v:Value} (h:Got bs ps (n:Int) v) :
  (∃ (i b:Nat) (p:PatchD),bs[i]? = some b∧ps[i]? = some p∧p.id=n∧v = .pointer (some ⟨b,0,none⟩))∨(n∉ps.map PatchD.id∧v = .pointer none):=by
 rcases h with ⟨i,b,p,h1,h2,h3,h4⟩ | ⟨h1,h2⟩
 ·exact .inl ⟨i,b,p,h1,h2,by omega,h4⟩
 ·refine .inr ⟨fun hm=>?_,h2⟩
  obtain ⟨p,hp,he⟩:=List.mem_map.1 hm
  exact h1 p hp (by rw [he])
theorem linesS_len {ps:List PatchD} (hg:Good ps):(linesS ps).length≤600:=by
 have key:∀ (l:List PatchD),(∀ p∈l,PatchD.ok p)→(linesS l).length≤30*l.length:=by
  intro l
  induction l with
  | nil=>intro _;simp [linesS]
  | cons p l ih =>
   intro h
   have h1:=ih (fun q hq=>h q (by simp [hq]))
   have h2:=(h p (by simp)).len
   have h3:=length_linesUp p.id p.changes
   have h4:=ownN_le p.changes
   simp only [linesS,List.flatMap_cons,List.length_append,List.length_cons] at h1 ⊢
   unfold linesOfS at *
   omega
 have:=key ps hg.ok
 have:=hg.len
 omega
end Go.Proofs.YtlaffgagmncgjabDoor
namespace Go.Proofs.YtlaffgagmncgjabDoor
open Go Go.Pat Go.Proofs
def UnS (ps:List PatchD) (q:Int) (e:Nat) (ps':List PatchD):Prop :=
 ((∀ p∈ps,(p.id:Int)≠q)∧e=8∧ps'=ps) ∨
 ∃ p₀∈ps,(p₀.id:Int)=q∧(((∃ p∈ps,p.id≠p₀.id∧Reach ps p.id p₀.id)∧e=9∧ps'=ps)∨((∀ p∈ps,p.id≠p₀.id→¬ Reach ps p.id p₀.id)∧e=0∧ps'=withoutS q ps))
end Go.Proofs.YtlaffgagmncgjabDoor
namespace Go.Proofs.YtlaffgagmncgjabDoor
open Go Go.Pat Go.Proofs
def idsS (ps:List PatchD):List Nat:=ps.map PatchD.id
def TxS (ps:List PatchD) (q:Int) (t:List UInt8) (e:Nat):Prop :=
 (∃ p∈ps,(p.id:Int)=q∧t=textS p∧e=0)∨((∀ p∈ps,(p.id:Int)≠q)∧t=[]∧e=8)
end Go.Proofs.YtlaffgagmncgjabDoor
