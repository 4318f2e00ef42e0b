import Derived.Test.YtlaffgagmncgjabGreatDoorT11
namespace Go.Proofs.YtlaffgagmncgjabGreatDoor
open Tryz Go Go.Pat Go.Proofs
structure Good (ps:List PatchD):Prop where
 ok:∀ p∈ps,PatchD.ok p
 len:ps.length≤20
 nodup:(ps.map PatchD.id).Nodup
theorem find_eq {ps:List PatchD} (h:(ps.map PatchD.id).Nodup) {old:PatchD} {n:Nat} (hm:old∈ps) (he:old.id=n):ps.find? (fun q=>decide (q.id=n))=some old:=by
 cases hf:ps.find? (fun q=>decide (q.id=n)) with
 | none=>rw [List.find?_eq_none] at hf;exact absurd he (by simpa using hf old hm)
 | some x =>
  have h1:=List.mem_of_find?_eq_some hf
  have h2:=List.find?_some hf
  simp at h2
  rw [ids_inj h h1 hm (by rw [h2,he])]
def lineBad (ls:List LineD) (c:ChangeD):Bool:=!hasS ls c.up||(!decide (c.kind=2) && !hasS ls c.down)
def applyS (ps:List PatchD) (t:List UInt8):Nat × List PatchD :=
 match parseS t with
 | none=>(1,ps)
 | some p =>
  if formedS p=false then (2,ps) else
  match ps.find? fun q=>decide (q.id=p.id) with
  | some old=>if textS old=t then (3,ps) else (4,ps)
  | none =>
   if p.needs.all (fun n=>(ps.map PatchD.id).contains n)=false then (5,ps) else
   if p.changes.any (lineBad (linesS ps++linesOfS p)) then (6,ps) else
   if 20≤ps.length∨90<(linesS ps++linesOfS p).length then (7,ps) else (0,withS p ps)
end Go.Proofs.YtlaffgagmncgjabGreatDoor
namespace Go.Proofs.YtlaffgagmncgjabGreatDoor
open Tryz Go Go.Pat Go.Proofs
end Go.Proofs.YtlaffgagmncgjabGreatDoor
namespace Go.Proofs.YtlaffgagmncgjabGreatDoor
open Tryz Go Go.Pat Go.Proofs
def idsS (ps:List PatchD):List Nat:=ps.map PatchD.id
end Go.Proofs.YtlaffgagmncgjabGreatDoor
