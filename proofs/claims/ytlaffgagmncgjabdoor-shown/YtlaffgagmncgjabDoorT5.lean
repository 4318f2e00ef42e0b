import Derived.Test.YtlaffgagmncgjabDoorT3
namespace Go.Proofs.YtlaffgagmncgjabDoor
open Go Go.Pat Go.Proofs
theorem two107:Two Tryd.prog 90 .i64 .i64:=two_of (by kernel_rfl)
def needOk (p:PatchD) (k:Nat):Bool:=match p.needs[k]? with
 | some n=>!(decide (n=p.id)||(decide (0<k)&&decide (n≤p.needs.getD (k-1) 0)))
 | none=>true
def changeOk (p:PatchD) (k:Nat):Bool:=match p.changes[k]? with
 | some c=>namesS p c.up k&&(decide (c.kind=2)||namesS p c.down k) && !(decide (c.kind=2)&&decide (c.up.p=p.id)) && !(decide (c.kind=3)&&(RefD.eqb c.up c.down))
 | none=>true
def formedS (p:PatchD):Bool:=(List.range p.needs.length).all (needOk p)&&(List.range p.changes.length).all (changeOk p)
end Go.Proofs.YtlaffgagmncgjabDoor
