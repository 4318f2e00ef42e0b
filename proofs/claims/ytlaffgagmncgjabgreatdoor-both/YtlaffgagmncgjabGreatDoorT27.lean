import Derived.Test.YtlaffgagmncgjabGreatDoorT25
namespace Go.Proofs.YtlaffgagmncgjabGreatDoor
open Tryz Go Go.Pat Go.Proofs
structure Mn (F:Nat→Prop) (h:Heap) (mb b:Nat) (bs:List Nat) (ps:List PatchD) (st:Nat→Nat) (orp:Nat→Bool):Prop where
 sa:SA F h b bs ps
 good:Good ps
 cl:Closed ps
 mg:MG h mb b (alS ps) (leadS ps) (fixS ps) (blkS ps)
 hst:∀ i,IsStrand (alS ps).length (leadS ps) (blkS ps) i (st i)
 hor:∀ i l,(alS ps)[i]? = some l→(orp i=true↔Orphan ps l)
theorem Mn.ext {F:Nat→Prop} {h h':Heap} {mb b:Nat} {bs:List Nat} {ps:List PatchD} {st:Nat→Nat} {orp:Nat→Bool} (x:Mn F h mb b bs ps st orp) (f:Ext h h'):Mn F h' mb b bs ps st orp:=⟨x.sa.ext f,x.good,x.cl,x.mg.ext f,x.hst,x.hor⟩
def shL (ps:List PatchD) (st:Nat→Nat) (orp:Nat→Bool):List ShD:=(opOf ps st orp).to (alS ps).length
def cleanS (L:List ShD):Bool:=L.all fun s=>decide (s.mark=32)
def textAt (al:List LineD) (s:ShD):List UInt8:=match al[s.i]? with
 | some l=>l.text
 | none=>[]
def nameAt (al:List LineD) (s:ShD):Nat:=match al[s.i]? with
 | some l=>l.ref.p
 | none=>0
section
variable {F:Nat→Prop} {bm b:Nat} {bs:List Nat} {ps:List PatchD} {st:Nat→Nat} {orp:Nat→Bool}
end
end Go.Proofs.YtlaffgagmncgjabGreatDoor
namespace Go.Proofs.YtlaffgagmncgjabGreatDoor
open Tryz Go Go.Pat Go.Proofs
section
variable {F:Nat→Prop} {bm b:Nat} {bs:List Nat} {ps:List PatchD} {st:Nat→Nat} {orp:Nat→Bool}
end
end Go.Proofs.YtlaffgagmncgjabGreatDoor
