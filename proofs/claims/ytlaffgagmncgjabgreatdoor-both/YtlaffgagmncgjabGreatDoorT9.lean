import Derived.Test.YtlaffgagmncgjabGreatDoorT6
namespace Go.Proofs.YtlaffgagmncgjabGreatDoor
open Tryz Go Go.Pat Go.Proofs
def withS (q:PatchD):List PatchD→List PatchD
 | []=>[q]
 | p::r=>if q.id<p.id then q::p::r else p::withS q r
end Go.Proofs.YtlaffgagmncgjabGreatDoor
namespace Go.Proofs.YtlaffgagmncgjabGreatDoor
open Tryz Go Go.Pat Go.Proofs
structure IV where
 (i:Nat) (v:Value)
end Go.Proofs.YtlaffgagmncgjabGreatDoor
