import Derived.Test.YtlaffgagmncgjabGreatDoorTab
namespace Go.Proofs.YtlaffgagmncgjabGreatDoor
open Tryz Go Go.Pat Go.Proofs
def splitL (c:UInt8):List UInt8→List (List UInt8)
 | []=>[[]]
 | x::r=>if x=c then []::splitL c r else
  match splitL c r with
  | p::ps=>(x::p)::ps
  | []=>[[x]]
theorem splitL_ne (c:UInt8) (l:List UInt8):splitL c l≠[]:=by
 cases l with
 | nil=>simp [splitL]
 | cons x r=>simp only [splitL];split<;>(try split)<;>simp
end Go.Proofs.YtlaffgagmncgjabGreatDoor
namespace Go.Proofs.YtlaffgagmncgjabGreatDoor
open Tryz Go Go.Pat Go.Proofs
def numAcc (acc:Nat):List UInt8→Option Nat
 | []=>some acc
 | c::r=>if c.toNat<48∨57<c.toNat then none else numAcc (10*acc+(c.toNat-48)) r
def numberS (w:List UInt8):Option Nat:=if w.length<1∨4<w.length∨(1<w.length∧w[0]? = some 48) then none else numAcc 0 w
theorem numAcc_lt {i n:Nat} (h:n<10 ^ i) {x:UInt8} (h1:¬ x.toNat<48) (h2:¬ 57<x.toNat):10*n+(x.toNat-48)<10 ^ (i+1):=by
 rw [Nat.pow_succ];omega
end Go.Proofs.YtlaffgagmncgjabGreatDoor
namespace Go.Proofs.YtlaffgagmncgjabGreatDoor
open Tryz Go Go.Pat Go.Proofs
def lineS (w edge:List UInt8):Option RefD :=
 if edge≠[]∧w=edge then some (if edge=[94] then ⟨0,0⟩ else ⟨0,1⟩) else
 match splitL 46 w with
 | [a,b]=>match numberS a,numberS b with
  | some p,some i=>if 0<p then some ⟨p,i⟩ else none
  | _,_=>none
 | _=>none
end Go.Proofs.YtlaffgagmncgjabGreatDoor
