import Derived.Test.YtlaffgagmncgjabDoorTab
namespace Go.Proofs.YtlaffgagmncgjabDoor
open Go Go.Pat Go.Proofs
def splitL (c:UInt8):List UInt8→List (List UInt8)
 | []=>[[]]
 | x::r=>if x=c then []::splitL c r else
  match splitL c r with
  | p::ps=>(x::p)::ps
  | []=>[[x]]
def consPre (p:List UInt8):List (List UInt8)→List (List UInt8)
 | []=>[p]
 | q::qs=>(p++q)::qs
theorem splitL_ne (c:UInt8) (l:List UInt8):splitL c l≠[]:=by
 cases l with
 | nil=>simp [splitL]
 | cons x r=>simp only [splitL];split<;>(try split)<;>simp
theorem consPre_snoc {c x:UInt8} (hx:x≠c) (p r:List UInt8):consPre p (splitL c (x::r))=consPre (p++[x]) (splitL c r):=by
 simp only [splitL,if_neg hx]
 cases h:splitL c r with
 | nil=>exact absurd h (splitL_ne c r)
 | cons q qs=>simp [consPre]
structure SX where
 (i fr:Nat) (v:Value) (ps:List (List UInt8))
end Go.Proofs.YtlaffgagmncgjabDoor
namespace Go.Proofs.YtlaffgagmncgjabDoor
open Go Go.Pat Go.Proofs
def numAcc (acc:Nat):List UInt8→Option Nat
 | []=>some acc
 | c::r=>if c.toNat<48∨57<c.toNat then none else numAcc (10*acc+(c.toNat-48)) r
def numberS (w:List UInt8):Option Nat:=if w.length<1∨4<w.length∨(1<w.length∧w[0]? = some 48) then none else numAcc 0 w
theorem numAcc_lt {i n:Nat} (h:n<10 ^ i) {x:UInt8} (h1:¬ x.toNat<48) (h2:¬ 57<x.toNat):10*n+(x.toNat-48)<10 ^ (i+1):=by
 rw [Nat.pow_succ];omega
end Go.Proofs.YtlaffgagmncgjabDoor
namespace Go.Proofs.YtlaffgagmncgjabDoor
open Go Go.Pat Go.Proofs
def lineS (w edge:List UInt8):Option RefD :=
 if edge≠[]∧w=edge then some (if edge=[94] then ⟨0,0⟩ else ⟨0,1⟩) else
 match splitL 46 w with
 | [a,b]=>match numberS a,numberS b with
  | some p,some i=>if 0<p then some ⟨p,i⟩ else none
  | _,_=>none
 | _=>none
theorem splitL_len (c:UInt8) (l:List UInt8):((splitL c l).map fun p=>p.length+1).sum=l.length+1:=by
 induction l with
 | nil=>simp [splitL]
 | cons x r ih =>
  simp only [splitL]
  split
  ·simp [ih];omega
  ·split
   ·rename_i p ps h;rw [h] at ih;simp at ih ⊢;omega
   ·rename_i h;exact absurd h (splitL_ne c r)
end Go.Proofs.YtlaffgagmncgjabDoor
