import Derived.Test.YtlaffgagmncgjabDoorT16
import Derived.Test.YtlaffgagmncgjabDoorMem3
namespace Go.Proofs.YtlaffgagmncgjabDoor
open Go Go.Pat Go.Proofs
theorem ret0 {fn:Func} {n:Nat} {env:Env} {h:Heap} (hr:fn.results = #[]) {P:Program} (a:Act) (w:World) (_:Sat n env a) (_:w.heap=h):(results fn a.tmps).run P w = .ok (.tuple #[]) w:=by
 simp [results,hr]
def sayS (ls:List LineD) (a b:RefD) (m:List (List Bool)):List (List Bool) :=
 match placeS ls a,placeS ls b with
 | some x,some y=>setB m x y true
 | _,_=>m
def MF (h:Heap) (b:Nat) (fx:List Bool):Prop:=∃ fxv,cellAt h b 3=some fxv∧Rd h 1 fxv fx.length (bools fx)
def blockS (n:Nat) (m:List (List Bool)) (fx:List Bool) (i:Nat):Int :=
 if fx.getD i false=true then -1 else (((List.range n).filter fun j=>fx.getD j false&&aheadS m j i).length:Int)
end Go.Proofs.YtlaffgagmncgjabDoor
