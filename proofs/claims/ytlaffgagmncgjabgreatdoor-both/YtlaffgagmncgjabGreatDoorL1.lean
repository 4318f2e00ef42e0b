import Derived.Test.YtlaffgagmncgjabGreatDoorT1
namespace Go.Proofs.YtlaffgagmncgjabGreatDoor
open Tryz Go Go.Pat Go.Proofs
def inI (x:Int):Prop:=-9223372036854775808≤x∧x≤9223372036854775807
structure OpD where
 (kind a b c:Int) (s t:List UInt8)
def OpD.cells (o:OpD):List Value:=[.int .i64 o.kind,.int .i64 o.a,.int .i64 o.b,.int .i64 o.c,.string (str o.s),.string (str o.t)]
theorem OpD.one (o:OpD):One o.cells:=by intro u hu;simp [OpD.cells] at hu;rcases hu with rfl | rfl | rfl | rfl | rfl | rfl<;>rfl
structure OpD.ok (o:OpD):Prop where
 k:inI o.kind
 a:inI o.a
 b:inI o.b
 c:inI o.c
 s:o.s.length≤281474976710656
 t:o.t.length≤281474976710656
end Go.Proofs.YtlaffgagmncgjabGreatDoor
