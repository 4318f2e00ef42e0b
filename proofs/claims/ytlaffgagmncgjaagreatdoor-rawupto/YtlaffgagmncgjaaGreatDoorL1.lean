import Derived.Test.YtlaffgagmncgjaaGreatDoorT1
set_option maxRecDepth 20000
namespace Go.Proofs.YtlaffgagmncgjaaGreatDoor
open Tryz Go Go.Pat Go.Proofs
theorem plain_mNew:Plain Tryz.prog 18:=⟨_,func18,by decide +kernel,by rfl⟩
def inI (x:Int):Prop:=-9223372036854775808≤x∧x≤9223372036854775807
structure OpD where
 (kind a b c:Int) (s t:List UInt8)
def OpD.cells (o:OpD):List Value:=[.int .i64 o.kind,.int .i64 o.a,.int .i64 o.b,.int .i64 o.c,.string (str o.s),.string (str o.t)]
theorem OpD.one (o:OpD):One o.cells:=by intro u hu;simp [OpD.cells] at hu;rcases hu with rfl | rfl | rfl | rfl | rfl | rfl<;>rfl
structure OpD.ok (o:OpD):Prop where
 k:inI o.kind
 a:inI o.a
 b:inI o.b
 c:inI o.c
 s:o.s.length≤281474976710656
 t:o.t.length≤281474976710656
theorem mNew_ret (h:Heap):Ret Tryz.prog 18 #[] h fun v h'=>Ext h h'∧h'.size=h.size+2∧v = .pointer (some ⟨h.size+1,0,none⟩)∧Blk h' h.size [.slice none 0 0] 59∧Blk h' (h.size+1) [.pointer (some ⟨h.size,0,none⟩)] 61:=by
 refine Ret.of_body (vs:=[]) func18 rfl ntmps18 rfl rfl ?_
 refine zgo ?_
 refine zb fun h1 hb1 hx1 hs1=>?_
 refine zgo ?_
 refine zb fun h2 hb2 hx2 hs2=>?_
 refine zgo ?_
 rw [hs1] at hb2
 refine Runs.ret func18 (ret1 results18 rfl) ⟨hx1.trans hx2,by omega,by rw [hs1],hb1.ext hx2,hb2⟩
end Go.Proofs.YtlaffgagmncgjaaGreatDoor
