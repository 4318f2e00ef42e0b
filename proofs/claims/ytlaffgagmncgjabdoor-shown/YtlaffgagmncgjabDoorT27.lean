import Derived.Test.YtlaffgagmncgjabDoorT25
namespace Go.Proofs.YtlaffgagmncgjabDoor
open Go Go.Pat Go.Proofs
structure Mn (F:Nat→Prop) (h:Heap) (mb b:Nat) (bs:List Nat) (ps:List PatchD) (st:Nat→Nat) (orp:Nat→Bool):Prop where
 sa:SA F h b bs ps
 good:Good ps
 cl:Closed ps
 mg:MG h mb b (alS ps) (leadS ps) (fixS ps) (blkS ps)
 hst:∀ i,IsStrand (alS ps).length (leadS ps) (blkS ps) i (st i)
 hor:∀ i l,(alS ps)[i]? = some l→(orp i=true↔Orphan ps l)
theorem Mn.ext {F:Nat→Prop} {h h':Heap} {mb b:Nat} {bs:List Nat} {ps:List PatchD} {st:Nat→Nat} {orp:Nat→Bool} (x:Mn F h mb b bs ps st orp) (f:Ext h h'):Mn F h' mb b bs ps st orp:=⟨x.sa.ext f,x.good,x.cl,x.mg.ext f,x.hst,x.hor⟩
def shL (ps:List PatchD) (st:Nat→Nat) (orp:Nat→Bool):List ShD:=(opOf ps st orp).to (alS ps).length
theorem shL_length (ps:List PatchD) (st:Nat→Nat) (orp:Nat→Bool):(shL ps st orp).length=(alS ps).length:=OP.to_length _ _
theorem alS_600 {ps:List PatchD} (hg:Good ps):(alS ps).length≤600:=Nat.le_trans (alS_len ps) (linesS_len hg)
def cleanS (L:List ShD):Bool:=L.all fun s=>decide (s.mark=32)
def textAt (al:List LineD) (s:ShD):List UInt8:=match al[s.i]? with
 | some l=>l.text
 | none=>[]
def nameAt (al:List LineD) (s:ShD):Nat:=match al[s.i]? with
 | some l=>l.ref.p
 | none=>0
section
variable {F:Nat→Prop} {bm b:Nat} {bs:List Nat} {ps:List PatchD} {st:Nat→Nat} {orp:Nat→Bool}
def FileM (L:List ShD) (al:List LineD) (v:Value) (h':Heap):Prop :=
 (cleanS L=false∧v = .tuple #[.slice none 0 0,.int .i64 10])∨(cleanS L=true∧∃ w,v = .tuple #[w,.int .i64 0]∧Own h' 9 1 w (L.map (textAt al)).length (strs (L.map (textAt al))))
end
end Go.Proofs.YtlaffgagmncgjabDoor
namespace Go.Proofs.YtlaffgagmncgjabDoor
open Go Go.Pat Go.Proofs
section
variable {F:Nat→Prop} {bm b:Nat} {bs:List Nat} {ps:List PatchD} {st:Nat→Nat} {orp:Nat→Bool}
def PastM (ps:List PatchD) (q:Int) (v:Value) (h':Heap):Prop :=
 ((∀ p∈ps,(p.id:Int)≠q)∧v = .tuple #[.slice none 0 0,.int .i64 8]) ∨
 ∃ p∈ps,(p.id:Int)=q∧∃ (w:Value) (f:Nat→Bool),v = .tuple #[w,.int .i64 0]∧(∀ n,f n=true↔n≠p.id∧Reach ps p.id n)∧Own h' 3 1 w ((idsS ps).filter f).length (ints ((idsS ps).filter f))
end
end Go.Proofs.YtlaffgagmncgjabDoor
