import Derived.Test.YtlaffgagmncgjabGreatDoorT23
import Derived.Test.YtlaffgagmncgjabGreatDoorMem3
namespace Go.Pat
open Go
section
variable {P:Program} {n:Nat} {env:Env} {h:Heap} {o:Oper} {T:Tab}
end
theorem Runs.joinK {P:Program} {f:FuncId} {n:Nat} {post:Value→Heap→Prop} {k:List Item} {env:Env} {h:Heap} {c:Code} (J:Env→Heap→Prop) (hr:∀ k',(∀ env' h',J env' h'→Runs P f n post k' env' h')→Runs P f n post (.code c::k') env h) (hJ:∀ env' h',J env' h'→Runs P f n post k env' h') :
  Runs P f n post (.code c::k) env h:=hr k hJ
end Go.Pat
namespace Go.Proofs.YtlaffgagmncgjabGreatDoor
open Tryz Go Go.Pat Go.Proofs
structure ShD where
 (i mark:Nat) (block:Int) (strand:Nat)
def ShD.cells (s:ShD):List Value:=[.int .i64 (s.i:Int),.int .u8 (s.mark:Int),.int .i64 s.block,.int .i64 (s.strand:Int)]
theorem ShD.one (s:ShD):One s.cells:=by intro u hu;simp [ShD.cells] at hu;rcases hu with rfl | rfl | rfl | rfl<;>rfl
def cntP (ld:List (List Bool)) (fx:List Bool) (i j:Nat):Bool:=(!decide (j=i)&&fx.getD j false)&&aheadS ld j i
def cntS (n:Nat) (ld:List (List Bool)) (fx:List Bool) (i:Nat):Nat:=((List.range n).filter (cntP ld fx i)).length
structure OP where
 (n:Nat) (ld:List (List Bool)) (fx:List Bool) (bl:List Int) (st:Nat→Nat) (orp:Nat→Bool)
def OP.blk (o:OP) (i:Nat):Int:=o.bl.getD i 0
def OP.strd (o:OP) (i:Nat):Nat:=if o.blk i<0 then 0 else o.st i
def OP.key (o:OP) (i:Nat):Key:=⟨((2*cntS o.n o.ld o.fx i+(if o.blk i<0 then 1 else 0):Nat):Int),(o.strd i:Int),(rankS o.n o.ld i:Int),(i:Int)⟩
def OP.mark (o:OP) (i:Nat):Nat:=if o.orp i=true then 33 else if ringS o.n o.ld i=true then 64 else if o.blk i<0 then 32 else 124
def OP.sh (o:OP) (i:Nat):ShD:=⟨i,o.mark i,o.blk i,o.strd i⟩
def OP.ins (o:OP) (i:Nat) (out:List ShD):List ShD:=out.takeWhile (fun x=>lessS (o.key x.i) (o.key i))++o.sh i::out.dropWhile (fun x=>lessS (o.key x.i) (o.key i))
def OP.to (o:OP) (k:Nat):List ShD:=(List.range k).foldl (fun out i=>o.ins i out) []
theorem OP.to_succ (o:OP) (k:Nat):o.to (k+1)=o.ins k (o.to k):=by simp [OP.to,List.range_succ,List.foldl_append]
theorem OP.to_length (o:OP) (k:Nat):(o.to k).length=k:=by
 induction k with
 | zero=>rfl
 | succ k ih =>
  rw [OP.to_succ,OP.ins]
  have h1:((o.to k).takeWhile (fun x=>lessS (o.key x.i) (o.key k))).length+((o.to k).dropWhile (fun x=>lessS (o.key x.i) (o.key k))).length=(o.to k).length:=by
   rw [← List.length_append,List.takeWhile_append_dropWhile]
  simp only [List.length_append,List.length_cons];omega
theorem OP.to_mem (o:OP) (k:Nat):∀ x∈o.to k,x.i<k∧x=o.sh x.i:=by
 induction k with
 | zero=>simp [OP.to]
 | succ k ih =>
  intro x hx
  rw [OP.to_succ,OP.ins] at hx
  have h0:∀ y∈o.to k,y.i<k+1∧y=o.sh y.i:=fun y hy=>⟨by have:=(ih y hy).1;omega,(ih y hy).2⟩
  rcases List.mem_append.1 hx with e | e
  ·exact h0 x ((List.takeWhile_sublist _).mem e)
  ·rcases List.mem_cons.1 e with e | e
   ·subst e;exact ⟨Nat.lt_succ_self k,rfl⟩
   ·exact h0 x ((List.dropWhile_sublist _).mem e)
theorem span_ltS {α:Type} {f:α→Bool} {l:List α} {i:Nat} (h1:∀ y∈l.take i,f y=true) (h2:∀ y,l[i]? = some y→f y=false):l.takeWhile f=l.take i∧l.dropWhile f=l.drop i:=by
 induction l generalizing i with
 | nil=>simp
 | cons a l ih =>
  cases i with
  | zero=>have:=h2 a (by simp);simp [this]
  | succ i =>
   have ha:=h1 a (by simp)
   have:=ih (i:=i) (fun y hy=>h1 y (by simp [hy])) (fun y hy=>h2 y (by simpa using hy))
   simp [ha,this]
theorem Key.one (k:Key):One k.cells:=by intro u hu;simp [Key.cells] at hu;rcases hu with rfl | rfl | rfl | rfl<;>rfl
end Go.Proofs.YtlaffgagmncgjabGreatDoor
