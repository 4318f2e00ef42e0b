import Derived.Test.YtlaffgagmncgjabDoorT1
namespace Go.Proofs.YtlaffgagmncgjabDoor
open Go Go.Pat Go.Proofs
def inI (x:Int):Prop:=-9223372036854775808≤x∧x≤9223372036854775807
def stageS (k:Int):Int:=if k=6 then 2 else if k=16 then 2 else if k=5 then 3 else if k=17 then 3 else if k=18 then 3 else if k=14 then 4 else 1
structure OpD where
 (kind a b c:Int) (s t:List UInt8)
def OpD.cells (o:OpD):List Value:=[.int .i64 o.kind,.int .i64 o.a,.int .i64 o.b,.int .i64 o.c,.string (str o.s),.string (str o.t)]
theorem OpD.one (o:OpD):One o.cells:=by intro u hu;simp [OpD.cells] at hu;rcases hu with rfl | rfl | rfl | rfl | rfl | rfl<;>rfl
structure OpD.ok (o:OpD):Prop where
 k:inI o.kind
 a:inI o.a
 b:inI o.b
 c:inI o.c
 s:o.s.length≤281474976710656
 t:o.t.length≤281474976710656
def opsC (l:List OpD):List Value:=l.flatMap OpD.cells
theorem opsC_append (l m:List OpD):opsC (l++m)=opsC l++opsC m:=by simp [opsC]
theorem length_opsC (l:List OpD):(opsC l).length=l.length*6:=by
 induction l with
 | nil=>rfl
 | cons x l ih=>simp only [opsC,List.flatMap_cons,List.length_append] at ih ⊢;rw [ih];simp [OpD.cells];omega
theorem opsC_get {h:Heap} {l:List OpD} {b p:Nat} (hc:Cells h b p (opsC l)) {i:Nat} {x:OpD} (hi:l[i]? = some x):Cells h b (p+i*6) x.cells:=by
 have hlt:i<l.length:=(List.getElem?_eq_some_iff.1 hi).1
 intro j v hj
 have hj4:j<6:=by have:=(List.getElem?_eq_some_iff.1 hj).1;simpa [OpD.cells] using this
 have hv:(opsC l)[i*6+j]? = some v:=by
  have h0:l=l.take i++x::l.drop (i+1):=by
   obtain ⟨_,e⟩:=List.getElem?_eq_some_iff.1 hi
   rw [← e,List.getElem_cons_drop,List.take_append_drop]
  rw [h0,opsC_append]
  have hl:(opsC (l.take i)).length=i*6:=by rw [length_opsC,List.length_take];congr 1;omega
  rw [List.getElem?_append_right (by omega),hl,show i*6+j-i*6=j by omega]
  simp only [opsC,List.flatMap_cons]
  rw [List.getElem?_append_left (by simp [OpD.cells];omega)]
  exact hj
 have:=hc (i*6+j) v hv
 rw [← Nat.add_assoc] at this
 exact this
def weight (l:List OpD):Nat:=(l.map fun o=>o.s.length+o.t.length).sum
theorem weight_snoc (l:List OpD) (o:OpD):weight (l++[o])=weight l+(o.s.length+o.t.length):=by simp [weight]
theorem weight_mem {l:List OpD} {o:OpD} (h:o∈l):o.s.length+o.t.length≤weight l:=by
 induction l with
 | nil=>simp at h
 | cons x l ih =>
  simp only [weight,List.map_cons,List.sum_cons] at ih ⊢
  rcases List.mem_cons.1 h with rfl | h
  ·omega
  ·have:=ih h;omega
structure INN where
 (i n:Nat)
end Go.Proofs.YtlaffgagmncgjabDoor
