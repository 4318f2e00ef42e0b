import Derived.Test.YtlaffgagmncgjabDoorT6
namespace Go.Proofs.YtlaffgagmncgjabDoor
open Go Go.Pat Go.Proofs
def Got (bs:List Nat) (ps:List PatchD) (q:Int) (v:Value):Prop :=
 (∃ (i b:Nat) (p:PatchD),bs[i]? = some b∧ps[i]? = some p∧(p.id:Int)=q∧v = .pointer (some ⟨b,0,none⟩))∨((∀ p∈ps,(p.id:Int)≠q)∧v = .pointer none)
structure SX9 where
 (i:Nat) (v:Value) (cs:List Nat) (qs:List PatchD) (done:Bool)
def withoutS (q:Int) (ps:List PatchD):List PatchD:=ps.filter fun p=>!decide ((p.id:Int)=q)
def withS (q:PatchD):List PatchD→List PatchD
 | []=>[q]
 | p::r=>if q.id<p.id then q::p::r else p::withS q r
def putIn (q:PatchD) (ps:List PatchD):Bool:=ps.any fun p=>decide (q.id<p.id)
theorem withS_none {q:PatchD}:∀ {ps:List PatchD},putIn q ps=false→withS q ps=ps++[q]:=by
 intro ps
 induction ps with
 | nil=>intro _;rfl
 | cons p r ih =>
  intro h
  simp only [putIn,List.any_cons,Bool.or_eq_false_iff,decide_eq_false_iff_not] at h
  simp only [withS,if_neg h.1,List.cons_append]
  rw [ih h.2]
theorem withS_append {q:PatchD}:∀ {ps rs:List PatchD},putIn q ps=true→withS q (ps++rs)=withS q ps++rs:=by
 intro ps
 induction ps with
 | nil=>intro rs h;simp [putIn] at h
 | cons p r ih =>
  intro rs h
  simp only [List.cons_append,withS]
  by_cases hp:q.id<p.id
  ·simp [if_pos hp]
  ·have:putIn q r=true:=by simpa [putIn,hp] using h
   simp only [if_neg hp,ih this,List.cons_append]
theorem withS_first {q p:PatchD}:∀ {ps:List PatchD},putIn q ps=false→q.id<p.id→withS q (ps++[p])=ps++[q,p]:=by
 intro ps
 induction ps with
 | nil=>intro _ h;simp [withS,h]
 | cons x r ih =>
  intro h hp
  simp only [putIn,List.any_cons,Bool.or_eq_false_iff,decide_eq_false_iff_not] at h
  simp only [List.cons_append,withS,if_neg h.1]
  rw [ih h.2 hp]
def soFar (q:PatchD) (ps:List PatchD):List PatchD:=if putIn q ps then withS q ps else ps
theorem soFar_snoc (q p:PatchD) (ps:List PatchD):soFar q (ps++[p])=soFar q ps++(if putIn q ps=false∧q.id<p.id then [q,p] else [p]):=by
 unfold soFar
 have e:putIn q (ps++[p])=(putIn q ps||decide (q.id<p.id)):=by simp [putIn]
 rw [e]
 cases hp:putIn q ps
 ·by_cases h:q.id<p.id
  ·simp [h,withS_first hp h]
  ·simp [h]
 ·simp [withS_append hp]
end Go.Proofs.YtlaffgagmncgjabDoor
namespace Go.Proofs.YtlaffgagmncgjabDoor
open Go Go.Pat Go.Proofs
structure IV where
 (i:Nat) (v:Value)
end Go.Proofs.YtlaffgagmncgjabDoor
