import Derived.Test.YtlaffgagmncgjaaGreatDoorS3
import Derived.Test.YtlaffgagmncgjaaGreatDoorM6
namespace Go.Proofs.YtlaffgagmncgjaaGreatDoor
open Tryz Go Go.Pat Go.Proofs
def has2 (ps:List PatchD) (r:RefD):Prop:=r.p=0∨∃ q∈ps,r.p=q.id∧r.i<ownN q.changes
def Lin (ps:List PatchD):Prop:=∀ p∈ps,∀ c∈p.changes,has2 ps c.up∧(c.kind=2∨has2 ps c.down)
theorem has2_iff {ps:List PatchD} {r:RefD}:hasS (linesS ps) r=true↔has2 ps r:=by
 rw [hasS_iff,mem_linesS];rfl
theorem lines_snoc (ps:List PatchD) (p:PatchD):linesS ps++linesOfS p=linesS (ps++[p]):=by simp [linesS]
theorem lineBad_iff {ps:List PatchD} {c:ChangeD}:lineBad (linesS ps) c=false↔has2 ps c.up∧(c.kind=2∨has2 ps c.down):=by
 unfold lineBad
 rw [Bool.or_eq_false_iff,Bool.and_eq_false_iff,Bool.not_eq_false',Bool.not_eq_false',Bool.not_eq_false',has2_iff,has2_iff,decide_eq_true_iff]
theorem has2_mono {ps qs:List PatchD} {r:RefD} (h:has2 ps r) (hm:∀ q∈ps,r.p=q.id→q∈qs):has2 qs r:=by
 rcases h with e | ⟨q,hq,e1,e2⟩
 ·exact .inl e
 ·exact .inr ⟨q,hm q hq e1,e1,e2⟩
structure Set1 (ps:List PatchD):Prop where
 inv:Inv ps
 rise:Rise ps
 lin:Lin ps
theorem Set1.nil:Set1 []:=⟨Inv.nil,rise_nil,by simp [Lin]⟩
structure Lets (ps:List PatchD) (t:List UInt8) (p:PatchD):Prop where
 parse:parseS t=some p
 formed:formedS p=true
 out:p.id∉ps.map PatchD.id
 needs:∀ n∈p.needs,n∈ps.map PatchD.id
 lin:∀ c∈p.changes,has2 (ps++[p]) c.up∧(c.kind=2∨has2 (ps++[p]) c.down)
 len:ps.length<20
 lines:(linesS (ps++[p])).length≤90
theorem lets_apply {ps:List PatchD} {t:List UInt8} {p:PatchD} (h:Lets ps t p):applyS ps t=(0,withS p ps):=by
 have h1:ps.find? (fun q=>decide (q.id=p.id))=none:=by
  rw [List.find?_eq_none]
  intro q hq
  simp only [decide_eq_true_eq]
  intro e
  exact h.out (List.mem_map.2 ⟨q,hq,e⟩)
 have h2:(p.needs.all fun n=>(ps.map PatchD.id).contains n)=true:=List.all_eq_true.2 fun n hn=>by simpa using h.needs n hn
 have h3:p.changes.any (lineBad (linesS ps++linesOfS p))=false:=by
  rw [List.any_eq_false]
  intro c hc
  rw [lines_snoc,Bool.not_eq_true]
  exact lineBad_iff.2 (h.lin c hc)
 have h4:=h.len
 have h5:=h.lines
 unfold applyS
 rw [h.parse]
 simp only [h.formed,h1,h2,h3,Bool.true_eq_false,Bool.false_eq_true,if_false]
 rw [if_neg]
 rw [lines_snoc];omega
theorem apply_cases (ps:List PatchD) (t:List UInt8):(∃ e,e≠0∧applyS ps t=(e,ps))∨∃ p,Lets ps t p:=by
 unfold applyS
 split
 ·exact .inl ⟨1,by omega,rfl⟩
 ·rename_i p hp
  split
  ·exact .inl ⟨2,by omega,rfl⟩
  ·rename_i hf
   split
   ·split
    ·exact .inl ⟨3,by omega,rfl⟩
    ·exact .inl ⟨4,by omega,rfl⟩
   ·rename_i hno
    split
    ·exact .inl ⟨5,by omega,rfl⟩
    ·rename_i hne
     split
     ·exact .inl ⟨6,by omega,rfl⟩
     ·rename_i hlb
      split
      ·exact .inl ⟨7,by omega,rfl⟩
      ·rename_i hfull
       refine .inr ⟨p,hp,by simpa using hf,fun hm=>?_,fun n hn=>?_,fun c hc=>?_,by omega,by rw [← lines_snoc];omega⟩
       ·obtain ⟨q,hq,e⟩:=List.mem_map.1 hm
        rw [List.find?_eq_none] at hno
        exact absurd e (by simpa using hno q hq)
       ·have hne':(p.needs.all fun n=>(ps.map PatchD.id).contains n)=true:=by simpa using hne
        simpa using List.all_eq_true.1 hne' n hn
       ·rw [Bool.not_eq_true,List.any_eq_false] at hlb
        have:=hlb c hc
        rw [lines_snoc,Bool.not_eq_true] at this
        exact lineBad_iff.1 this
theorem set_lets {ps:List PatchD} {t:List UInt8} {p:PatchD} (h:Set1 ps) (hl:Lets ps t p):Set1 (withS p ps):=by
 refine ⟨?_,rise_with h.rise hl.out,fun q hq c hc=>?_⟩
 ·have:=inv_apply h.inv t
  rw [lets_apply hl] at this
  exact this
 ·have up:∀ r,has2 (ps++[p]) r→has2 (withS p ps) r:=fun r hr=>has2_mono hr fun q hq _=>by
   rcases List.mem_append.1 hq with e | e
   ·exact withS_mem.2 (.inr e)
   ·exact withS_mem.2 (.inl (by simpa using e))
  have up2:∀ r,has2 ps r→has2 (withS p ps) r:=fun r hr=>has2_mono hr fun q hq _=>withS_mem.2 (.inr hq)
  rcases withS_mem.1 hq with e | e
  ·subst e
   obtain ⟨h1,h2⟩:=hl.lin c hc
   exact ⟨up _ h1,h2.imp id (up _)⟩
  ·obtain ⟨h1,h2⟩:=h.lin q e c hc
   exact ⟨up2 _ h1,h2.imp id (up2 _)⟩
theorem names_ref {p:PatchD} {r:RefD} {k:Nat} (h:namesS p r k=true):r.p=0∨r.p=p.id∨r.p∈p.needs:=by
 unfold namesS at h
 simp only [Bool.or_eq_true,Bool.and_eq_true,decide_eq_true_eq,List.any_eq_true] at h
 rcases h with (h | h) | ⟨n,hn,e⟩
 ·exact .inl h
 ·exact .inr (.inl h.1)
 ·exact .inr (.inr (e ▸ hn))
theorem ref_of {p:PatchD} (hf:formedS p=true) {c:ChangeD} (hc:c∈p.changes):(c.up.p=0∨c.up.p=p.id∨c.up.p∈p.needs)∧(c.kind=2∨c.down.p=0∨c.down.p=p.id∨c.down.p∈p.needs):=by
 unfold formedS at hf
 rw [Bool.and_eq_true,List.all_eq_true,List.all_eq_true] at hf
 obtain ⟨k,hk,e⟩:=List.getElem_of_mem hc
 have h1:=hf.2 k (List.mem_range.2 hk)
 unfold changeOk at h1
 rw [List.getElem?_eq_getElem hk,e] at h1
 simp only [Bool.and_eq_true,Bool.or_eq_true,decide_eq_true_eq] at h1
 exact ⟨names_ref h1.1.1.1,h1.1.1.2.imp id names_ref⟩
end Go.Proofs.YtlaffgagmncgjaaGreatDoor
