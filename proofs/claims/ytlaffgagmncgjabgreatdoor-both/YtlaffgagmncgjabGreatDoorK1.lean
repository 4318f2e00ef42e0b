import Derived.Test.YtlaffgagmncgjabGreatDoorS3
import Derived.Test.YtlaffgagmncgjabGreatDoorM6
namespace Go.Proofs.YtlaffgagmncgjabGreatDoor
open Tryz Go Go.Pat Go.Proofs
theorem rise_ext:∀ {ps qs:List PatchD},Rise ps→Rise qs→(∀ p,p∈ps↔p∈qs)→ps=qs
 | [],qs,_,_,hm=>by
  cases qs with
  | nil=>rfl
  | cons b qs=>exact absurd ((hm b).2 (by simp)) (by simp)
 | a::ps,[],_,_,hm=>absurd ((hm a).1 (by simp)) (by simp)
 | a::ps,b::qs,h,h',hm=>by
  unfold Rise at h h'
  simp only [List.map_cons,List.pairwise_cons] at h h'
  have lt1:∀ x∈ps,a.id<x.id:=fun x hx=>h.1 x.id (List.mem_map.2 ⟨x,hx,rfl⟩)
  have lt2:∀ x∈qs,b.id<x.id:=fun x hx=>h'.1 x.id (List.mem_map.2 ⟨x,hx,rfl⟩)
  have hab:a=b:=by
   rcases List.mem_cons.1 ((hm a).1 (by simp)) with e | e
   ·exact e
   ·rcases List.mem_cons.1 ((hm b).2 (by simp)) with e' | e'
    ·exact e'.symm
    ·have:=lt1 b e';have:=lt2 a e;omega
  subst hab
  congr 1
  refine rise_ext h.2 h'.2 fun p=>⟨fun hp=>?_,fun hp=>?_⟩
  ·rcases List.mem_cons.1 ((hm p).1 (List.mem_cons_of_mem _ hp)) with e | e
   ·subst e;have:=lt1 p hp;omega
   ·exact e
  ·rcases List.mem_cons.1 ((hm p).2 (List.mem_cons_of_mem _ hp)) with e | e
   ·subst e;have:=lt2 p hp;omega
   ·exact e
def has2 (ps:List PatchD) (r:RefD):Prop:=r.p=0∨∃ q∈ps,r.p=q.id∧r.i<ownN q.changes
def Lin (ps:List PatchD):Prop:=∀ p∈ps,∀ c∈p.changes,has2 ps c.up∧(c.kind=2∨has2 ps c.down)
theorem has2_iff {ps:List PatchD} {r:RefD}:hasS (linesS ps) r=true↔has2 ps r:=by
 rw [hasS_iff,mem_linesS];rfl
theorem lines_snoc (ps:List PatchD) (p:PatchD):linesS ps++linesOfS p=linesS (ps++[p]):=by simp [linesS]
theorem lineBad_iff {ps:List PatchD} {c:ChangeD}:lineBad (linesS ps) c=false↔has2 ps c.up∧(c.kind=2∨has2 ps c.down):=by
 unfold lineBad
 rw [Bool.or_eq_false_iff,Bool.and_eq_false_iff,Bool.not_eq_false',Bool.not_eq_false',Bool.not_eq_false',has2_iff,has2_iff,decide_eq_true_iff]
theorem has2_mono {ps qs:List PatchD} {r:RefD} (h:has2 ps r) (hm:∀ q∈ps,r.p=q.id→q∈qs):has2 qs r:=by
 rcases h with e | ⟨q,hq,e1,e2⟩
 ·exact .inl e
 ·exact .inr ⟨q,hm q hq e1,e1,e2⟩
structure Set1 (ps:List PatchD):Prop where
 inv:Inv ps
 rise:Rise ps
 lin:Lin ps
theorem Set1.nil:Set1 []:=⟨Inv.nil,rise_nil,by simp [Lin]⟩
structure Lets (ps:List PatchD) (t:List UInt8) (p:PatchD):Prop where
 parse:parseS t=some p
 formed:formedS p=true
 out:p.id∉ps.map PatchD.id
 needs:∀ n∈p.needs,n∈ps.map PatchD.id
 lin:∀ c∈p.changes,has2 (ps++[p]) c.up∧(c.kind=2∨has2 (ps++[p]) c.down)
 len:ps.length<20
 lines:(linesS (ps++[p])).length≤90
theorem lets_apply {ps:List PatchD} {t:List UInt8} {p:PatchD} (h:Lets ps t p):applyS ps t=(0,withS p ps):=by
 have h1:ps.find? (fun q=>decide (q.id=p.id))=none:=by
  rw [List.find?_eq_none]
  intro q hq
  simp only [decide_eq_true_eq]
  intro e
  exact h.out (List.mem_map.2 ⟨q,hq,e⟩)
 have h2:(p.needs.all fun n=>(ps.map PatchD.id).contains n)=true:=List.all_eq_true.2 fun n hn=>by simpa using h.needs n hn
 have h3:p.changes.any (lineBad (linesS ps++linesOfS p))=false:=by
  rw [List.any_eq_false]
  intro c hc
  rw [lines_snoc,Bool.not_eq_true]
  exact lineBad_iff.2 (h.lin c hc)
 have h4:=h.len
 have h5:=h.lines
 unfold applyS
 rw [h.parse]
 simp only [h.formed,h1,h2,h3,Bool.true_eq_false,Bool.false_eq_true,if_false]
 rw [if_neg]
 rw [lines_snoc];omega
theorem apply_cases (ps:List PatchD) (t:List UInt8):(∃ e,e≠0∧applyS ps t=(e,ps))∨∃ p,Lets ps t p:=by
 unfold applyS
 split
 ·exact .inl ⟨1,by omega,rfl⟩
 ·rename_i p hp
  split
  ·exact .inl ⟨2,by omega,rfl⟩
  ·rename_i hf
   split
   ·split
    ·exact .inl ⟨3,by omega,rfl⟩
    ·exact .inl ⟨4,by omega,rfl⟩
   ·rename_i hno
    split
    ·exact .inl ⟨5,by omega,rfl⟩
    ·rename_i hne
     split
     ·exact .inl ⟨6,by omega,rfl⟩
     ·rename_i hlb
      split
      ·exact .inl ⟨7,by omega,rfl⟩
      ·rename_i hfull
       refine .inr ⟨p,hp,by simpa using hf,fun hm=>?_,fun n hn=>?_,fun c hc=>?_,by omega,by rw [← lines_snoc];omega⟩
       ·obtain ⟨q,hq,e⟩:=List.mem_map.1 hm
        rw [List.find?_eq_none] at hno
        exact absurd e (by simpa using hno q hq)
       ·have hne':(p.needs.all fun n=>(ps.map PatchD.id).contains n)=true:=by simpa using hne
        simpa using List.all_eq_true.1 hne' n hn
       ·rw [Bool.not_eq_true,List.any_eq_false] at hlb
        have:=hlb c hc
        rw [lines_snoc,Bool.not_eq_true] at this
        exact lineBad_iff.1 this
theorem set_lets {ps:List PatchD} {t:List UInt8} {p:PatchD} (h:Set1 ps) (hl:Lets ps t p):Set1 (withS p ps):=by
 refine ⟨?_,rise_with h.rise hl.out,fun q hq c hc=>?_⟩
 ·have:=inv_apply h.inv t
  rw [lets_apply hl] at this
  exact this
 ·have up:∀ r,has2 (ps++[p]) r→has2 (withS p ps) r:=fun r hr=>has2_mono hr fun q hq _=>by
   rcases List.mem_append.1 hq with e | e
   ·exact withS_mem.2 (.inr e)
   ·exact withS_mem.2 (.inl (by simpa using e))
  have up2:∀ r,has2 ps r→has2 (withS p ps) r:=fun r hr=>has2_mono hr fun q hq _=>withS_mem.2 (.inr hq)
  rcases withS_mem.1 hq with e | e
  ·subst e
   obtain ⟨h1,h2⟩:=hl.lin c hc
   exact ⟨up _ h1,h2.imp id (up _)⟩
  ·obtain ⟨h1,h2⟩:=h.lin q e c hc
   exact ⟨up2 _ h1,h2.imp id (up2 _)⟩
theorem set_apply {ps:List PatchD} (h:Set1 ps) (t:List UInt8):Set1 (applyS ps t).2:=by
 rcases apply_cases ps t with ⟨e,_,he⟩ | ⟨p,hp⟩
 ·rw [he];exact h
 ·rw [lets_apply hp];exact set_lets h hp
theorem clash_no {A B:List PatchD} (hA:Inv A) (hB:Inv B) (hc:clashS A B=false) {p q:PatchD} (hp:p∈A) (hq:q∈B) (e:p.id=q.id):p=q:=by
 unfold clashS at hc
 rw [List.any_eq_false] at hc
 have h1:=hc q hq
 unfold clash1 at h1
 rw [← e,findS_of hA.nodup hp] at h1
 have h2:textS p=textS q:=by simpa using h1
 obtain ⟨t,ht,_⟩:=hA.fine p hp
 obtain ⟨t',ht',_⟩:=hB.fine q hq
 exact text_inj ht ht' h2
theorem set_pull {A B:List PatchD} (hA:Set1 A) (hB:Set1 B):Set1 (pullS A B).2:=by
 have hinv:=inv_pull hA.inv hB.inv
 unfold pullS at hinv ⊢
 split
 ·exact hA
 ·rename_i hc
  have hc':clashS A B=false:=by simpa using hc
  split
  ·exact hA
  ·rename_i hs
   rw [if_neg hc,if_neg hs] at hinv
   refine ⟨hinv,rise_join hA.rise hB.inv.nodup,fun p hp c hcc=>?_⟩
   have upA:∀ r,has2 A r→has2 (joinS A B) r:=fun r hr=>has2_mono hr fun q hq _=>join_mem.2 (.inl hq)
   have upB:∀ r,has2 B r→has2 (joinS A B) r:=fun r hr=>has2_mono hr fun q hq _=>by
    cases hf:findS A q.id with
    | none=>exact join_mem.2 (.inr ⟨hq,hf⟩)
    | some o =>
     obtain ⟨h1,h2⟩:=findS_some hf
     have:=clash_no hA.inv hB.inv hc' h1 hq h2
     subst this
     exact join_mem.2 (.inl h1)
   rcases join_mem.1 hp with e | e
   ·obtain ⟨h1,h2⟩:=hA.lin p e c hcc
    exact ⟨upA _ h1,h2.imp id (upA _)⟩
   ·obtain ⟨h1,h2⟩:=hB.lin p e.1 c hcc
    exact ⟨upB _ h1,h2.imp id (upB _)⟩
theorem pull_nil {ps:List PatchD} (h:Set1 ps):pullS [] ps=(0,ps):=by
 have hj:joinS [] ps=ps:=rise_ext (rise_join rise_nil h.inv.nodup) h.rise fun p=>by
  rw [join_mem];simp [findS]
 have hc:clashS [] ps=false:=by
  unfold clashS
  rw [List.any_eq_false]
  intro p _
  simp [clash1,findS]
 have h1:=h.inv.len
 have h2:=h.inv.lines
 unfold pullS
 rw [hj,hc,if_neg (by simp),if_neg (by omega)]
theorem pull_back {A B:List PatchD} (hA:Set1 A) (hB:Set1 B) (h:(pullS A B).1=0):pullS B (pullS A B).2=(0,(pullS A B).2):=by
 have hU:=set_pull hA hB
 unfold pullS at h hU
 split at h
 ·cases h
 rename_i hc
 split at h
 ·cases h
 rename_i hs
 rw [if_neg hc,if_neg hs] at hU
 have hc':clashS A B=false:=by simpa using hc
 have he:pullS A B=(0,joinS A B):=by unfold pullS;rw [if_neg hc,if_neg hs]
 rw [he]
 have same:∀ {p q:PatchD},p∈B→q∈joinS A B→p.id=q.id→p=q:=fun {p q} hp hq e=>by
  rcases join_mem.1 hq with h1 | ⟨h1,_⟩
  ·exact (clash_no hA.inv hB.inv hc' h1 hp e.symm).symm
  ·exact ids_inj hB.inv.nodup hp h1 e
 have hc2:clashS B (joinS A B)=false:=by
  unfold clashS
  rw [List.any_eq_false]
  intro q hq
  unfold clash1
  cases hf:findS B q.id with
  | none=>simp
  | some o =>
   obtain ⟨h1,h2⟩:=findS_some hf
   rw [same h1 hq h2];simp
 have hj:joinS B (joinS A B)=joinS A B:=rise_ext (rise_join hB.rise hU.inv.nodup) hU.rise fun p=>by
  rw [join_mem (A:=B)]
  constructor
  ·rintro (e | e)
   ·cases hf:findS A p.id with
    | none=>exact join_mem.2 (.inr ⟨e,hf⟩)
    | some o =>
     obtain ⟨h1,h2⟩:=findS_some hf
     have:=clash_no hA.inv hB.inv hc' h1 e h2
     subst this
     exact join_mem.2 (.inl h1)
   ·exact e.1
  ·intro e
   cases hf:findS B p.id with
   | none=>exact .inr ⟨e,rfl⟩
   | some o =>
    obtain ⟨h1,h2⟩:=findS_some hf
    rw [← same h1 e h2]
    exact .inl h1
 unfold pullS
 rw [hj,hc2,if_neg (by simp),if_neg hs]
theorem show_fun {ps:List PatchD} {sd sd':Nat→Int} {orx orx':Nat→Bool} (h:NumX ps sd orx) (h':NumX ps sd' orx'):showW (itemsX ps sd orx)=showW (itemsX ps sd' orx'):=by
 obtain ⟨st,hst⟩:=strand_ex (alS ps).length (leadS ps) (blkS ps)
 obtain ⟨orp,hor⟩:=orphan_ex ps (alS ps)
 rw [← show_same hst hor h,← show_same hst hor h']
theorem blank_fun {ps:List PatchD} {sd sd':Nat→Int} {orx orx':Nat→Bool} (h:NumX ps sd orx) (h':NumX ps sd' orx'):blankX ps orx (ordX ps sd)=blankX ps orx' (ordX ps sd'):=by
 obtain ⟨st,hst⟩:=strand_ex (alS ps).length (leadS ps) (blkS ps)
 obtain ⟨orp,hor⟩:=orphan_ex ps (alS ps)
 rw [← clean_same hst hor h,← clean_same hst hor h']
end Go.Proofs.YtlaffgagmncgjabGreatDoor
