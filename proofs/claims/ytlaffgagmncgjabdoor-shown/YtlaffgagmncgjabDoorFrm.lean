import Derived.Test.YtlaffgagmncgjabDoorT13
import Derived.Test.YtlaffgagmncgjabDoorRdr
namespace Go.Proofs.YtlaffgagmncgjabDoor
open Go Go.Pat Go.Proofs
def riseS (l:List Nat):Bool:=(List.range l.length).all fun i=>decide (i=0)||decide (l.getD (i-1) 0<l.getD i 0)
def speakS (p:PatchD) (r:RefD) (own:Nat):Bool:=decide (r.p=0)||(if r.p=p.id then decide (r.i<own) else p.needs.contains r.p)
def chFormS (p:PatchD) (c:ChangeD) (own:Nat):Bool:=(speakS p c.up own&&speakS p c.down own)&&(if c.kind=2 then !decide (c.up.p=p.id) else if c.kind=3 then !(RefD.eqb c.up c.down) else true)
def chFormAt (p:PatchD) (k:Nat):Bool:=match p.changes[k]? with
 | some c=>chFormS p c (ownN (p.changes.take k))
 | none=>true
def wellS (p:PatchD):Bool:=(riseS p.needs && !p.needs.contains p.id)&&(List.range p.changes.length).all (chFormAt p)
theorem needs_part (p:PatchD):(riseS p.needs && !p.needs.contains p.id)=(List.range p.needs.length).all (needOk p):=by
 rw [Bool.eq_iff_iff]
 simp only [Bool.and_eq_true,riseS,List.all_eq_true,List.mem_range,Bool.not_eq_true',List.contains_eq_mem,decide_eq_false_iff_not]
 constructor
 ·rintro ⟨h1,h2⟩ k hk
  have hg:p.needs[k]? = some p.needs[k]:=List.getElem?_eq_getElem hk
  have hgd:p.needs.getD k 0=p.needs[k]:=by simp [List.getD_eq_getElem?_getD,hg]
  have:=h1 k hk
  rw [hgd] at this
  have hne:p.needs[k]≠p.id:=fun e=>h2 (e ▸ List.getElem_mem hk)
  simp only [needOk,hg]
  simp at this ⊢
  exact ⟨hne,this⟩
 ·intro h
  refine ⟨fun k hk=>?_,fun hm=>?_⟩
  ·have hg:p.needs[k]? = some p.needs[k]:=List.getElem?_eq_getElem hk
   have hgd:p.needs.getD k 0=p.needs[k]:=by simp [List.getD_eq_getElem?_getD,hg]
   have:=h k hk
   simp only [needOk,hg] at this
   rw [hgd]
   simp at this ⊢
   exact this.2
  ·obtain ⟨k,hk,e⟩:=List.getElem_of_mem hm
   have hg:p.needs[k]? = some p.needs[k]:=List.getElem?_eq_getElem hk
   have:=h k hk
   simp only [needOk,hg] at this
   simp at this
   exact this.1 e
theorem speak_eq {p:PatchD} (hn:p.id∉p.needs) (r:RefD) (k:Nat):speakS p r (ownN (p.changes.take k))=namesS p r k:=by
 unfold speakS namesS
 rw [Bool.eq_iff_iff]
 by_cases h0:r.p=0
 ·simp [h0]
 ·by_cases h1:r.p=p.id
  ·simp [h1]
   intro x
   exact absurd x hn
  ·simp [h0,h1]
theorem wellS_eq {p:PatchD} (hd:∀ c∈p.changes,c.kind=2→c.down.p=0):wellS p=formedS p:=by
 unfold wellS formedS
 rw [needs_part]
 cases hN:(List.range p.needs.length).all (needOk p) with
 | false=>simp
 | true =>
  have hn:p.id∉p.needs:=by
   have:=needs_part p
   rw [hN] at this
   simp at this
   exact this.2
  simp only [Bool.true_and]
  rw [Bool.eq_iff_iff]
  simp only [List.all_eq_true,List.mem_range]
  have key:∀ k,k<p.changes.length→chFormAt p k=changeOk p k:=by
   intro k hk
   have hg:p.changes[k]? = some p.changes[k]:=List.getElem?_eq_getElem hk
   have hdk:=hd p.changes[k] (List.getElem_mem hk)
   simp only [chFormAt,changeOk,hg,chFormS,speak_eq hn]
   generalize p.changes[k]=c at *
   rw [Bool.eq_iff_iff]
   by_cases k2:c.kind=2
   ·have:=hdk k2
    have hnd:namesS p c.down k=true:=by simp [namesS,this]
    simp [k2,hnd]
   ·by_cases k3:c.kind=3
    ·simp [k3]
    ·simp [k2,k3]
  constructor
  ·intro h k hk;rw [← key k hk];exact h k hk
  ·intro h k hk;rw [key k hk];exact h k hk
def hasLineC (ps:List PatchD) (p:PatchD) (r:RefD):Bool:=(decide (r.p=0)||decide (r.p=p.id))||match ps.find? (fun q=>decide (q.id=r.p)) with
 | some q=>decide (r.i<ownN q.changes)
 | none=>false
theorem mem_linesOf {p:PatchD} {r:RefD}:(∃ l∈linesOfS p,l.ref=r)↔r.p=p.id∧r.i<ownN p.changes:=by
 unfold linesOfS linesUp ownN
 constructor
 ·rintro ⟨l,hl,rfl⟩
  obtain ⟨⟨c,i⟩,hx,rfl⟩:=List.mem_map.1 hl
  have:=List.mem_zipIdx' hx
  exact ⟨rfl,this.1⟩
 ·rintro ⟨h1,h2⟩
  refine ⟨_,List.mem_map.2 ⟨((p.changes.filter fun c=>decide (c.kind=1))[r.i],r.i),?_,rfl⟩,?_⟩
  ·rw [List.mem_zipIdx_iff_getElem?];simp
  ·cases r;simp at h1 ⊢;exact h1.symm
theorem hasS_iff {ls:List LineD} {r:RefD}:hasS ls r=true↔r.p=0∨∃ l∈ls,l.ref=r:=by simp [hasS]
theorem mem_linesS {ps:List PatchD} {r:RefD}:(∃ l∈linesS ps,l.ref=r)↔∃ q∈ps,r.p=q.id∧r.i<ownN q.changes:=by
 unfold linesS
 constructor
 ·rintro ⟨l,hl,e⟩
  obtain ⟨q,hq,hl⟩:=List.mem_flatMap.1 hl
  exact ⟨q,hq,mem_linesOf.1 ⟨l,hl,e⟩⟩
 ·rintro ⟨q,hq,h⟩
  obtain ⟨l,hl,e⟩:=mem_linesOf.2 h
  exact ⟨l,List.mem_flatMap.2 ⟨q,hq,hl⟩,e⟩
theorem hasLine_eq {ps:List PatchD} {p:PatchD} (hn:(ps.map PatchD.id).Nodup) {r:RefD} (hr:r.p≠0→r.p=p.id→r.i<ownN p.changes):hasLineC ps p r=hasS (linesS ps++linesOfS p) r:=by
 rw [Bool.eq_iff_iff,hasS_iff]
 have hsplit:(∃ l∈linesS ps++linesOfS p,l.ref=r)↔(∃ q∈ps,r.p=q.id∧r.i<ownN q.changes)∨(r.p=p.id∧r.i<ownN p.changes):=by
  rw [← mem_linesS,← mem_linesOf]
  constructor
  ·rintro ⟨l,hl,e⟩
   rcases List.mem_append.1 hl with h | h
   ·exact .inl ⟨l,h,e⟩
   ·exact .inr ⟨l,h,e⟩
  ·rintro (⟨l,h,e⟩ | ⟨l,h,e⟩)
   ·exact ⟨l,List.mem_append.2 (.inl h),e⟩
   ·exact ⟨l,List.mem_append.2 (.inr h),e⟩
 rw [hsplit]
 unfold hasLineC
 by_cases h0:r.p=0
 ·simp [h0]
 by_cases h1:r.p=p.id
 ·have:=hr h0 h1
  simp [h1,this]
 simp only [h0,h1,decide_false,Bool.or_self,Bool.false_or,false_or,false_and,or_false]
 cases hf:ps.find? (fun q=>decide (q.id=r.p)) with
 | none =>
  simp only [List.find?_eq_none,decide_eq_true_eq] at hf
  simp
  intro q hq e
  exact absurd e.symm (hf q hq)
 | some q =>
  have hm:=List.mem_of_find?_eq_some hf
  have he:=List.find?_some hf
  simp at he
  simp
  constructor
  ·intro h;exact ⟨q,hm,he.symm,h⟩
  ·rintro ⟨q',hq',e,h⟩
   have:=ids_inj hn hm hq' (by omega)
   rw [this];exact h
theorem ownN_take (l:List ChangeD) (k:Nat):ownN (l.take k)≤ownN l:=by
 unfold ownN
 exact (List.Sublist.filter _ (List.take_sublist k l)).length_le
theorem lines_part {ps:List PatchD} {p:PatchD} (hn:(ps.map PatchD.id).Nodup) (hf:formedS p=true) (hd:∀ c∈p.changes,c.kind=2→c.down.p=0) :
  p.changes.all (fun c=>hasLineC ps p c.up&&hasLineC ps p c.down) = !p.changes.any (lineBad (linesS ps++linesOfS p)):=by
 have hw:=wellS_eq hd
 rw [hf] at hw
 unfold wellS at hw
 simp only [Bool.and_eq_true,List.all_eq_true,List.mem_range] at hw
 obtain ⟨_,hch⟩:=hw
 have key:∀ c∈p.changes,(hasLineC ps p c.up&&hasLineC ps p c.down) = !lineBad (linesS ps++linesOfS p) c:=by
  intro c hc
  obtain ⟨k,hk,rfl⟩:=List.getElem_of_mem hc
  have hg:p.changes[k]? = some p.changes[k]:=List.getElem?_eq_getElem hk
  have h1:=hch k hk
  simp only [chFormAt,hg,chFormS,Bool.and_eq_true] at h1
  obtain ⟨⟨h2,h3⟩,_⟩:=h1
  have hkd:=hd p.changes[k] hc
  have hle:=ownN_take p.changes k
  generalize p.changes[k]=c at *
  have sp:∀ r,speakS p r (ownN (p.changes.take k))=true→r.p≠0→r.p=p.id→r.i<ownN p.changes:=by
   intro r hs h0 he
   simp [speakS,he] at hs
   rcases hs with e | e
   ·omega
   ·omega
  rw [hasLine_eq hn (sp c.up h2),hasLine_eq hn (sp c.down h3)]
  unfold lineBad
  by_cases k2:c.kind=2
  ·have:hasS (linesS ps++linesOfS p) c.down=true:=hasS_iff.2 (.inl (hkd k2))
   simp [k2,this]
  ·simp [k2]
 rw [Bool.eq_iff_iff]
 simp only [List.all_eq_true,Bool.not_eq_true',List.any_eq_false]
 constructor
 ·intro h c hc;have:=h c hc;rw [key c hc] at this;simpa using this
 ·intro h c hc;rw [key c hc];have:=h c hc;simpa using this
theorem parse_del {s:List UInt8} {p:PatchD} (h:parseS s=some p):∀ c∈p.changes,(c.kind=1∨c.kind=2∨c.kind=3)∧(c.kind=2→c.down.p=0):=by
 obtain ⟨_,h1,ws,ss,_,_,_,_,_,_,_,hc⟩:=parseS_iff.1 h
 intro c hm
 obtain ⟨s',_,e⟩:=allSome_mem hc c hm
 rcases changeS_iff.1 e with ⟨_,_,_,_,_,_,_,_,_,rfl⟩ | ⟨_,_,_,_,rfl⟩ | ⟨_,_,_,_,_,_,_,rfl⟩<;>simp
def neededS (q:Nat) (ps:List PatchD):Bool:=ps.any fun p=>p.needs.contains q
theorem needed_iff {ps:List PatchD} {q:Nat} (hns:∀ p∈ps,p.id∉p.needs):neededS q ps=true↔∃ p∈ps,p.id≠q∧Reach ps p.id q:=by
 simp only [neededS,List.any_eq_true,List.contains_eq_mem,decide_eq_true_eq]
 constructor
 ·rintro ⟨p,hp,hm⟩
  exact ⟨p,hp,fun e=>hns p hp (e ▸ hm),.step .refl hp rfl hm⟩
 ·rintro ⟨p,_,hne,hr⟩
  rcases hr.last with e | ⟨p',hp',hm⟩
  ·exact absurd e.symm hne
  ·exact ⟨_,hp',hm⟩
end Go.Proofs.YtlaffgagmncgjabDoor
