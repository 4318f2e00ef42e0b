import Derived.Test.YtlaffgagmncgjabDoorS3
import Derived.Test.YtlaffgagmncgjabDoorM6
namespace Go.Proofs.YtlaffgagmncgjabDoor
open Go Go.Pat Go.Proofs
theorem rise_ext:∀ {ps qs:List PatchD},Rise ps→Rise qs→(∀ p,p∈ps↔p∈qs)→ps=qs
 | [],qs,_,_,hm=>by
  cases qs with
  | nil=>rfl
  | cons b qs=>exact absurd ((hm b).2 (by simp)) (by simp)
 | a::ps,[],_,_,hm=>absurd ((hm a).1 (by simp)) (by simp)
 | a::ps,b::qs,h,h',hm=>by
  unfold Rise at h h'
  simp only [List.map_cons,List.pairwise_cons] at h h'
  have lt1:∀ x∈ps,a.id<x.id:=fun x hx=>h.1 x.id (List.mem_map.2 ⟨x,hx,rfl⟩)
  have lt2:∀ x∈qs,b.id<x.id:=fun x hx=>h'.1 x.id (List.mem_map.2 ⟨x,hx,rfl⟩)
  have hab:a=b:=by
   rcases List.mem_cons.1 ((hm a).1 (by simp)) with e | e
   ·exact e
   ·rcases List.mem_cons.1 ((hm b).2 (by simp)) with e' | e'
    ·exact e'.symm
    ·have:=lt1 b e';have:=lt2 a e;omega
  subst hab
  congr 1
  refine rise_ext h.2 h'.2 fun p=>⟨fun hp=>?_,fun hp=>?_⟩
  ·rcases List.mem_cons.1 ((hm p).1 (List.mem_cons_of_mem _ hp)) with e | e
   ·subst e;have:=lt1 p hp;omega
   ·exact e
  ·rcases List.mem_cons.1 ((hm p).2 (List.mem_cons_of_mem _ hp)) with e | e
   ·subst e;have:=lt2 p hp;omega
   ·exact e
def has2 (ps:List PatchD) (r:RefD):Prop:=r.p=0∨∃ q∈ps,r.p=q.id∧r.i<ownN q.changes
def Lin (ps:List PatchD):Prop:=∀ p∈ps,∀ c∈p.changes,has2 ps c.up∧(c.kind=2∨has2 ps c.down)
theorem has2_iff {ps:List PatchD} {r:RefD}:hasS (linesS ps) r=true↔has2 ps r:=by
 rw [hasS_iff,mem_linesS];rfl
theorem lines_snoc (ps:List PatchD) (p:PatchD):linesS ps++linesOfS p=linesS (ps++[p]):=by simp [linesS]
theorem lineBad_iff {ps:List PatchD} {c:ChangeD}:lineBad (linesS ps) c=false↔has2 ps c.up∧(c.kind=2∨has2 ps c.down):=by
 unfold lineBad
 rw [Bool.or_eq_false_iff,Bool.and_eq_false_iff,Bool.not_eq_false',Bool.not_eq_false',Bool.not_eq_false',has2_iff,has2_iff,decide_eq_true_iff]
theorem has2_mono {ps qs:List PatchD} {r:RefD} (h:has2 ps r) (hm:∀ q∈ps,r.p=q.id→q∈qs):has2 qs r:=by
 rcases h with e | ⟨q,hq,e1,e2⟩
 ·exact .inl e
 ·exact .inr ⟨q,hm q hq e1,e1,e2⟩
structure Set1 (ps:List PatchD):Prop where
 inv:Inv ps
 rise:Rise ps
 lin:Lin ps
theorem Set1.nil:Set1 []:=⟨Inv.nil,rise_nil,by simp [Lin]⟩
structure Lets (ps:List PatchD) (t:List UInt8) (p:PatchD):Prop where
 parse:parseS t=some p
 formed:formedS p=true
 out:p.id∉ps.map PatchD.id
 needs:∀ n∈p.needs,n∈ps.map PatchD.id
 lin:∀ c∈p.changes,has2 (ps++[p]) c.up∧(c.kind=2∨has2 (ps++[p]) c.down)
 len:ps.length<20
 lines:(linesS (ps++[p])).length≤90
theorem lets_apply {ps:List PatchD} {t:List UInt8} {p:PatchD} (h:Lets ps t p):applyS ps t=(0,withS p ps):=by
 have h1:ps.find? (fun q=>decide (q.id=p.id))=none:=by
  rw [List.find?_eq_none]
  intro q hq
  simp only [decide_eq_true_eq]
  intro e
  exact h.out (List.mem_map.2 ⟨q,hq,e⟩)
 have h2:(p.needs.all fun n=>(ps.map PatchD.id).contains n)=true:=List.all_eq_true.2 fun n hn=>by simpa using h.needs n hn
 have h3:p.changes.any (lineBad (linesS ps++linesOfS p))=false:=by
  rw [List.any_eq_false]
  intro c hc
  rw [lines_snoc,Bool.not_eq_true]
  exact lineBad_iff.2 (h.lin c hc)
 have h4:=h.len
 have h5:=h.lines
 unfold applyS
 rw [h.parse]
 simp only [h.formed,h1,h2,h3,Bool.true_eq_false,Bool.false_eq_true,if_false]
 rw [if_neg]
 rw [lines_snoc];omega
theorem apply_cases (ps:List PatchD) (t:List UInt8):(∃ e,e≠0∧applyS ps t=(e,ps))∨∃ p,Lets ps t p:=by
 unfold applyS
 split
 ·exact .inl ⟨1,by omega,rfl⟩
 ·rename_i p hp
  split
  ·exact .inl ⟨2,by omega,rfl⟩
  ·rename_i hf
   split
   ·split
    ·exact .inl ⟨3,by omega,rfl⟩
    ·exact .inl ⟨4,by omega,rfl⟩
   ·rename_i hno
    split
    ·exact .inl ⟨5,by omega,rfl⟩
    ·rename_i hne
     split
     ·exact .inl ⟨6,by omega,rfl⟩
     ·rename_i hlb
      split
      ·exact .inl ⟨7,by omega,rfl⟩
      ·rename_i hfull
       refine .inr ⟨p,hp,by simpa using hf,fun hm=>?_,fun n hn=>?_,fun c hc=>?_,by omega,by rw [← lines_snoc];omega⟩
       ·obtain ⟨q,hq,e⟩:=List.mem_map.1 hm
        rw [List.find?_eq_none] at hno
        exact absurd e (by simpa using hno q hq)
       ·have hne':(p.needs.all fun n=>(ps.map PatchD.id).contains n)=true:=by simpa using hne
        simpa using List.all_eq_true.1 hne' n hn
       ·rw [Bool.not_eq_true,List.any_eq_false] at hlb
        have:=hlb c hc
        rw [lines_snoc,Bool.not_eq_true] at this
        exact lineBad_iff.1 this
theorem set_lets {ps:List PatchD} {t:List UInt8} {p:PatchD} (h:Set1 ps) (hl:Lets ps t p):Set1 (withS p ps):=by
 refine ⟨?_,rise_with h.rise hl.out,fun q hq c hc=>?_⟩
 ·have:=inv_apply h.inv t
  rw [lets_apply hl] at this
  exact this
 ·have up:∀ r,has2 (ps++[p]) r→has2 (withS p ps) r:=fun r hr=>has2_mono hr fun q hq _=>by
   rcases List.mem_append.1 hq with e | e
   ·exact withS_mem.2 (.inr e)
   ·exact withS_mem.2 (.inl (by simpa using e))
  have up2:∀ r,has2 ps r→has2 (withS p ps) r:=fun r hr=>has2_mono hr fun q hq _=>withS_mem.2 (.inr hq)
  rcases withS_mem.1 hq with e | e
  ·subst e
   obtain ⟨h1,h2⟩:=hl.lin c hc
   exact ⟨up _ h1,h2.imp id (up _)⟩
  ·obtain ⟨h1,h2⟩:=h.lin q e c hc
   exact ⟨up2 _ h1,h2.imp id (up2 _)⟩
theorem set_apply {ps:List PatchD} (h:Set1 ps) (t:List UInt8):Set1 (applyS ps t).2:=by
 rcases apply_cases ps t with ⟨e,_,he⟩ | ⟨p,hp⟩
 ·rw [he];exact h
 ·rw [lets_apply hp];exact set_lets h hp
theorem without_with {p:PatchD}:∀ {ps:List PatchD},p.id∉ps.map PatchD.id→withoutS (p.id:Int) (withS p ps)=ps
 | [],_=>by simp [withS,withoutS]
 | q::r,hn=>by
  simp only [List.map_cons,List.mem_cons,not_or] at hn
  have hq:¬ ((q.id:Int)=(p.id:Int)):=by omega
  have hr:withoutS (p.id:Int) r=r:=by
   unfold withoutS
   rw [List.filter_eq_self]
   intro x hx
   simp only [Bool.not_eq_true',decide_eq_false_iff_not]
   intro e
   exact hn.2 (List.mem_map.2 ⟨x,hx,by omega⟩)
  unfold withS
  split
  ·simp only [withoutS,List.filter_cons,decide_true,Bool.not_true,Bool.false_eq_true,if_false,hq,decide_false,Bool.not_false,if_true] at hr ⊢
   rw [hr]
  ·have ih:=without_with (p:=p) hn.2
   simp only [withoutS,List.filter_cons,hq,decide_false,Bool.not_false,if_true] at ih ⊢
   rw [ih]
theorem un_with {ps:List PatchD} {t:List UInt8} {p:PatchD} (h:Set1 ps) (hl:Lets ps t p):UnS (withS p ps) (p.id:Int) 0 ps:=by
 refine .inr ⟨p,withS_mem.2 (.inl rfl),rfl,.inr ⟨fun x hx hne hr=>?_,rfl,(without_with hl.out).symm⟩⟩
 have hxp:x∈ps:=(withS_mem.1 hx).elim (fun e=>absurd (by rw [e]) hne) id
 refine hl.out (hr (fun n=>n∈ps.map PatchD.id) (List.mem_map.2 ⟨x,hxp,rfl⟩) fun m n q hm hq hqi hn=>?_)
 have hqp:q∈ps:=(withS_mem.1 hq).elim (fun e=>by subst e;subst hqi;exact absurd hm hl.out) id
 exact h.inv.needs q hqp n hn
theorem names_ref {p:PatchD} {r:RefD} {k:Nat} (h:namesS p r k=true):r.p=0∨r.p=p.id∨r.p∈p.needs:=by
 unfold namesS at h
 simp only [Bool.or_eq_true,Bool.and_eq_true,decide_eq_true_eq,List.any_eq_true] at h
 rcases h with (h | h) | ⟨n,hn,e⟩
 ·exact .inl h
 ·exact .inr (.inl h.1)
 ·exact .inr (.inr (e ▸ hn))
theorem ref_of {p:PatchD} (hf:formedS p=true) {c:ChangeD} (hc:c∈p.changes):(c.up.p=0∨c.up.p=p.id∨c.up.p∈p.needs)∧(c.kind=2∨c.down.p=0∨c.down.p=p.id∨c.down.p∈p.needs):=by
 unfold formedS at hf
 rw [Bool.and_eq_true,List.all_eq_true,List.all_eq_true] at hf
 obtain ⟨k,hk,e⟩:=List.getElem_of_mem hc
 have h1:=hf.2 k (List.mem_range.2 hk)
 unfold changeOk at h1
 rw [List.getElem?_eq_getElem hk,e] at h1
 simp only [Bool.and_eq_true,Bool.or_eq_true,decide_eq_true_eq] at h1
 exact ⟨names_ref h1.1.1.1,h1.1.1.2.imp id names_ref⟩
theorem went_un {ps ps':List PatchD} {q:Int} (h:Set1 ps) (hu:UnS ps q 0 ps'):∃ p∈ps,(p.id:Int)=q∧Set1 ps'∧Lets ps' (textS p) p∧withS p ps'=ps:=by
 have hinv:=inv_un h.inv hu
 rcases hu with ⟨_,e,_⟩ | ⟨p,hp,hq,⟨_,e,_⟩ | ⟨hno,_,rfl⟩⟩
 ·cases e
 ·cases e
 have hm:∀ x,x∈withoutS q ps↔x∈ps∧x≠p:=fun x=>by
  unfold withoutS
  rw [List.mem_filter]
  simp only [Bool.not_eq_true',decide_eq_false_iff_not]
  constructor
  ·rintro ⟨h1,h2⟩
   exact ⟨h1,fun e=>h2 (by rw [e];exact hq)⟩
  ·rintro ⟨h1,h2⟩
   exact ⟨h1,fun e=>h2 (ids_inj h.inv.nodup h1 hp (by omega))⟩
 have hself:p.id∉p.needs:=fun hn=>h.inv.acyc p hp ⟨p.id,hn,.refl⟩
 have hnl:∀ x∈ps,p.id∉x.needs:=fun x hx hn=>by
  by_cases e:x.id=p.id
  ·have:=ids_inj h.inv.nodup hx hp e
   subst this;exact hself hn
  ·exact hno x hx e (.step .refl hx rfl hn)
 have hout:p.id∉(withoutS q ps).map PatchD.id:=fun hn=>by
  obtain ⟨x,hx,e⟩:=List.mem_map.1 hn
  obtain ⟨h1,h2⟩:=(hm x).1 hx
  exact h2 (ids_inj h.inv.nodup h1 hp e)
 have hrise:Rise (withoutS q ps):=List.Pairwise.sublist (List.filter_sublist.map PatchD.id) h.rise
 have hback:withS p (withoutS q ps)=ps:=rise_ext (rise_with hrise hout) h.rise fun x=>by
  rw [withS_mem,hm]
  constructor
  ·rintro (e | e)
   ·subst e;exact hp
   ·exact e.1
  ·intro e
   by_cases e':x=p
   ·exact .inl e'
   ·exact .inr ⟨e,e'⟩
 have keep:∀ r,has2 ps r→(r.p=0∨r.p≠p.id)→has2 (withoutS q ps) r:=fun r hr hn=>by
  rcases hn with e | e
  ·exact .inl e
  ·exact has2_mono hr fun y hy ey=>(hm y).2 ⟨hy,fun e'=>e (by rw [ey,e'])⟩
 have far:∀ x∈ps,x≠p→∀ n,(n=0∨n=x.id∨n∈x.needs)→n=0∨n≠p.id:=fun x hx hne n hn=>by
  rcases hn with e | e | e
  ·exact .inl e
  ·exact .inr fun e'=>hne (ids_inj h.inv.nodup hx hp (by rw [← e,e']))
  ·exact .inr fun e'=>hnl x hx (e' ▸ e)
 have hlin:Lin (withoutS q ps):=fun x hx c hc=>by
  obtain ⟨h1,h2⟩:=(hm x).1 hx
  obtain ⟨_,_,hf⟩:=h.inv.fine x h1
  obtain ⟨r1,r2⟩:=ref_of hf hc
  obtain ⟨l1,l2⟩:=h.lin x h1 c hc
  refine ⟨keep _ l1 (far x h1 h2 _ r1),?_⟩
  rcases l2 with e | l2
  ·exact .inl e
  ·rcases r2 with e | r2
   ·exact .inl e
   ·exact .inr (keep _ l2 (far x h1 h2 _ r2))
 obtain ⟨t,ht,hf⟩:=h.inv.fine p hp
 refine ⟨p,hp,hq,⟨hinv,hrise,hlin⟩,⟨by rw [parse_text ht];exact ht,hf,hout,fun n hn=>?_,fun c hc=>?_,?_,?_⟩,hback⟩
 ·obtain ⟨y,hy,e⟩:=List.mem_map.1 (h.inv.needs p hp n hn)
  refine List.mem_map.2 ⟨y,(hm y).2 ⟨hy,fun e'=>?_⟩,e⟩
  rw [e'] at e;exact hself (e ▸ hn)
 ·have up:∀ r,has2 ps r→has2 (withoutS q ps++[p]) r:=fun r hr=>has2_mono hr fun y hy _=>by
   rw [List.mem_append]
   by_cases e:y=p
   ·exact .inr (by simp [e])
   ·exact .inl ((hm y).2 ⟨hy,e⟩)
  obtain ⟨l1,l2⟩:=h.lin p hp c hc
  exact ⟨up _ l1,l2.imp id (up _)⟩
 ·have:=withS_len p (withoutS q ps)
  rw [hback] at this
  have:=h.inv.len
  omega
 ·have:=linesS_with p (withoutS q ps)
  rw [hback] at this
  have:=h.inv.lines
  rw [← lines_snoc,List.length_append]
  omega
theorem clash_no {A B:List PatchD} (hA:Inv A) (hB:Inv B) (hc:clashS A B=false) {p q:PatchD} (hp:p∈A) (hq:q∈B) (e:p.id=q.id):p=q:=by
 unfold clashS at hc
 rw [List.any_eq_false] at hc
 have h1:=hc q hq
 unfold clash1 at h1
 rw [← e,findS_of hA.nodup hp] at h1
 have h2:textS p=textS q:=by simpa using h1
 obtain ⟨t,ht,_⟩:=hA.fine p hp
 obtain ⟨t',ht',_⟩:=hB.fine q hq
 exact text_inj ht ht' h2
theorem set_pull {A B:List PatchD} (hA:Set1 A) (hB:Set1 B):Set1 (pullS A B).2:=by
 have hinv:=inv_pull hA.inv hB.inv
 unfold pullS at hinv ⊢
 split
 ·exact hA
 ·rename_i hc
  have hc':clashS A B=false:=by simpa using hc
  split
  ·exact hA
  ·rename_i hs
   rw [if_neg hc,if_neg hs] at hinv
   refine ⟨hinv,rise_join hA.rise hB.inv.nodup,fun p hp c hcc=>?_⟩
   have upA:∀ r,has2 A r→has2 (joinS A B) r:=fun r hr=>has2_mono hr fun q hq _=>join_mem.2 (.inl hq)
   have upB:∀ r,has2 B r→has2 (joinS A B) r:=fun r hr=>has2_mono hr fun q hq _=>by
    cases hf:findS A q.id with
    | none=>exact join_mem.2 (.inr ⟨hq,hf⟩)
    | some o =>
     obtain ⟨h1,h2⟩:=findS_some hf
     have:=clash_no hA.inv hB.inv hc' h1 hq h2
     subst this
     exact join_mem.2 (.inl h1)
   rcases join_mem.1 hp with e | e
   ·obtain ⟨h1,h2⟩:=hA.lin p e c hcc
    exact ⟨upA _ h1,h2.imp id (upA _)⟩
   ·obtain ⟨h1,h2⟩:=hB.lin p e.1 c hcc
    exact ⟨upB _ h1,h2.imp id (upB _)⟩
theorem pull_nil {ps:List PatchD} (h:Set1 ps):pullS [] ps=(0,ps):=by
 have hj:joinS [] ps=ps:=rise_ext (rise_join rise_nil h.inv.nodup) h.rise fun p=>by
  rw [join_mem];simp [findS]
 have hc:clashS [] ps=false:=by
  unfold clashS
  rw [List.any_eq_false]
  intro p _
  simp [clash1,findS]
 have h1:=h.inv.len
 have h2:=h.inv.lines
 unfold pullS
 rw [hj,hc,if_neg (by simp),if_neg (by omega)]
theorem pull_err {A B:List PatchD} (h:(pullS A B).1≠0):(pullS A B).2=A:=by
 unfold pullS at h ⊢
 split
 ·rfl
 ·rename_i hc
  split
  ·rfl
  ·rename_i hs
   rw [if_neg hc,if_neg hs] at h
   exact absurd rfl h
theorem pull_back {A B:List PatchD} (hA:Set1 A) (hB:Set1 B) (h:(pullS A B).1=0):pullS B (pullS A B).2=(0,(pullS A B).2):=by
 have hU:=set_pull hA hB
 unfold pullS at h hU
 split at h
 ·cases h
 rename_i hc
 split at h
 ·cases h
 rename_i hs
 rw [if_neg hc,if_neg hs] at hU
 have hc':clashS A B=false:=by simpa using hc
 have he:pullS A B=(0,joinS A B):=by unfold pullS;rw [if_neg hc,if_neg hs]
 rw [he]
 have same:∀ {p q:PatchD},p∈B→q∈joinS A B→p.id=q.id→p=q:=fun {p q} hp hq e=>by
  rcases join_mem.1 hq with h1 | ⟨h1,_⟩
  ·exact (clash_no hA.inv hB.inv hc' h1 hp e.symm).symm
  ·exact ids_inj hB.inv.nodup hp h1 e
 have hc2:clashS B (joinS A B)=false:=by
  unfold clashS
  rw [List.any_eq_false]
  intro q hq
  unfold clash1
  cases hf:findS B q.id with
  | none=>simp
  | some o =>
   obtain ⟨h1,h2⟩:=findS_some hf
   rw [same h1 hq h2];simp
 have hj:joinS B (joinS A B)=joinS A B:=rise_ext (rise_join hB.rise hU.inv.nodup) hU.rise fun p=>by
  rw [join_mem (A:=B)]
  constructor
  ·rintro (e | e)
   ·cases hf:findS A p.id with
    | none=>exact join_mem.2 (.inr ⟨e,hf⟩)
    | some o =>
     obtain ⟨h1,h2⟩:=findS_some hf
     have:=clash_no hA.inv hB.inv hc' h1 e h2
     subst this
     exact join_mem.2 (.inl h1)
   ·exact e.1
  ·intro e
   cases hf:findS B p.id with
   | none=>exact .inr ⟨e,rfl⟩
   | some o =>
    obtain ⟨h1,h2⟩:=findS_some hf
    rw [← same h1 e h2]
    exact .inl h1
 unfold pullS
 rw [hj,hc2,if_neg (by simp),if_neg hs]
theorem show_fun {ps:List PatchD} {sd sd':Nat→Int} {orx orx':Nat→Bool} (h:NumX ps sd orx) (h':NumX ps sd' orx'):showW (itemsX ps sd orx)=showW (itemsX ps sd' orx'):=by
 obtain ⟨st,hst⟩:=strand_ex (alS ps).length (leadS ps) (blkS ps)
 obtain ⟨orp,hor⟩:=orphan_ex ps (alS ps)
 rw [← show_same hst hor h,← show_same hst hor h']
theorem blank_fun {ps:List PatchD} {sd sd':Nat→Int} {orx orx':Nat→Bool} (h:NumX ps sd orx) (h':NumX ps sd' orx'):blankX ps orx (ordX ps sd)=blankX ps orx' (ordX ps sd'):=by
 obtain ⟨st,hst⟩:=strand_ex (alS ps).length (leadS ps) (blkS ps)
 obtain ⟨orp,hor⟩:=orphan_ex ps (alS ps)
 rw [← clean_same hst hor h,← clean_same hst hor h']
end Go.Proofs.YtlaffgagmncgjabDoor
