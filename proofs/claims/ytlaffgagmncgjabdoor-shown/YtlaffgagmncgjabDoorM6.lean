import Derived.Test.YtlaffgagmncgjabDoorW9
import Derived.Test.YtlaffgagmncgjabDoorT27
namespace Go.Proofs.YtlaffgagmncgjabDoor
open Go Go.Pat Go.Proofs
section
variable {ps:List PatchD} {st:Nat→Nat} {orp orx:Nat→Bool} {sd:Nat→Int}
theorem orx_eq (hor:∀ i l,(alS ps)[i]? = some l→(orp i=true↔Orphan ps l)) (hn:NumX ps sd orx):∀ a,a<(liv (nX ps) (ddX ps)).length→orx (nth (liv (nX ps) (ddX ps)) a)=orp a:=fun a ha=>by
 rw [Bool.eq_iff_iff,hn.orp _ (liv_lt ha).1,hor a _ (alS_get ha)]
theorem shL_mem {s:ShD} (h:s∈shL ps st orp):s.i<(liv (nX ps) (ddX ps)).length∧s=(opOf ps st orp).sh s.i:=by
 obtain ⟨h1,h2⟩:=(opOf ps st orp).to_mem (alS ps).length s h
 rw [alS_length] at h1
 exact ⟨h1,h2⟩
theorem show_same (hst:∀ i,IsStrand (alS ps).length (leadS ps) (blkS ps) i (st i)) (hor:∀ i l,(alS ps)[i]? = some l→(orp i=true↔Orphan ps l)) (hn:NumX ps sd orx):showFull ps st orp=showW (itemsX ps sd orx) :=
 showX_eq hst hn.str (orx_eq hor hn)
theorem clean_same (hst:∀ i,IsStrand (alS ps).length (leadS ps) (blkS ps) i (st i)) (hor:∀ i l,(alS ps)[i]? = some l→(orp i=true↔Orphan ps l)) (hn:NumX ps sd orx):cleanS (shL ps st orp)=blankX ps orx (ordX ps sd):=by
 unfold blankX
 rw [ordX_eq (orp:=orp) hst hn.str,List.all_map]
 show (shL ps st orp).all _=(shL ps st orp).all _
 rw [Bool.eq_iff_iff,List.all_eq_true,List.all_eq_true]
 have key:∀ s∈shL ps st orp,s.mark=markX ps orx (nth (liv (nX ps) (ddX ps)) s.i):=fun s hs=>by
  obtain ⟨h1,h2⟩:=shL_mem hs
  have:s.mark=(opOf ps st orp).mark s.i:=by rw [h2];rfl
  rw [this,opOf_mark (orx_eq hor hn) h1]
 constructor
 ·intro h s hs
  have:=h s hs
  simp only [Function.comp,decide_eq_true_eq] at this ⊢
  rw [← key s hs];exact this
 ·intro h s hs
  have:=h s hs
  simp only [Function.comp,decide_eq_true_eq] at this ⊢
  rw [key s hs];exact this
theorem file_same (hst:∀ i,IsStrand (alS ps).length (leadS ps) (blkS ps) i (st i)) (hn:NumX ps sd orx):(shL ps st orp).map (textAt (alS ps))=fileX ps (ordX ps sd):=by
 unfold fileX
 rw [ordX_eq (orp:=orp) hst hn.str,List.map_map]
 refine List.map_congr_left fun s hs=>?_
 obtain ⟨h1,_⟩:=shL_mem (st:=st) (orp:=orp) hs
 unfold textAt
 rw [alS_get h1];rfl
theorem cred_same (hst:∀ i,IsStrand (alS ps).length (leadS ps) (blkS ps) i (st i)) (hn:NumX ps sd orx):(shL ps st orp).map (nameAt (alS ps))=credX ps (ordX ps sd):=by
 unfold credX
 rw [ordX_eq (orp:=orp) hst hn.str,List.map_map]
 refine List.map_congr_left fun s hs=>?_
 obtain ⟨h1,_⟩:=shL_mem (st:=st) (orp:=orp) hs
 unfold nameAt
 rw [alS_get h1];rfl
end
theorem past_same {ps:List PatchD} (hn:(ps.map PatchD.id).Nodup) (ha:Acyc ps) {p:PatchD} (hp:p∈ps) {f g:Nat→Bool} (hf:∀ n,f n=true↔Past1 ps p n) (hg:∀ n,g n=true↔n≠p.id∧Reach ps p.id n):(idsS ps).filter f=(idsS ps).filter g:=by
 refine List.filter_congr fun n _=>?_
 rw [Bool.eq_iff_iff,hf,hg,reach_iff hn hp]
 constructor
 ·intro h
  refine ⟨fun e=>?_,.inr h⟩
  subst e;exact ha p hp h
 ·rintro ⟨h1,h2 | h2⟩
  ·exact absurd h2 h1
  ·exact h2
end Go.Proofs.YtlaffgagmncgjabDoor
