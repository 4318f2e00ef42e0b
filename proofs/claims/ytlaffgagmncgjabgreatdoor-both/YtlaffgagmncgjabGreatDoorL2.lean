import Derived.Test.YtlaffgagmncgjabGreatDoorP8
import Derived.Test.YtlaffgagmncgjabGreatDoorP4
import Derived.Test.YtlaffgagmncgjabGreatDoorL1
import Derived.Test.YtlaffgagmncgjabGreatDoorT25
namespace Go.Proofs.YtlaffgagmncgjabGreatDoor
open Tryz Go Go.Pat Go.Proofs
theorem withS_perm (p:PatchD):∀ ps:List PatchD,(withS p ps).Perm (p::ps)
 | []=>List.Perm.refl _
 | q::r=>by
  unfold withS
  split
  ·exact List.Perm.refl _
  ·exact ((withS_perm p r).cons q).trans (List.Perm.swap p q r)
theorem linesS_with (p:PatchD):∀ ps:List PatchD,(linesS (withS p ps)).length=(linesS ps).length+(linesOfS p).length
 | []=>by simp [withS,linesS]
 | q::r=>by
  have ih:=linesS_with p r
  unfold withS
  unfold linesS at ih ⊢
  split
  ·simp only [List.flatMap_cons,List.length_append];omega
  ·simp only [List.flatMap_cons,List.length_append];omega
theorem inv_with {ps:List PatchD} {p:PatchD} {t:List UInt8} (h:Inv ps) (hp:parseS t=some p) (hf:formedS p=true) (hn:p.id∉ps.map PatchD.id) (hneed:∀ n∈p.needs,n∈ps.map PatchD.id) (hl:ps.length<20) (hlin:(linesS ps++linesOfS p).length≤90):Inv (withS p ps):=by
 have hperm:=withS_perm p ps
 have hmem:∀ x,x∈withS p ps↔x=p∨x∈ps:=fun x=>by rw [hperm.mem_iff];simp
 have hnd:((withS p ps).map PatchD.id).Nodup:=by
  rw [(hperm.map PatchD.id).nodup_iff,List.map_cons,List.nodup_cons]
  exact ⟨hn,h.nodup⟩
 refine ⟨fun x hx=>?_,hnd,?_,fun x hx n hnx=>?_,?_,h.acyc.push hnd hmem h.needs hneed hn,rise_with h.rise hn⟩
 ·rcases (hmem x).1 hx with rfl | e
  ·exact ⟨t,hp,hf⟩
  ·exact h.fine x e
 ·rw [hperm.length_eq,List.length_cons];omega
 ·rw [(hperm.map PatchD.id).mem_iff,List.map_cons]
  refine List.mem_cons_of_mem _ ?_
  rcases (hmem x).1 hx with rfl | e
  ·exact hneed n hnx
  ·exact h.needs x e n hnx
 ·rw [linesS_with]
  rw [List.length_append] at hlin
  omega
theorem inv_apply {ps:List PatchD} (h:Inv ps) (t:List UInt8):Inv (applyS ps t).2:=by
 unfold applyS
 split
 ·exact h
 ·rename_i p hp
  split
  ·exact h
  ·rename_i hf
   have hf':formedS p=true:=by simpa using hf
   split
   ·split<;>exact h
   ·rename_i hno
    split
    ·exact h
    ·rename_i hne
     split
     ·exact h
     ·split
      ·exact h
      ·rename_i hfull
       refine inv_with h hp hf' (fun hm=>?_) (fun n hn=>?_) (by omega) (by omega)
       ·obtain ⟨q,hq,e⟩:=List.mem_map.1 hm
        rw [List.find?_eq_none] at hno
        exact absurd e (by simpa using hno q hq)
       ·have hne':(p.needs.all fun n=>(ps.map PatchD.id).contains n)=true:=by simpa using hne
        have:=List.all_eq_true.1 hne' n hn
        simpa using this
structure SP where
 (xb mb:Nat) (lv:Value) (l:List PD3) (b:Nat) (bs:List Nat)
def SP.ps (s:SP):List PatchD:=s.l.map PD3.p
structure PairOK (F:Nat→Prop) (h:Heap) (s:SP):Prop where
 x:Blk h s.xb [s.lv] 81
 xs:XS F h s.lv s.l
 m:Blk h s.mb [.pointer (some ⟨s.b,0,none⟩)] 108
 sa:SA F h s.b s.bs s.ps
 inv:Inv s.ps
theorem PairOK.fr {F S:Nat→Prop} {h h':Heap} {s:SP} (p:PairOK F h s) (f:Fr S h h') (hx:¬ S s.xb) (hm:¬ S s.mb) (hs:∀ k,F k→¬ S k):PairOK F h' s :=
 ⟨p.x.fr f hx,p.xs.fr f hs,p.m.fr f hm,p.sa.fr f hs,p.inv⟩
theorem PairOK.mono {F F':Nat→Prop} {h:Heap} {s:SP} (p:PairOK F h s) (hs:∀ k,F k→F' k):PairOK F' h s:=⟨p.x,p.xs.mono hs,p.m,p.sa.mono hs,p.inv⟩
theorem Own.blk {h:Heap} {e:TypeId} {v:Value} {n:Nat} {xs:List Value} (x:Own h e 1 v n xs):(v = .slice none 0 0∧n=0)∨∃ g cap cs,v = .slice (some ⟨g,0,none⟩) n cap∧Blk h g cs e∧cs.length=cap∧n≤cap∧cap≤maxLen:=by
 rcases x.2 with h1 | ⟨g,cap,cur,h1,h2,h3,h4,h5,_⟩
 ·exact .inl h1
 ·refine .inr ⟨g,cap,cur.toList,h1,?_,by simpa using h5,h3,h4⟩
  simpa [Blk] using h2
end Go.Proofs.YtlaffgagmncgjabGreatDoor
