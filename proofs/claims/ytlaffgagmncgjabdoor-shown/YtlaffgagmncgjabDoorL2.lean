import Derived.Test.YtlaffgagmncgjabDoorP8
import Derived.Test.YtlaffgagmncgjabDoorP4
import Derived.Test.YtlaffgagmncgjabDoorL1
import Derived.Test.YtlaffgagmncgjabDoorT25
namespace Go.Proofs.YtlaffgagmncgjabDoor
open Go Go.Pat Go.Proofs
theorem withS_perm (p:PatchD):∀ ps:List PatchD,(withS p ps).Perm (p::ps)
 | []=>List.Perm.refl _
 | q::r=>by
  unfold withS
  split
  ·exact List.Perm.refl _
  ·exact ((withS_perm p r).cons q).trans (List.Perm.swap p q r)
theorem linesS_with (p:PatchD):∀ ps:List PatchD,(linesS (withS p ps)).length=(linesS ps).length+(linesOfS p).length
 | []=>by simp [withS,linesS]
 | q::r=>by
  have ih:=linesS_with p r
  unfold withS
  unfold linesS at ih ⊢
  split
  ·simp only [List.flatMap_cons,List.length_append];omega
  ·simp only [List.flatMap_cons,List.length_append];omega
theorem inv_with {ps:List PatchD} {p:PatchD} {t:List UInt8} (h:Inv ps) (hp:parseS t=some p) (hf:formedS p=true) (hn:p.id∉ps.map PatchD.id) (hneed:∀ n∈p.needs,n∈ps.map PatchD.id) (hl:ps.length<20) (hlin:(linesS ps++linesOfS p).length≤90):Inv (withS p ps):=by
 have hperm:=withS_perm p ps
 have hmem:∀ x,x∈withS p ps↔x=p∨x∈ps:=fun x=>by rw [hperm.mem_iff];simp
 have hnd:((withS p ps).map PatchD.id).Nodup:=by
  rw [(hperm.map PatchD.id).nodup_iff,List.map_cons,List.nodup_cons]
  exact ⟨hn,h.nodup⟩
 refine ⟨fun x hx=>?_,hnd,?_,fun x hx n hnx=>?_,?_,h.acyc.push hnd hmem h.needs hneed hn,rise_with h.rise hn⟩
 ·rcases (hmem x).1 hx with rfl | e
  ·exact ⟨t,hp,hf⟩
  ·exact h.fine x e
 ·rw [hperm.length_eq,List.length_cons];omega
 ·rw [(hperm.map PatchD.id).mem_iff,List.map_cons]
  refine List.mem_cons_of_mem _ ?_
  rcases (hmem x).1 hx with rfl | e
  ·exact hneed n hnx
  ·exact h.needs x e n hnx
 ·rw [linesS_with]
  rw [List.length_append] at hlin
  omega
theorem inv_apply {ps:List PatchD} (h:Inv ps) (t:List UInt8):Inv (applyS ps t).2:=by
 unfold applyS
 split
 ·exact h
 ·rename_i p hp
  split
  ·exact h
  ·rename_i hf
   have hf':formedS p=true:=by simpa using hf
   split
   ·split<;>exact h
   ·rename_i hno
    split
    ·exact h
    ·rename_i hne
     split
     ·exact h
     ·split
      ·exact h
      ·rename_i hfull
       refine inv_with h hp hf' (fun hm=>?_) (fun n hn=>?_) (by omega) (by omega)
       ·obtain ⟨q,hq,e⟩:=List.mem_map.1 hm
        rw [List.find?_eq_none] at hno
        exact absurd e (by simpa using hno q hq)
       ·have hne':(p.needs.all fun n=>(ps.map PatchD.id).contains n)=true:=by simpa using hne
        have:=List.all_eq_true.1 hne' n hn
        simpa using this
theorem linesS_filter (f:PatchD→Bool) (l:List PatchD):(linesS (l.filter f)).length≤(linesS l).length:=by
 induction l with
 | nil=>simp
 | cons x l ih =>
  unfold linesS at ih ⊢
  by_cases h:f x=true
  ·simp only [List.filter_cons,h,if_true,List.flatMap_cons,List.length_append];omega
  ·simp only [List.filter_cons,h,if_false,List.flatMap_cons,List.length_append,Bool.false_eq_true];omega
theorem inv_un {ps ps':List PatchD} {q:Int} {e:Nat} (h:Inv ps) (hu:UnS ps q e ps'):Inv ps':=by
 rcases hu with ⟨_,_,rfl⟩ | ⟨p0,hp0,hq,⟨_,_,rfl⟩ | ⟨hno,_,rfl⟩⟩
 ·exact h
 ·exact h
 ·have hsub:(withoutS q ps).Sublist ps:=List.filter_sublist
  have hm:∀ x,x∈withoutS q ps→x∈ps∧¬ (x.id:Int)=q:=fun x hx=>by
   have:=List.mem_filter.1 hx
   exact ⟨this.1,by simpa using this.2⟩
  refine ⟨fun x hx=>h.fine x (hm x hx).1,(hsub.map PatchD.id).nodup h.nodup,by have:=hsub.length_le;have:=h.len;omega,fun x hx n hn=>?_,?_,h.acyc.sub fun x hx=>(hm x hx).1,List.Pairwise.sublist (hsub.map PatchD.id) h.rise⟩
  ·obtain ⟨hx1,hx2⟩:=hm x hx
   have hn0:=h.needs x hx1 n hn
   obtain ⟨y,hy,e⟩:=List.mem_map.1 hn0
   refine List.mem_map.2 ⟨y,List.mem_filter.2 ⟨hy,?_⟩,e⟩
   simp only [Bool.not_eq_true',decide_eq_false_iff_not]
   intro e2
   have hyid:y.id=p0.id:=by omega
   exact hno x hx1 (by omega) (.step .refl hx1 rfl (by rw [← hyid,e];exact hn))
  ·have:=linesS_filter (fun p=>!decide ((p.id:Int)=q)) ps
   have:=h.lines
   show (linesS (ps.filter fun p=>!decide ((p.id:Int)=q))).length≤90
   omega
theorem un_fun {ps ps1 ps2:List PatchD} {q:Int} {e1 e2:Nat} (hn:(ps.map PatchD.id).Nodup) (h1:UnS ps q e1 ps1) (h2:UnS ps q e2 ps2):e1=e2∧ps1=ps2:=by
 rcases h1 with ⟨a1,rfl,rfl⟩ | ⟨p,hp,hq,h1⟩
 ·rcases h2 with ⟨_,rfl,rfl⟩ | ⟨p',hp',hq',_⟩
  ·exact ⟨rfl,rfl⟩
  ·exact absurd hq' (a1 p' hp')
 ·rcases h2 with ⟨a2,_,_⟩ | ⟨p',hp',hq',h2⟩
  ·exact absurd hq (a2 p hp)
  ·have hid:p.id=p'.id:=by omega
   have:=ids_inj hn hp hp' hid
   subst this
   rcases h1 with ⟨⟨x,hx,hxe,hxr⟩,rfl,rfl⟩ | ⟨hno,rfl,rfl⟩
   ·rcases h2 with ⟨_,rfl,rfl⟩ | ⟨hno2,_,_⟩
    ·exact ⟨rfl,rfl⟩
    ·exact absurd hxr (hno2 x hx hxe)
   ·rcases h2 with ⟨⟨x,hx,hxe,hxr⟩,_,_⟩ | ⟨_,rfl,rfl⟩
    ·exact absurd hxr (hno x hx hxe)
    ·exact ⟨rfl,rfl⟩
theorem tx_fun {ps:List PatchD} {q:Int} {t1 t2:List UInt8} {e1 e2:Nat} (hn:(ps.map PatchD.id).Nodup) (h1:TxS ps q t1 e1) (h2:TxS ps q t2 e2):t1=t2∧e1=e2:=by
 rcases h1 with ⟨p,hp,hq,rfl,rfl⟩ | ⟨a1,rfl,rfl⟩
 ·rcases h2 with ⟨p',hp',hq',rfl,rfl⟩ | ⟨a2,_,_⟩
  ·have:=ids_inj hn hp hp' (by omega)
   subst this;exact ⟨rfl,rfl⟩
  ·exact absurd hq (a2 p hp)
 ·rcases h2 with ⟨p',hp',hq',_,_⟩ | ⟨_,rfl,rfl⟩
  ·exact absurd hq' (a1 p' hp')
  ·exact ⟨rfl,rfl⟩
structure SP where
 (xb mb:Nat) (lv:Value) (l:List PD3) (b:Nat) (bs:List Nat)
def SP.ps (s:SP):List PatchD:=s.l.map PD3.p
theorem show_short {ps:List PatchD} (hg:Good ps) {st:Nat→Nat} {orp:Nat→Bool}:∀ t∈showFull ps st orp,t.length≤1000:=by
 intro t ht
 unfold showFull showTo at ht
 obtain ⟨k,hk,hs⟩:=List.mem_flatMap.1 ht
 unfold showAt at hs
 split at hs
 ·rename_i s e
  have hm:=(opOf ps st orp).to_mem _ s (List.mem_of_getElem? e)
  rcases List.mem_append.1 hs with h | h
  ·unfold preP at h
   split at h
   ·simp at h;subst h;simp
   ·split at h
    ·simp at h;subst h;simp
    ·simp at h
  ·rcases List.mem_cons.1 h with h | h
   ·subst h
    unfold lineT
    rw [List.getElem?_eq_getElem hm.1]
    obtain ⟨p,hp,_,c,hc,e⟩:=linesS_mem (alS_mem (List.getElem_mem hm.1))
    have:=((hg.ok p hp).changes c hc).text
    simp only [List.length_cons]
    rw [e];omega
   ·unfold preQ at h
    split at h
    ·simp at h;subst h;simp
    ·simp at h
 ·simp at hs
structure IVO where
 (i:Nat) (v:Value) (out:List (List UInt8))
theorem Own.blk {h:Heap} {e:TypeId} {v:Value} {n:Nat} {xs:List Value} (x:Own h e 1 v n xs):(v = .slice none 0 0∧n=0)∨∃ g cap cs,v = .slice (some ⟨g,0,none⟩) n cap∧Blk h g cs e∧cs.length=cap∧n≤cap∧cap≤maxLen:=by
 rcases x.2 with h1 | ⟨g,cap,cur,h1,h2,h3,h4,h5,_⟩
 ·exact .inl h1
 ·refine .inr ⟨g,cap,cur.toList,h1,?_,by simpa using h5,h3,h4⟩
  simpa [Blk] using h2
end Go.Proofs.YtlaffgagmncgjabDoor
