import Derived.Test.YtlaffgagmncgjaaGreatDoorP8
import Derived.Test.YtlaffgagmncgjaaGreatDoorP4
import Derived.Test.YtlaffgagmncgjaaGreatDoorL1
import Derived.Test.YtlaffgagmncgjaaGreatDoorT25
set_option maxRecDepth 20000
namespace Go.Proofs.YtlaffgagmncgjaaGreatDoor
open Tryz Go Go.Pat Go.Proofs
theorem plain_applied:Plain Tryz.prog 19:=⟨_,func19,by decide +kernel,by rfl⟩
theorem plain_unapplied:Plain Tryz.prog 27:=⟨_,func27,by decide +kernel,by rfl⟩
theorem plain_mApply:Plain Tryz.prog 34:=⟨_,func34,by decide +kernel,by rfl⟩
theorem plain_mUnapply:Plain Tryz.prog 61:=⟨_,func61,by decide +kernel,by rfl⟩
theorem plain_mLog:Plain Tryz.prog 44:=⟨_,func44,by decide +kernel,by rfl⟩
theorem withS_perm (p:PatchD):∀ ps:List PatchD,(withS p ps).Perm (p::ps)
 | []=>List.Perm.refl _
 | q::r=>by
  unfold withS
  split
  ·exact List.Perm.refl _
  ·exact ((withS_perm p r).cons q).trans (List.Perm.swap p q r)
theorem linesS_with (p:PatchD):∀ ps:List PatchD,(linesS (withS p ps)).length=(linesS ps).length+(linesOfS p).length
 | []=>by simp [withS,linesS]
 | q::r=>by
  have ih:=linesS_with p r
  unfold withS
  unfold linesS at ih ⊢
  split
  ·simp only [List.flatMap_cons,List.length_append];omega
  ·simp only [List.flatMap_cons,List.length_append];omega
theorem inv_with {ps:List PatchD} {p:PatchD} {t:List UInt8} (h:Inv ps) (hp:parseS t=some p) (hf:formedS p=true) (hn:p.id∉ps.map PatchD.id) (hneed:∀ n∈p.needs,n∈ps.map PatchD.id) (hl:ps.length<20) (hlin:(linesS ps++linesOfS p).length≤90):Inv (withS p ps):=by
 have hperm:=withS_perm p ps
 have hmem:∀ x,x∈withS p ps↔x=p∨x∈ps:=fun x=>by rw [hperm.mem_iff];simp
 have hnd:((withS p ps).map PatchD.id).Nodup:=by
  rw [(hperm.map PatchD.id).nodup_iff,List.map_cons,List.nodup_cons]
  exact ⟨hn,h.nodup⟩
 refine ⟨fun x hx=>?_,hnd,?_,fun x hx n hnx=>?_,?_,h.acyc.push hnd hmem h.needs hneed hn,rise_with h.rise hn⟩
 ·rcases (hmem x).1 hx with rfl | e
  ·exact ⟨t,hp,hf⟩
  ·exact h.fine x e
 ·rw [hperm.length_eq,List.length_cons];omega
 ·rw [(hperm.map PatchD.id).mem_iff,List.map_cons]
  refine List.mem_cons_of_mem _ ?_
  rcases (hmem x).1 hx with rfl | e
  ·exact hneed n hnx
  ·exact h.needs x e n hnx
 ·rw [linesS_with]
  rw [List.length_append] at hlin
  omega
theorem inv_apply {ps:List PatchD} (h:Inv ps) (t:List UInt8):Inv (applyS ps t).2:=by
 unfold applyS
 split
 ·exact h
 ·rename_i p hp
  split
  ·exact h
  ·rename_i hf
   have hf':formedS p=true:=by simpa using hf
   split
   ·split<;>exact h
   ·rename_i hno
    split
    ·exact h
    ·rename_i hne
     split
     ·exact h
     ·split
      ·exact h
      ·rename_i hfull
       refine inv_with h hp hf' (fun hm=>?_) (fun n hn=>?_) (by omega) (by omega)
       ·obtain ⟨q,hq,e⟩:=List.mem_map.1 hm
        rw [List.find?_eq_none] at hno
        exact absurd e (by simpa using hno q hq)
       ·have hne':(p.needs.all fun n=>(ps.map PatchD.id).contains n)=true:=by simpa using hne
        have:=List.all_eq_true.1 hne' n hn
        simpa using this
theorem linesS_filter (f:PatchD→Bool) (l:List PatchD):(linesS (l.filter f)).length≤(linesS l).length:=by
 induction l with
 | nil=>simp
 | cons x l ih =>
  unfold linesS at ih ⊢
  by_cases h:f x=true
  ·simp only [List.filter_cons,h,if_true,List.flatMap_cons,List.length_append];omega
  ·simp only [List.filter_cons,h,if_false,List.flatMap_cons,List.length_append,Bool.false_eq_true];omega
theorem inv_un {ps ps':List PatchD} {q:Int} {e:Nat} (h:Inv ps) (hu:UnS ps q e ps'):Inv ps':=by
 rcases hu with ⟨_,_,rfl⟩ | ⟨p0,hp0,hq,⟨_,_,rfl⟩ | ⟨hno,_,rfl⟩⟩
 ·exact h
 ·exact h
 ·have hsub:(withoutS q ps).Sublist ps:=List.filter_sublist
  have hm:∀ x,x∈withoutS q ps→x∈ps∧¬ (x.id:Int)=q:=fun x hx=>by
   have:=List.mem_filter.1 hx
   exact ⟨this.1,by simpa using this.2⟩
  refine ⟨fun x hx=>h.fine x (hm x hx).1,(hsub.map PatchD.id).nodup h.nodup,by have:=hsub.length_le;have:=h.len;omega,fun x hx n hn=>?_,?_,h.acyc.sub fun x hx=>(hm x hx).1,List.Pairwise.sublist (hsub.map PatchD.id) h.rise⟩
  ·obtain ⟨hx1,hx2⟩:=hm x hx
   have hn0:=h.needs x hx1 n hn
   obtain ⟨y,hy,e⟩:=List.mem_map.1 hn0
   refine List.mem_map.2 ⟨y,List.mem_filter.2 ⟨hy,?_⟩,e⟩
   simp only [Bool.not_eq_true',decide_eq_false_iff_not]
   intro e2
   have hyid:y.id=p0.id:=by omega
   exact hno x hx1 (by omega) (.step .refl hx1 rfl (by rw [← hyid,e];exact hn))
  ·have:=linesS_filter (fun p=>!decide ((p.id:Int)=q)) ps
   have:=h.lines
   show (linesS (ps.filter fun p=>!decide ((p.id:Int)=q))).length≤90
   omega
theorem un_fun {ps ps1 ps2:List PatchD} {q:Int} {e1 e2:Nat} (hn:(ps.map PatchD.id).Nodup) (h1:UnS ps q e1 ps1) (h2:UnS ps q e2 ps2):e1=e2∧ps1=ps2:=by
 rcases h1 with ⟨a1,rfl,rfl⟩ | ⟨p,hp,hq,h1⟩
 ·rcases h2 with ⟨_,rfl,rfl⟩ | ⟨p',hp',hq',_⟩
  ·exact ⟨rfl,rfl⟩
  ·exact absurd hq' (a1 p' hp')
 ·rcases h2 with ⟨a2,_,_⟩ | ⟨p',hp',hq',h2⟩
  ·exact absurd hq (a2 p hp)
  ·have hid:p.id=p'.id:=by omega
   have:=ids_inj hn hp hp' hid
   subst this
   rcases h1 with ⟨⟨x,hx,hxe,hxr⟩,rfl,rfl⟩ | ⟨hno,rfl,rfl⟩
   ·rcases h2 with ⟨_,rfl,rfl⟩ | ⟨hno2,_,_⟩
    ·exact ⟨rfl,rfl⟩
    ·exact absurd hxr (hno2 x hx hxe)
   ·rcases h2 with ⟨⟨x,hx,hxe,hxr⟩,_,_⟩ | ⟨_,rfl,rfl⟩
    ·exact absurd hxr (hno x hx hxe)
    ·exact ⟨rfl,rfl⟩
structure SP where
 (xb mb:Nat) (lv:Value) (l:List PD3) (b:Nat) (bs:List Nat)
def SP.ps (s:SP):List PatchD:=s.l.map PD3.p
structure PairOK (F:Nat→Prop) (h:Heap) (s:SP):Prop where
 x:Blk h s.xb [s.lv] 55
 xs:XS F h s.lv s.l
 m:Blk h s.mb [.pointer (some ⟨s.b,0,none⟩)] 61
 sa:SA F h s.b s.bs s.ps
 inv:Inv s.ps
theorem PairOK.fr {F S:Nat→Prop} {h h':Heap} {s:SP} (p:PairOK F h s) (f:Fr S h h') (hx:¬ S s.xb) (hm:¬ S s.mb) (hs:∀ k,F k→¬ S k):PairOK F h' s :=
 ⟨p.x.fr f hx,p.xs.fr f hs,p.m.fr f hm,p.sa.fr f hs,p.inv⟩
theorem PairOK.mono {F F':Nat→Prop} {h:Heap} {s:SP} (p:PairOK F h s) (hs:∀ k,F k→F' k):PairOK F' h s:=⟨p.x,p.xs.mono hs,p.m,p.sa.mono hs,p.inv⟩
def AfterP (F:Nat→Prop) (h:Heap) (s:SP) (G:List PatchD→Prop) (v:Value) (h':Heap):Prop :=
 v = .bool true∧Fr (fun k=>k=s.xb∨k=s.mb) h h'∧∃ s':SP,s'.xb=s.xb∧s'.mb=s.mb∧PairOK (fun k=>F k∨New h h' k) h' s'∧G s'.ps
theorem applied_ret {F:Nat→Prop} (pb po:Nat) (s:SP) (t:List UInt8) (h:Heap) (c0:cellAt h pb (po+0)=some (.pointer (some ⟨s.xb,0,none⟩))) (c1:cellAt h pb (po+1)=some (.pointer (some ⟨s.mb,0,none⟩))) (hp:PairOK F h s)
  (hFx:∀ k,F k→k≠s.xb) (hFm:∀ k,F k→k≠s.mb) (hxm:s.xb≠s.mb) (hpx:pb≠s.xb) (htab:Tab10 h) (hl:t.length≤16777216) :
  Ret Tryz.prog 19 #[.pointer (some ⟨pb,po,none⟩),.string (str t)] h (AfterP F h s fun qs=>qs=(applyS s.ps t).2):=by
 refine Ret.of_body func19 rfl ntmps19 rfl rfl ?_
 refine zgo ?_
 refine WO.call rfl rfl rfl rfl plain_xApply rfl (xApply_ret itoaOK s.xb s.l s.lv t _ htab hp.x hp.xs hFx hp.inv hl) fun v1 h1 ⟨hf1,hv1,lv1,l1,hb1,hs1,hps1⟩=>?_
 subst hv1
 have d1:=hf1.cell hpx c1
 have hm1:=hp.m.fr hf1 (fun e=>hxm e.symm)
 have hsa1:=hp.sa.fr hf1 hFx
 refine zgo ?_
 refine WO.call rfl rfl rfl rfl plain_mApply rfl (mApply_ret s.mb s.b s.bs s.ps t _ hm1 hsa1 hFm hp.inv.good hl) fun v2 h2 ⟨hf2,hv2,b2,bs2,hb2,hs2⟩=>?_
 subst hv2
 refine zgo ?_
 have hlx:=hp.x.lt
 have hlm:=hp.m.lt
 have hz1:=hf1.size
 refine Runs.ret func19 (ret1 results19 rfl) ⟨by simp [SP.ps],(hf1.mono fun k _ e=>.inl e).trans (hf2.mono fun k _ e=>.inr e),⟨s.xb,s.mb,lv1,l1,b2,bs2⟩,rfl,rfl,?_,hps1⟩
 refine ⟨hb1.fr hf2 hxm,?_,hb2,?_,?_⟩
 ·refine (hs1.fr hf2 fun k hk e=>?_).mono fun k e=>?_
  ·rcases hk with hk | hk
   ·exact hFm k hk e
   ·have:=hk.1;omega
  ·rcases e with e | e
   ·exact .inl e
   ·exact .inr (e.up hf2)
 ·show SA _ _ _ _ (l1.map PD3.p)
  rw [hps1]
  refine hs2.mono fun k e=>?_
  rcases e with e | e
  ·exact .inl e
  ·exact .inr (e.dn hf1)
 ·show Inv (l1.map PD3.p)
  rw [hps1];exact inv_apply hp.inv t
theorem unapplied_ret {F:Nat→Prop} (pb po:Nat) (s:SP) (q:Int) (h:Heap) (c0:cellAt h pb (po+0)=some (.pointer (some ⟨s.xb,0,none⟩))) (c1:cellAt h pb (po+1)=some (.pointer (some ⟨s.mb,0,none⟩))) (hp:PairOK F h s)
  (hFx:∀ k,F k→k≠s.xb) (hFm:∀ k,F k→k≠s.mb) (hxm:s.xb≠s.mb) (hpx:pb≠s.xb) :
  Ret Tryz.prog 27 #[.pointer (some ⟨pb,po,none⟩),.int .i64 q] h (AfterP F h s fun _=>True):=by
 refine Ret.of_body func27 rfl ntmps27 rfl rfl ?_
 refine zgo ?_
 refine WO.call rfl rfl rfl rfl plain_xUnapply rfl (xUnapply_ret s.xb s.l s.lv q _ hp.x hp.xs hFx hp.inv) fun v1 h1 ⟨e1,ps1,hu1,hf1,hv1,lv1,l1,hb1,hs1,hps1⟩=>?_
 subst hv1
 have d1:=hf1.cell hpx c1
 have hm1:=hp.m.fr hf1 (fun e=>hxm e.symm)
 have hsa1:=hp.sa.fr hf1 hFx
 refine zgo ?_
 refine WO.call rfl rfl rfl rfl plain_mUnapply rfl (mUnapply_ret s.mb s.b s.bs s.ps q _ hm1 hsa1 hFm hp.inv.good hp.inv.closed) fun v2 h2 ⟨e2,ps2,hu2,hf2,hv2,b2,bs2,hb2,hs2⟩=>?_
 subst hv2
 obtain ⟨he,hpe⟩:=un_fun hp.inv.nodup hu1 hu2
 subst he hpe
 refine zgo ?_
 have hlx:=hp.x.lt
 have hlm:=hp.m.lt
 have hz1:=hf1.size
 refine Runs.ret func27 (ret1 results27 rfl) ⟨by simp,(hf1.mono fun k _ e=>.inl e).trans (hf2.mono fun k _ e=>.inr e),⟨s.xb,s.mb,lv1,l1,b2,bs2⟩,rfl,rfl,?_,trivial⟩
 refine ⟨hb1.fr hf2 hxm,?_,hb2,?_,?_⟩
 ·refine (hs1.fr hf2 fun k hk e=>?_).mono fun k e=>?_
  ·rcases hk with hk | hk
   ·exact hFm k hk e
   ·have:=hk.1;omega
  ·rcases e with e | e
   ·exact .inl e
   ·exact .inr (e.up hf2)
 ·show SA _ _ _ _ (l1.map PD3.p)
  rw [hps1]
  refine hs2.mono fun k e=>?_
  rcases e with e | e
  ·exact .inl e
  ·exact .inr (e.dn hf1)
 ·show Inv (l1.map PD3.p)
  rw [hps1];exact inv_un hp.inv hu1
theorem Own.blk {h:Heap} {e:TypeId} {v:Value} {n:Nat} {xs:List Value} (x:Own h e 1 v n xs):(v = .slice none 0 0∧n=0)∨∃ g cap cs,v = .slice (some ⟨g,0,none⟩) n cap∧Blk h g cs e∧cs.length=cap∧n≤cap∧cap≤maxLen:=by
 rcases x.2 with h1 | ⟨g,cap,cur,h1,h2,h3,h4,h5,_⟩
 ·exact .inl h1
 ·refine .inr ⟨g,cap,cur.toList,h1,?_,by simpa using h5,h3,h4⟩
  simpa [Blk] using h2
end Go.Proofs.YtlaffgagmncgjaaGreatDoor
