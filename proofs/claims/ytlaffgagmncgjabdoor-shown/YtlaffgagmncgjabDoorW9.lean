import Derived.Test.YtlaffgagmncgjabDoorW5
set_option maxRecDepth 20000
set_option maxHeartbeats 3200000
namespace Go.Proofs.YtlaffgagmncgjabDoor
open Go Go.Pat Go.Proofs
theorem plain_spin:Plain Tryd.prog 71:=⟨_,Tryd.func71,by decide +kernel,by rfl⟩
def wUp (ps:List PatchD) (i:Nat):List WL:=(List.range i).flatMap fun k=>match ps[k]? with
 | some p=>(linesOfS p).map (mkW ps k)
 | none=>[]
theorem wUp_succ {ps:List PatchD} {i:Nat} {p:PatchD} (h:ps[i]? = some p):wUp ps (i+1)=wUp ps i++(linesOfS p).map (mkW ps i):=by
 unfold wUp
 rw [List.range_succ,List.flatMap_append]
 simp [h]
theorem wUp_lines (ps:List PatchD):∀ i,i≤ps.length→(wUp ps i).map WL.l=linesS (ps.take i):=by
 intro i
 induction i with
 | zero=>intro _;simp [wUp,linesS]
 | succ i ih =>
  intro hi
  rw [wUp_succ (List.getElem?_eq_getElem (by omega)),List.map_append,ih (by omega),List.take_succ_eq_append_getElem (by omega)]
  unfold linesS
  rw [List.flatMap_append]
  congr 1
  simp [mkW,Function.comp_def]
theorem wUp_mem {ps:List PatchD}:∀ {i:Nat},i≤ps.length→∀ w∈wUp ps i,∃ (pt:Nat) (p:PatchD),ps[pt]? = some p∧w=mkW ps pt w.l∧w.l.ref.p=p.id:=by
 intro i hi w hw
 unfold wUp at hw
 obtain ⟨k,hk,hw⟩:=List.mem_flatMap.1 hw
 split at hw
 ·rename_i p hp
  obtain ⟨ln,hln,rfl⟩:=List.mem_map.1 hw
  refine ⟨k,p,hp,rfl,?_⟩
  unfold linesOfS linesUp at hln
  obtain ⟨c,_,rfl⟩:=List.mem_map.1 hln
  rfl
 ·simp at hw
def w0X (ps:List PatchD) (k:Nat):WL:=(wUp ps ps.length).getD k (mkW ps 0 ⟨⟨0,0⟩,⟨0,0⟩,⟨0,0⟩,[]⟩)
theorem wlC_range (L:List WL) (d:WL):wlC L=wlsC L.length fun k=>L.getD k d:=by
 have h:(List.range L.length).map (fun k=>L.getD k d)=L:=by
  apply List.ext_getElem (by simp)
  intro i h1 h2
  simp [List.getD_eq_getElem?_getD,h2]
 have h2:wlsC L.length (fun k=>L.getD k d)=wlC ((List.range L.length).map fun k=>L.getD k d):=by simp [wlsC,wlC,List.flatMap_map]
 rw [h2,h]
theorem wUp_len (ps:List PatchD):(wUp ps ps.length).length=nX ps:=by
 have:=wUp_lines ps ps.length (Nat.le_refl _)
 rw [List.take_length] at this
 have h2:=congrArg List.length this
 simpa [nX] using h2
theorem w0X_get {ps:List PatchD} {k:Nat} (hk:k<nX ps):(wUp ps ps.length)[k]? = some (w0X ps k):=by
 have:k<(wUp ps ps.length).length:=by rw [wUp_len];exact hk
 simp [w0X,List.getD_eq_getElem?_getD,this]
theorem w0X_spec {ps:List PatchD} {k:Nat} (hk:k<nX ps):(w0X ps k).l=lnX ps k∧(w0X ps k).dead=ddX ps k∧(w0X ps k).ahead=0∧(w0X ps k).block=0∧(w0X ps k).strand = -1∧∃ p,ps[(w0X ps k).pt]? = some p∧(lnX ps k).ref.p=p.id:=by
 have hg:=w0X_get hk
 obtain ⟨pt,p,hp,he,hid⟩:=wUp_mem (Nat.le_refl _) _ (List.mem_of_getElem? hg)
 have hl:(w0X ps k).l=lnX ps k:=by
  have h1:=wUp_lines ps ps.length (Nat.le_refl _)
  rw [List.take_length] at h1
  have h2:((wUp ps ps.length).map WL.l)[k]? = some (w0X ps k).l:=by rw [List.getElem?_map,hg];rfl
  rw [h1,lnX_get hk] at h2
  simpa using h2.symm
 refine ⟨hl,?_,by rw [he];rfl,by rw [he];rfl,by rw [he];rfl,p,?_,by rw [← hl];exact hid⟩
 ·rw [he]
  show toldB ps (w0X ps k).l.ref=ddX ps k
  unfold ddX
  rw [toldB_live (lnX_get hk),hl,Bool.not_not]
 ·have:(w0X ps k).pt=pt:=by rw [he];rfl
  rw [this];exact hp
theorem lnsOf_w0X (ps:List PatchD):lnsOf (nX ps) (w0X ps)=linesS ps:=by
 apply List.ext_getElem?
 intro k
 by_cases hk:k<nX ps
 ·rw [lnsOf_get hk,(w0X_spec hk).1,lnX_get hk]
 ·have h1:nX ps=(linesS ps).length:=rfl
  rw [List.getElem?_eq_none (by rw [lnsOf_length];omega),List.getElem?_eq_none (by omega)]
structure SPX where
 (i:Nat) (qv lv:Value) (qvs:List Value) (pa:List (List Nat))
structure SPJ (F:Nat→Prop) (h h':Heap) (wb:Nat) (pv:Value) (l:List PD3) (x:SPX):Prop where
 le:x.i≤l.length
 ext:Ext h h'
 blk:Blk h' wb [pv,x.qv,x.lv,.slice none 0 0] 126
 own:Own h' 130 13 x.lv (wUp (l.map PD3.p) x.i).length (wlC (wUp (l.map PD3.p) x.i))
 lvb:∀ k,x.lv.ownBlock=some k→h.size≤k∧k≠wb
 past:Own h' 38 1 x.qv x.i x.qvs
 qvb:∀ k,x.qv.ownBlock=some k→h.size≤k∧k≠wb∧x.lv.ownBlock≠some k
 pal:x.pa.length=x.i
 rows:∀ (j:Nat) (q:List Nat),x.pa[j]? = some q→∃ v,x.qvs[j]? = some v∧Rd h' 1 v q.length (ints q)∧∀ k,v.ownBlock=some k→h.size≤k∧k<h'.size∧k≠wb∧x.lv.ownBlock≠some k∧x.qv.ownBlock≠some k
 spec:∀ (j:Nat) (y:PD3),l[j]? = some y→j<x.i→∃ f:Nat→Bool,(∀ n,f n=true↔Past1 (l.map PD3.p) y.p n)∧x.pa[j]? = some ((idsS (l.map PD3.p)).filter f)
def PaX (ps:List PatchD) (pa:List (List Nat)):Prop:=pa.length=ps.length∧∀ (j:Nat) (p:PatchD),ps[j]? = some p→∃ f:Nat→Bool,(∀ n,f n=true↔Past1 ps p n)∧pa[j]? = some ((idsS ps).filter f)
theorem spin_ret {F:Nat→Prop} (pv:Value) (l:List PD3) (h:Heap) (hs:XS F h pv l) (hF:∀ k,F k→k<h.size) (hinv:Inv (l.map PD3.p)) :
  Ret Tryd.prog 71 #[pv] h fun v h'=>Ext h h'∧∃ (wb:Nat) (G:Nat→Prop) (x:WV) (pa:List (List Nat)) (sd:Nat→Int),v = .pointer (some ⟨wb,0,none⟩)∧PaX (l.map PD3.p) pa∧PI (nX (l.map PD3.p)) (ddX (l.map PD3.p)) (fxX (l.map PD3.p)) (bkX (l.map PD3.p)) (onS (l.map PD3.p)) (nX (l.map PD3.p)) sd∧Web F G h' wb x l pa (nX (l.map PD3.p)) (sdW (doneW (w0X (l.map PD3.p)) (fxX (l.map PD3.p)) (rkX (l.map PD3.p)) (bkX (l.map PD3.p))) sd) (onS (l.map PD3.p)):=by
 refine Ret.of_body Tryd.func71 rfl Tryd.ntmps71 rfl rfl ?_
 obtain ⟨ad,cap,hpvf⟩:=hs.rd.form
 have hll:l.length≤1000:=by have:=hinv.len;simp at this;omega
 have hcl:∀ y∈l,y.p.changes.length≤1000:=fun y hy=>by have:=(hinv.ok (List.mem_map.2 ⟨y,hy,rfl⟩)).len;omega
 have hnl:∀ y∈l,y.p.needs.length≤1000:=fun y hy=>by have:=(hinv.ok (List.mem_map.2 ⟨y,hy,rfl⟩)).nlen;omega
 have hnX:nX (l.map PD3.p)≤90:=hinv.lines
 have hwlen:∀ i,i≤l.length→(wUp (l.map PD3.p) i).length≤nX (l.map PD3.p):=fun i hi=>by
  have e1:=congrArg List.length (wUp_lines (l.map PD3.p) i (by simpa using hi))
  have e2:(linesS ((l.map PD3.p).take i)).length≤(linesS (l.map PD3.p)).length:=by
   conv=>rhs;rw [← List.take_append_drop i (l.map PD3.p)]
   unfold linesS
   rw [List.flatMap_append,List.length_append];omega
  rw [List.length_map] at e1
  unfold nX;omega
 subst hpvf
 refine zgo ?_
 refine WO.box rfl rfl rfl rfl rfl rfl fun h1 hb1 hx1 hs1=>?_
 refine zgo ?_
 refine Runs.loop (X:=SPX) (fun u=>[(0,.slice ad l.length cap),(3,.pointer (some ⟨h.size,0,none⟩)),(4,.int .i64 (u.i:Int))])
  (fun u h'=>SPJ F h h' h.size (.slice ad l.length cap) l u) (fun u=>l.length-u.i) ⟨0,.slice none 0 0,.slice none 0 0,[],[]⟩ ⟨rfl,rfl,rfl,trivial⟩
  ⟨Nat.zero_le _,hx1,hb1,Own.nil _ _ _,fun k hk=>by simp [Value.ownBlock] at hk,Own.nil _ _ _,fun k hk=>by simp [Value.ownBlock] at hk,rfl,fun j q hj=>by simp at hj,fun j y _ hj=>by dsimp only at hj;omega⟩ ?_
 rintro ⟨i,qv,lv,qvs,pa⟩ h2 J ih
 obtain ⟨hi,hx2,hb2,ho2,hlv2,hq2,hqv2,hpal,hrows,hspec⟩:=J
 dsimp only at hi hb2 ho2 hlv2 hq2 hqv2 hpal hrows hspec ih ⊢
 have hz2:=hx2.size
 have hwl:=hb2.lt
 refine zgo ?_
 refine Runs.cond_dec rfl (fun hlt=>?_) (fun hge=>?_)
 ·have hlt':i<l.length:=by omega
  have hget:l[i]? = some l[i]:=List.getElem?_eq_getElem hlt'
  have hmem:l[i]∈l:=List.getElem_mem hlt'
  generalize l[i]=y at *
  have hpm:y.p∈l.map PD3.p:=List.mem_map.2 ⟨y,hmem,rfl⟩
  have hgp:(l.map PD3.p)[i]? = some y.p:=by rw [List.getElem?_map,hget];rfl
  have hs2:=hs.ext hx2
  obtain ⟨b0,p0,cap0,hv0,hyc,hyv⟩:=hs2.get hget
  cases hv0
  have hb0:b0<h.size:=hF b0 (hs.fl b0 rfl)
  have w1:=hb2.cell (j:=1) rfl
  have hS0:cellAt h2 h.size (0+1)=some qv∧Cells h2 b0 (p0+i*3) y.cells:=⟨w1,hyc⟩
  have hql:=hq2.lt
  refine zgo ?_
  refine Runs.drawn (m:=16) (fun h'=>cellAt h' h.size (0+1)=some qv∧Cells h' b0 (p0+i*3) y.cells) (fun i=>Nat.beq i 15) mixed rfl ?_
  refine zp 0 hS0 ?_
  refine zp 1 hS0 ?_
  refine zp 2 hS0 ?_
  refine zp 3 hS0 ?_
  refine zl 4 (fun _ hS=>hS.1) hS0 ?_
  refine zp 5 hS0 ?_
  refine zp 6 hS0 ?_
  refine zp 7 hS0 ?_
  refine WF.take 8 rfl (fun _ _=>ov_indexAddr tab_ok rfl rfl rfl rfl rfl rfl (by omega)) hS0 rfl rfl rfl (by kernel_rfl) ?_
  refine zL 9 (fun _ hS=>hS.2) hS0 ?_
  refine WF.call 10 (by kernel_rfl) rfl rfl rfl rfl rfl plain_setPast rfl (setPast_ret l _ y _ hs2 hyv hinv.closed hll hnl (hinv.needs _ hpm) (hinv.ndup hpm)) fun v3 h3 ⟨hx3,f,hf3,ho3,hm3⟩=>⟨.inr ⟨hx3.xc w1,hx3.xcs hyc⟩,?_⟩
  have hz3:=hx3.size
  have hSS:∀ h',Fr (fun k=>qv.ownBlock=some k) h3 h'→cellAt h' h.size (0+1)=some qv∧Cells h' b0 (p0+i*3) y.cells:=fun h' hf =>
   ⟨hf.cell (fun e=>(hqv2 _ e).2.1 rfl) (hx3.xc w1),hf.cells (fun e=>by have:=(hqv2 _ e).1;omega) (hx3.xcs hyc)⟩
  have hr3:=ho3.rd
  obtain ⟨ad3,cap3,hv3⟩:=hr3.form
  have hone3:One [v3]:=by rw [hv3];exact one_slice _ _ _
  have hl3:oneList v3=some [v3]:=by rw [hv3];rfl
  refine WF.push 11 12 tab_ok (by kernel_rfl) (by kernel_rfl) rfl rfl rfl rfl rfl rfl rfl rfl rfl rfl rfl rfl rfl rfl rfl rfl hl3 rfl rfl (by simp) hone3 (hq2.fr hx3 (by simp)) (by omega) hSS ?_
  intro v4 h4 o1 o2 o3
  have hz4:=o2.size
  have hS4:=hSS _ o2
  refine zx 13 hS4 ?_
  refine zx 14 hS4 ?_
  have hb4:=(hb2.ext hx3).fr o2 (fun e=>(hqv2 _ e).2.1 rfl)
  obtain ⟨ad4,cap4,hv4⟩:=o1.rd.form
  have hone4:One [v4]:=by rw [hv4];exact one_slice _ _ _
  have hl4:oneList v4=some [v4]:=by rw [hv4];rfl
  refine WF.put 15 tab_ok (by kernel_rfl) rfl rfl rfl rfl rfl rfl rfl hl4 rfl hone4 hb4 rfl rfl fun h5 hb5 hx5 hs5=>?_
  refine WF.done (by kernel_rfl) ?_
  have hx25:Fr (fun k=>k=h.size∨qv.ownBlock=some k) h2 h5:=(hx3.up.trans (o2.mono fun k _ e=>.inr e)).trans (hx5.mono fun k _ e=>.inl e)
  have hx05:Ext h h5:=hx2.trans_new (hx25.mono fun k _ e=>by
   rcases e with e | e
   ·exact .inr (by omega)
   ·exact .inr (hqv2 k e).1)
  have hlvl:=ho2.lt
  have ho5:=ho2.fr hx25 (fun k hk e=>by
   rcases e with e | e
   ·exact (hlv2 k hk).2 e
   ·exact (hqv2 k e).2.2 hk)
  have hwle:=hwlen i (by omega)
  refine zgo ?_
  refine WO.call rfl rfl rfl rfl plain_addLines rfl (addLines_ret h.size h.size i _ v4 lv _ l y _ _ hb5 (hs.ext hx05) hF (Nat.le_refl _) hget hll hcl ho5 hlv2 (by omega)) fun v6 h6 ⟨hf6,lv6,hb6,ho6,hm6⟩=>?_
  refine zgo ?_
  have hz5:=hx5.size
  have hz6:=hf6.size
  have hx06:Ext h h6:=hx05.trans_new (hf6.mono fun k _ e=>by
   rcases e with e | e
   ·exact .inr (by omega)
   ·exact .inr (hlv2 k e).1)
  have hl6:∀ k,lv6.ownBlock=some k→lv.ownBlock=some k∨h5.size≤k:=hm6
  have hq4b:∀ k,v4.ownBlock=some k→h.size≤k∧k<h5.size∧k≠h.size∧lv.ownBlock≠some k:=fun k hk=>by
   have hk5:k<h4.size:=o1.lt k hk
   rcases o3 k hk with e | e
   ·obtain ⟨a1,a2,a3⟩:=hqv2 k e
    exact ⟨a1,by omega,a2,a3⟩
   ·exact ⟨by omega,by omega,by omega,fun e'=>by have:=hlvl k e';omega⟩
  have rowup:∀ (v:Value) (q:List Nat),Rd h3 1 v q.length (ints q)→(∀ k,v.ownBlock=some k→h.size≤k∧k<h3.size∧k≠h.size∧lv.ownBlock≠some k∧qv.ownBlock≠some k)→Rd h6 1 v q.length (ints q)∧∀ k,v.ownBlock=some k→h.size≤k∧k<h6.size∧k≠h.size∧lv6.ownBlock≠some k∧v4.ownBlock≠some k:=fun v q hr hk=>by
   refine ⟨((hr.fr o2 fun k hk' e=>(hk k hk').2.2.2.2 e).fr hx5 fun k hk' e=>(hk k hk').2.2.1 e).fr hf6 fun k hk' e=>?_,fun k hk'=>?_⟩
   ·rcases e with e | e
    ·exact (hk k hk').2.2.1 e
    ·exact (hk k hk').2.2.2.1 e
   ·obtain ⟨a1,a2,a3,a4,a5⟩:=hk k hk'
    refine ⟨a1,by omega,a3,fun e=>?_,fun e=>?_⟩
    ·rcases hl6 k e with e' | e'
     ·exact a4 e'
     ·omega
    ·rcases o3 k e with e' | e'
     ·exact a5 e'
     ·omega
  refine ih ⟨i+1,v4,lv6,qvs++[v3],pa++[(idsS (l.map PD3.p)).filter f]⟩ _ _ (by dsimp only;omega) ⟨rfl,rfl,rfl,trivial⟩ ⟨hlt',hx06,hb6,?_,fun k hk=>?_,?_,fun k hk=>?_,by simp [hpal],fun j q hj=>?_,fun j z hj hji=>?_⟩
  ·dsimp only
   rw [wUp_succ hgp]
   exact ho6
  ·rcases hl6 k hk with e | e
   ·exact hlv2 k e
   ·exact ⟨by omega,by omega⟩
  ·dsimp only
   refine (o1.fr hx5 fun k hk e=>(hq4b k hk).2.2.1 e).fr hf6 fun k hk e=>?_
   rcases e with e | e
   ·exact (hq4b k hk).2.2.1 e
   ·exact (hq4b k hk).2.2.2 e
  ·obtain ⟨a1,a2,a3,a4⟩:=hq4b k hk
   refine ⟨a1,a3,fun e=>?_⟩
   rcases hl6 k e with e' | e'
   ·exact a4 e'
   ·omega
  ·dsimp only at hj ⊢
   rcases Nat.lt_or_ge j pa.length with e | e
   ·rw [List.getElem?_append_left e] at hj
    obtain ⟨v,g1,g2,g3⟩:=hrows j q hj
    have hjq:j<qvs.length:=(List.getElem?_eq_some_iff.1 g1).1
    refine ⟨v,by rw [List.getElem?_append_left hjq];exact g1,rowup v q (g2.ext hx3) fun k hk=>?_⟩
    obtain ⟨a1,a2,a3,a4,a5⟩:=g3 k hk
    exact ⟨a1,by omega,a3,a4,a5⟩
   ·have hjl:j<pa.length+1:=by have:=(List.getElem?_eq_some_iff.1 hj).1;simpa using this
    have hje:j=pa.length:=by omega
    have hqln:qvs.length=i:=by have:=hq2.1;simpa using this
    rw [List.getElem?_append_right e,hje,Nat.sub_self] at hj
    simp at hj
    subst hj
    refine ⟨v3,by rw [List.getElem?_append_right (by omega),show j-qvs.length=0 by omega];rfl,rowup v3 _ hr3 fun k hk=>?_⟩
    have h9:=hm3 k hk
    have h10:=ho3.lt k hk
    exact ⟨by omega,h10,by omega,fun e=>by have:=hlvl k e;omega,fun e=>by have:=hql k e;omega⟩
  ·dsimp only at hji ⊢
   rcases Nat.lt_or_ge j i with e | e
   ·obtain ⟨f',g1,g2⟩:=hspec j z hj e
    exact ⟨f',g1,by rw [List.getElem?_append_left (by omega)];exact g2⟩
   ·have:j=i:=by omega
    subst this
    rw [hget] at hj
    cases hj
    exact ⟨f,hf3,by rw [List.getElem?_append_right (by omega),hpal,Nat.sub_self];rfl⟩
 have e:i=l.length:=by omega
 subst e
 have hlen:(wUp (l.map PD3.p) l.length).length=nX (l.map PD3.p):=by have:=wUp_len (l.map PD3.p);simpa using this
 have ho2':Own h2 130 13 lv (nX (l.map PD3.p)) (wlsC (nX (l.map PD3.p)) (w0X (l.map PD3.p))):=by
  have e1:=wlC_range (wUp (l.map PD3.p) l.length) (mkW (l.map PD3.p) 0 ⟨⟨0,0⟩,⟨0,0⟩,⟨0,0⟩,[]⟩)
  rw [e1,hlen] at ho2
  have e2:(fun k=>(wUp (l.map PD3.p) l.length).getD k (mkW (l.map PD3.p) 0 ⟨⟨0,0⟩,⟨0,0⟩,⟨0,0⟩,[]⟩))=w0X (l.map PD3.p):=by
   funext k;unfold w0X;rw [List.length_map]
  rw [e2] at ho2
  exact ho2
 have hlvl:=ho2.lt
 refine zgo ?_
 refine WO.call rfl rfl rfl rfl plain_lead rfl (lead_ret h.size h.size (nX (l.map PD3.p)) (w0X (l.map PD3.p)) _ qv lv l _ hb2 (hs.ext hx2) hF (Nat.le_refl _) ho2' (fun k hk=>(hlv2 k hk).2) (by omega) hll hcl) fun v3 h3 ⟨hf3,dv,rbs,hb3,hm3,hrb3,hdv3⟩=>?_
 have hz3:=hf3.size
 have hx03:Ext h h3:=hx2.trans_new (hf3.mono fun k _ e=>.inr (by omega))
 have ho3:=ho2'.fr hf3 fun k hk e=>(hlv2 k hk).2 e
 refine zgo ?_
 refine WO.call rfl rfl rfl rfl plain_leadOn rfl (leadOn_ret h.size (nX (l.map PD3.p)) (w0X (l.map PD3.p)) _ qv lv dv rbs _ _ hb3 ho3.rd (by omega) hm3 (fun e=>by have:=hrb3 _ e;omega)) fun v4 h4 ⟨hf4,hm4⟩=>?_
 have hx04:Ext h h4:=hx03.trans_new (hf4.mono fun k _ e=>.inr (by have:=hrb3 k e;omega))
 rw [lnsOf_w0X] at hm4
 have hon:wayK (nX (l.map PD3.p)) (List.range (nX (l.map PD3.p))) (saidP (linesS (l.map PD3.p)) (l.map PD3.p) (saidL (linesS (l.map PD3.p)) (linesS (l.map PD3.p)) (zeros (nX (l.map PD3.p)))))=onS (l.map PD3.p):=by
  have:=wayK_eq (said0_sq (l.map PD3.p)) (nX (l.map PD3.p)) (Nat.le_refl _)
  rw [onS_eq]
  exact this
 rw [hon] at hm4
 have hpaX:PaX (l.map PD3.p) pa:=by
  refine ⟨by simpa using hpal,fun j p hj=>?_⟩
  rw [List.getElem?_map] at hj
  cases hl:l[j]? with
  | none=>rw [hl] at hj;cases hj
  | some z =>
   rw [hl] at hj
   simp at hj
   subst hj
   exact hspec j z hl (by have:=(List.getElem?_eq_some_iff.1 hl).1;omega)
 have y4:Web F (fun k=>qv.ownBlock=some k∨∃ (j:Nat) (v:Value),qvs[j]? = some v∧j<pa.length∧v.ownBlock=some k) h4 h.size ⟨.slice ad l.length cap,qv,lv,dv,rbs⟩ l pa (nX (l.map PD3.p)) (w0X (l.map PD3.p)) (onS (l.map PD3.p)):=by
  have away:∀ k,k<h2.size→k∉rbs:=fun k hk e=>by have:=hrb3 k e;omega
  have rowOf:∀ (j:Nat) (v:Value),qvs[j]? = some v→j<pa.length→∃ q,pa[j]? = some q∧Rd h2 1 v q.length (ints q)∧∀ k,v.ownBlock=some k→h.size≤k∧k<h2.size∧k≠h.size∧lv.ownBlock≠some k∧qv.ownBlock≠some k:=fun j v hj hjl=>by
   obtain ⟨v',g1,g2,g3⟩:=hrows j pa[j] (List.getElem?_eq_getElem hjl)
   rw [hj] at g1
   cases g1
   exact ⟨pa[j],List.getElem?_eq_getElem hjl,g2,g3⟩
  refine ⟨hb3.fr hf4 fun e=>away _ (by omega) e,hs.ext hx04,⟨qvs,?_,fun j q hj=>?_,fun k hk=>.inl hk⟩,?_,hm4,fun k hk=>?_⟩
  ·rw [hpal]
   exact (hq2.rd.fr hf3 fun k hk e=>(hqv2 k hk).2.1 e).fr hf4 fun k hk e=>away k (hq2.lt k hk) e
  ·obtain ⟨v,g1,g2,g3⟩:=hrows j q hj
   refine ⟨v,g1,(g2.fr hf3 fun k hk e=>(g3 k hk).2.2.1 e).fr hf4 fun k hk e=>away k (g3 k hk).2.1 e,fun k hk=>.inr ⟨j,v,g1,(List.getElem?_eq_some_iff.1 hj).1,hk⟩⟩
  ·exact ho3.fr hf4 fun k hk e=>away k (hlvl k hk) e
  ·dsimp only at hk ⊢
   obtain ⟨a1,a2⟩:=hlv2 k hk
   refine ⟨a2,fun e=>by have:=hF k e;omega,fun e=>?_,away k (hlvl k hk),fun e=>by have:=hdv3 k e;have:=hlvl k hk;omega⟩
   rcases e with e | ⟨j,v,g1,g2,g3⟩
   ·exact (hqv2 k e).2.2 hk
   ·obtain ⟨q,_,_,g4⟩:=rowOf j v g1 g2
    exact (g4 k g3).2.2.2.1 hk
 refine zgo ?_
 refine WO.call rfl rfl rfl rfl plain_settle rfl (settle_ret _ y4 (fun k hk=>(w0X_spec hk).2.1) (by omega) (fun k hk=>(w0X_spec hk).2.2.1) (fun k hk=>(w0X_spec hk).2.2.2.1)) fun v5 h5 ⟨hf5,y5⟩=>?_
 refine zgo ?_
 refine WO.call rfl rfl rfl rfl plain_part rfl (part_ret (dd:=ddX (l.map PD3.p)) (fx:=fxX (l.map PD3.p)) (bk:=bkX (l.map PD3.p)) _ y5 (fun k hk=>(w0X_spec hk).2.1) (fun k hk=>rfl) (fun k hk=>rfl) (by omega) (fun k hk=>(w0X_spec hk).2.2.2.2.1)) fun v6 h6 ⟨hf6,sd,hpi,y6⟩=>?_
 refine zgo ?_
 exact Runs.ret Tryd.func71 (ret1 Tryd.results71 rfl) ⟨hx04.trans_new ((hf5.trans hf6).mono fun k _ e=>.inr (hlv2 k e).1),h.size,_,_,pa,sd,rfl,hpaX,hpi,y6⟩
end Go.Proofs.YtlaffgagmncgjabDoor
namespace Go.Proofs.YtlaffgagmncgjabDoor
open Go Go.Pat Go.Proofs
theorem plain_isNeighbourDead:Plain Tryd.prog 117:=⟨_,Tryd.func117,by decide +kernel,by rfl⟩
theorem plain_areAware:Plain Tryd.prog 116:=⟨_,Tryd.func116,by decide +kernel,by rfl⟩
theorem plain_isOrphan:Plain Tryd.prog 102:=⟨_,Tryd.func102,by decide +kernel,by rfl⟩
theorem plain_isInRing:Plain Tryd.prog 103:=⟨_,Tryd.func103,by decide +kernel,by rfl⟩
theorem plain_wmark:Plain Tryd.prog 88:=⟨_,Tryd.func88,by decide +kernel,by rfl⟩
theorem Reach.trans {ps:List PatchD} {a b c:Nat} (h1:Reach ps a b) (h2:Reach ps b c):Reach ps a c:=fun S r s=>h2 S (h1 S r s) s
theorem reach_iff {ps:List PatchD} (hn:(ps.map PatchD.id).Nodup) {p:PatchD} (hp:p∈ps) (x:Nat):Reach ps p.id x↔x=p.id∨Past1 ps p x:=by
 constructor
 ·intro h
  refine h (fun x=>x=p.id∨Past1 ps p x) (.inl rfl) fun b d q ih h2 h3 h4=>?_
  rcases ih with e | ⟨n,hn',hr⟩
  ·have:q=p:=ids_inj hn h2 hp (by rw [h3,e])
   subst this
   exact .inr ⟨d,h4,.refl⟩
  ·exact .inr ⟨n,hn',hr.step h2 h3 h4⟩
 ·rintro (e | ⟨n,hn',hr⟩)
  ·rw [e];exact .refl
  ·exact Reach.trans (Reach.step .refl hp rfl hn') hr
theorem aware_iff {ps:List PatchD} {pa:List (List Nat)} (hn:(ps.map PatchD.id).Nodup) (hpa:PaX ps pa) {a b:Nat} {p q:PatchD} {qa qb:List Nat} (ha:ps[a]? = some p) (hb:ps[b]? = some q) (hqa:pa[a]? = some qa) (hqb:pa[b]? = some qb) :
  (decide (a=b)||(qa.contains q.id||qb.contains p.id))=true↔Reach ps p.id q.id∨Reach ps q.id p.id:=by
 obtain ⟨f,hf,hfa⟩:=hpa.2 a p ha
 obtain ⟨g,hg,hgb⟩:=hpa.2 b q hb
 rw [hqa] at hfa
 rw [hqb] at hgb
 cases hfa
 cases hgb
 have hpm:=List.mem_of_getElem? ha
 have hqm:=List.mem_of_getElem? hb
 have hpi:p.id∈idsS ps:=List.mem_map.2 ⟨p,hpm,rfl⟩
 have hqi:q.id∈idsS ps:=List.mem_map.2 ⟨q,hqm,rfl⟩
 rw [reach_iff hn hpm,reach_iff hn hqm]
 simp only [Bool.or_eq_true,decide_eq_true_eq,List.contains_iff_mem,List.mem_filter,hf,hg,hpi,hqi,true_and]
 have hab:a=b↔p.id=q.id:=by
  constructor
  ·intro e;subst e;rw [ha] at hb;cases hb;rfl
  ·intro e
   obtain ⟨h1,e1⟩:=List.getElem?_eq_some_iff.1 ha
   obtain ⟨h2,e2⟩:=List.getElem?_eq_some_iff.1 hb
   have l1:a<(ps.map PatchD.id).length:=by simpa using h1
   have l2:b<(ps.map PatchD.id).length:=by simpa using h2
   exact nodup_get hn l1 l2 (by simp [e1,e2,e])
 rw [hab]
 constructor
 ·rintro (e | e | e)
  ·exact .inl (.inl e.symm)
  ·exact .inl (.inr e)
  ·exact .inr (.inr e)
 ·rintro ((e | e) | (e | e))
  ·exact .inl e.symm
  ·exact .inr (.inl e)
  ·exact .inl e
  ·exact .inr (.inr e)
def OrpAt (ps:List PatchD) (ln:LineD) (p:PatchD):Prop:=(¬ Reach ps p.id ln.ref.p∧¬ Reach ps ln.ref.p p.id)∧(killsB p ln.up||killsB p ln.down)=true
theorem mem_killers {ps:List PatchD} {r:RefD} {d:Nat}:d∈killersS r ps↔∃ p∈ps,p.id=d∧killsB p r=true:=by
 unfold killersS kills killsB
 simp only [List.mem_flatMap,List.mem_map,List.mem_filter,List.any_eq_true]
 constructor
 ·rintro ⟨p,hp,c,⟨hc,h⟩,rfl⟩
  exact ⟨p,hp,rfl,c,hc,h⟩
 ·rintro ⟨p,hp,rfl,c,hc,h⟩
  exact ⟨p,hp,c,⟨hc,h⟩,rfl⟩
theorem orphan_iff (ps:List PatchD) (ln:LineD):Orphan ps ln↔∃ p∈ps,OrpAt ps ln p:=by
 unfold Orphan OrpAt Bad
 constructor
 ·rintro ⟨k,hk,d,hd,hb⟩
  obtain ⟨p,hp,rfl,hkb⟩:=mem_killers.1 hd
  refine ⟨p,hp,hb,?_⟩
  have:k=0∨k=1:=by omega
  rcases this with e | e
  ·subst e
   have:killsB p ln.up=true:=hkb
   simp [this]
  ·subst e
   have:killsB p ln.down=true:=hkb
   simp [this]
 ·rintro ⟨p,hp,hb,hk⟩
  rcases (Bool.or_eq_true _ _).mp hk with e | e
  ·exact ⟨0,by omega,p.id,mem_killers.2 ⟨p,hp,rfl,e⟩,hb⟩
  ·exact ⟨1,by omega,p.id,mem_killers.2 ⟨p,hp,rfl,e⟩,hb⟩
theorem isNeighbourDead_ret {F:Nat→Prop} (y:PD3) (z:WL) (h:Heap) (hp:PV F h y) (hl:y.p.changes.length≤1000) :
  Ret Tryd.prog 117 #[.agg y.cells.toArray,.agg z.cells.toArray] h fun v h'=>Ext h h'∧v = .bool (killsB y.p z.l.up||killsB y.p z.l.down):=by
 refine Ret.of_body Tryd.func117 rfl Tryd.ntmps117 rfl rfl ?_
 refine zgo ?_
 refine WO.box rfl rfl rfl rfl rfl rfl fun h1 hb1 hx1 hs1=>?_
 refine zgo ?_
 refine WO.box rfl rfl rfl rfl rfl rfl fun h2 hb2 hx2 hs2=>?_
 have hx02:=hx1.trans hx2
 have k1:Cells h2 h.size 0 y.cells:=hx2.xcs hb1.cells
 have e1:Cells h2 h1.size (0+2) z.l.up.cells:=hb2.cells.tail.tail.take 2
 refine zgo ?_
 refine WO.call rfl rfl rfl rfl plain_tellsDead rfl (tellsDead_ret y z.l.up _ (hp.ext hx02) hl) fun v3 h3 ⟨hx3,hv3⟩=>?_
 subst hv3
 cases hk:killsB y.p z.l.up
 ·have k3:=hx3.xcs k1
  have e3:Cells h3 h1.size (0+4) z.l.down.cells:=hx3.xcs (hb2.cells.tail.tail.tail.tail.take 2)
  refine zgo ?_
  refine WO.call rfl rfl rfl rfl plain_tellsDead rfl (tellsDead_ret y z.l.down _ (hp.ext (hx02.trans hx3)) hl) fun v4 h4 ⟨hx4,hv4⟩=>?_
  subst hv4
  refine zgo ?_
  exact Runs.ret Tryd.func117 (ret1 Tryd.results117 rfl) ⟨(hx02.trans hx3).trans hx4,rfl⟩
 ·refine zgo ?_
  exact Runs.ret Tryd.func117 (ret1 Tryd.results117 rfl) ⟨hx02.trans hx3,rfl⟩
section
variable {F G:Nat→Prop} {wb:Nat} {x:WV} {l:List PD3} {pa:List (List Nat)} {n:Nat} {on:List (List Bool)}
theorem areAware_ret {w:Nat→WL} (h:Heap) (y:Web F G h wb x l pa n w on) (hpl:pa.length=l.length) (a b:Nat) (ya yb:PD3) (qa qb:List Nat) (ha:l[a]? = some ya) (hb:l[b]? = some yb) (hqa:pa[a]? = some qa) (hqb:pa[b]? = some qb) (la:qa.length≤1000000) (lb:qb.length≤1000000) :
  Ret Tryd.prog 116 #[.pointer (some ⟨wb,0,none⟩),.int .i64 (a:Int),.int .i64 (b:Int)] h fun v h'=>Ext h h'∧v = .bool (decide (a=b)||(qa.contains yb.p.id||qb.contains ya.p.id)):=by
 refine Ret.of_body Tryd.func116 rfl Tryd.ntmps116 rfl rfl ?_
 have hla:a<l.length:=(List.getElem?_eq_some_iff.1 ha).1
 have hlb:b<l.length:=(List.getElem?_eq_some_iff.1 hb).1
 have w0:=y.blk.cell (j:=0) rfl
 have w1:=y.blk.cell (j:=1) rfl
 obtain ⟨g,p,cap,va,hqv,c1,r1⟩:=y.ps.get hqa
 obtain ⟨g',p',cap',vb,hqv',c2,r2⟩:=y.ps.get hqb
 rw [hqv] at hqv' w1
 cases hqv'
 obtain ⟨gp,pp,capp,hpv,ca,_⟩:=y.xs.get ha
 obtain ⟨gp',pp',capp',hpv',cb,_⟩:=y.xs.get hb
 rw [hpv] at hpv' w0
 cases hpv'
 have ia:cellAt h gp (pp+a*3+0)=some (.int .i64 (ya.p.id:Int)):=ca.head
 have ib:cellAt h gp (pp+b*3+0)=some (.int .i64 (yb.p.id:Int)):=cb.head
 refine zgo ?_
 by_cases hab:a=b
 ·have d1:decide ((a:Int)=(b:Int))=true:=decide_eq_true (by omega)
  rw [d1]
  refine zgo ?_
  exact Runs.ret Tryd.func116 (ret1 Tryd.results116 rfl) ⟨Fr.refl _ _,by rw [decide_eq_true hab];rfl⟩
 have d1:decide ((a:Int)=(b:Int))=false:=decide_eq_false (by omega)
 rw [d1,decide_eq_false hab]
 refine zgo ?_
 refine Runs.drawn (m:=35) (fun h'=>Ext h h') (fun _=>false) mixed rfl ?_
 refine zp 0 (Fr.refl _ _) ?_
 refine zp 1 (Fr.refl _ _) ?_
 refine zp 2 (Fr.refl _ _) ?_
 refine zl 3 (fun _ hS=>(Fr.xc hS w1)) (Fr.refl _ _) ?_
 refine zp 4 (Fr.refl _ _) ?_
 refine WF.take 5 rfl (fun _ _=>ov_indexAddr tab_ok rfl rfl rfl rfl rfl rfl (by omega)) (Fr.refl _ _) rfl rfl rfl (by kernel_rfl) ?_
 refine zl 6 (fun _ hS=>(Fr.xc hS c1)) (Fr.refl _ _) ?_
 refine zp 7 (Fr.refl _ _) ?_
 refine zp 8 (Fr.refl _ _) ?_
 refine zp 9 (Fr.refl _ _) ?_
 refine zl 10 (fun _ hS=>(Fr.xc hS w0)) (Fr.refl _ _) ?_
 refine zp 11 (Fr.refl _ _) ?_
 refine WF.take 12 rfl (fun _ _=>ov_indexAddr tab_ok rfl rfl rfl rfl rfl rfl (by omega)) (Fr.refl _ _) rfl rfl rfl (by kernel_rfl) ?_
 refine zp 13 (Fr.refl _ _) ?_
 refine zl 14 (fun _ hS=>(Fr.xc hS ib)) (Fr.refl _ _) ?_
 refine WF.call 15 (by kernel_rfl) rfl rfl rfl rfl rfl plain_Has rfl (Has_ret qa va (yb.p.id:Int) _ r1 la) fun v3 h3 ⟨hh3,hv3⟩=>⟨.inr (by rw [hh3];exact Fr.refl _ _),?_⟩
 subst hh3 hv3
 rw [hasI_nat]
 cases hc:qa.contains yb.p.id
 rotate_left
 ·skip
  refine zp 16 (Fr.refl _ _) ?_
  refine zq 17 (Fr.refl _ _) ?_
  refine zq 18 (Fr.refl _ _) ?_
  refine zq 19 (Fr.refl _ _) ?_
  refine zq 20 (Fr.refl _ _) ?_
  refine zq 21 (Fr.refl _ _) ?_
  refine zq 22 (Fr.refl _ _) ?_
  refine zq 23 (Fr.refl _ _) ?_
  refine zq 24 (Fr.refl _ _) ?_
  refine zq 25 (Fr.refl _ _) ?_
  refine zq 26 (Fr.refl _ _) ?_
  refine zq 27 (Fr.refl _ _) ?_
  refine zq 28 (Fr.refl _ _) ?_
  refine zq 29 (Fr.refl _ _) ?_
  refine zq 30 (Fr.refl _ _) ?_
  refine zq 31 (Fr.refl _ _) ?_
  refine zq 32 (Fr.refl _ _) ?_
  refine zp 33 (Fr.refl _ _) ?_
  refine zp 34 (Fr.refl _ _) ?_
  refine WF.done (by kernel_rfl) ?_
  refine zgo ?_
  exact Runs.ret Tryd.func116 (ret1 Tryd.results116 rfl) ⟨Fr.refl _ _,rfl⟩
 refine zp 16 (Fr.refl _ _) ?_
 refine zp 17 (Fr.refl _ _) ?_
 refine zp 18 (Fr.refl _ _) ?_
 refine zp 19 (Fr.refl _ _) ?_
 refine zl 20 (fun _ hS=>(Fr.xc hS w1)) (Fr.refl _ _) ?_
 refine zp 21 (Fr.refl _ _) ?_
 refine WF.take 22 rfl (fun _ _=>ov_indexAddr tab_ok rfl rfl rfl rfl rfl rfl (by omega)) (Fr.refl _ _) rfl rfl rfl (by kernel_rfl) ?_
 refine zl 23 (fun _ hS=>(Fr.xc hS c2)) (Fr.refl _ _) ?_
 refine zp 24 (Fr.refl _ _) ?_
 refine zp 25 (Fr.refl _ _) ?_
 refine zp 26 (Fr.refl _ _) ?_
 refine zl 27 (fun _ hS=>(Fr.xc hS w0)) (Fr.refl _ _) ?_
 refine zp 28 (Fr.refl _ _) ?_
 refine WF.take 29 rfl (fun _ _=>ov_indexAddr tab_ok rfl rfl rfl rfl rfl rfl (by omega)) (Fr.refl _ _) rfl rfl rfl (by kernel_rfl) ?_
 refine zp 30 (Fr.refl _ _) ?_
 refine zl 31 (fun _ hS=>(Fr.xc hS ia)) (Fr.refl _ _) ?_
 refine WF.call 32 (by kernel_rfl) rfl rfl rfl rfl rfl plain_Has rfl (Has_ret qb vb (ya.p.id:Int) _ r2 lb) fun v4 h4 ⟨hh4,hv4⟩=>⟨.inr (by rw [hh4];exact Fr.refl _ _),?_⟩
 subst hh4 hv4
 rw [hasI_nat]
 refine zp 33 (Fr.refl _ _) ?_
 refine zp 34 (Fr.refl _ _) ?_
 refine WF.done (by kernel_rfl) ?_
 refine zgo ?_
 exact Runs.ret Tryd.func116 (ret1 Tryd.results116 rfl) ⟨Fr.refl _ _,rfl⟩
theorem isOrphan_ret {w:Nat→WL} (h:Heap) (y:Web F G h wb x l pa n w on) (hinv:Inv (l.map PD3.p)) (hpa:PaX (l.map PD3.p) pa) (a:Nat) (ha:a<n) (z:PD3) (hz:l[(w a).pt]? = some z) (hzi:z.p.id=(w a).l.ref.p) :
  Ret Tryd.prog 102 #[.pointer (some ⟨wb,0,none⟩),.int .i64 (a:Int)] h fun v h'=>Ext h h'∧∃ r:Bool,v = .bool r∧(r=true↔Orphan (l.map PD3.p) (w a).l):=by
 refine Ret.of_body Tryd.func102 rfl Tryd.ntmps102 rfl rfl ?_
 have w2:=y.blk.cell (j:=2) rfl
 obtain ⟨g,p,cap,hlv,ca⟩:=y.line ha
 rw [hlv] at w2
 have hll:l.length≤1000:=by have:=hinv.len;simp at this;omega
 have hcl:∀ y∈l,y.p.changes.length≤1000:=fun y hy=>by have:=(hinv.ok (List.mem_map.2 ⟨y,hy,rfl⟩)).len;omega
 have hpl:pa.length=l.length:=by have:=hpa.1;simpa using this
 have hql:∀ (j:Nat) (q:List Nat),pa[j]? = some q→q.length≤1000000:=fun j q hj=>by
  have hjl:j<pa.length:=(List.getElem?_eq_some_iff.1 hj).1
  have hg:(l.map PD3.p)[j]? = some ((l.map PD3.p)[j]'(by simp;omega)):=List.getElem?_eq_getElem (by simp;omega)
  obtain ⟨f,_,e⟩:=hpa.2 j _ hg
  rw [hj] at e
  cases e
  refine Nat.le_trans (List.length_filter_le _ _) ?_
  simp [idsS];omega
 have hpt:(w a).pt<l.length:=(List.getElem?_eq_some_iff.1 hz).1
 refine zgo ?_
 refine zv (w a).one fun h1 hb1 hx1 hs1=>?_
 have kl:Cells h1 h.size 0 (w a).cells:=hb1.cells
 refine zgo ?_
 refine Runs.loop (X:=Nat) (fun i=>[(0,.pointer (some ⟨wb,0,none⟩)),(1,.int .i64 (a:Int)),(5,.pointer (some ⟨h.size,0,none⟩)),(6,.int .i64 (i:Int))])
  (fun i h'=>Ext h1 h'∧i≤l.length∧∀ q∈l.take i,¬ OrpAt (l.map PD3.p) (w a).l q.p) (fun i=>l.length-i) 0 ⟨rfl,rfl,rfl,rfl,trivial⟩ ⟨Fr.refl _ _,Nat.zero_le _,by simp⟩ ?_
 rintro i h2 ⟨hx2,hi,hall⟩ ih
 have hx02:=hx1.trans hx2
 have y2:=y.ext hx02
 obtain ⟨adp,capp,hpv⟩:=y2.xs.rd.form
 have w0:=y2.blk.cell (j:=0) rfl
 rw [hpv] at w0
 have kl2:=hx2.xcs kl
 refine zgo ?_
 refine Runs.cond_dec rfl (fun hlt=>?_) (fun hge=>?_)
 rotate_left
 ·rw [List.take_of_length_le (by omega)] at hall
  refine zgo ?_
  refine Runs.ret Tryd.func102 (ret1 Tryd.results102 rfl) ⟨hx02,false,rfl,(fun e=>by cases e),fun e=>?_⟩
  obtain ⟨q,hq,ho⟩:=(orphan_iff _ _).1 e
  obtain ⟨q',hq',rfl⟩:=List.mem_map.1 hq
  exact absurd ho (hall q' hq')
 have hlt':i<l.length:=by omega
 have hget:l[i]? = some l[i]:=List.getElem?_eq_getElem hlt'
 have hmem:l[i]∈l:=List.getElem_mem hlt'
 have hsn:l.take (i+1)=l.take i++[l[i]]:=List.take_succ_eq_append_getElem hlt'
 generalize l[i]=q at *
 have hqi:pa[i]? = some (pa[i]'(by omega)):=List.getElem?_eq_getElem (by omega)
 have hqz:pa[(w a).pt]? = some (pa[(w a).pt]'(by omega)):=List.getElem?_eq_getElem (by omega)
 generalize pa[i]'(by omega)=qa at *
 generalize pa[(w a).pt]'(by omega)=qb at *
 have next:¬ OrpAt (l.map PD3.p) (w a).l q.p→∀ r∈l.take (i+1),¬ OrpAt (l.map PD3.p) (w a).l r.p:=fun hq r hr=>by
  rw [hsn] at hr
  rcases List.mem_append.1 hr with e | e
  ·exact hall r e
  ·simp at e;subst e;exact hq
 have haw:=aware_iff hinv.nodup hpa (a:=i) (b:=(w a).pt) (p:=q.p) (q:=z.p) (by rw [List.getElem?_map,hget];rfl) (by rw [List.getElem?_map,hz];rfl) hqi hqz
 rw [hzi] at haw
 refine zgo ?_
 refine Runs.drawn (m:=17) (fun h'=>Ext h2 h') (fun _=>false) mixed rfl ?_
 refine zp 0 (Fr.refl _ _) ?_
 refine zp 1 (Fr.refl _ _) ?_
 refine zp 2 (Fr.refl _ _) ?_
 refine zl 3 (fun _ hS=>(Fr.xc hS (kl2 7 _ rfl))) (Fr.refl _ _) ?_
 refine WF.call 4 (by kernel_rfl) rfl rfl rfl rfl rfl plain_areAware rfl (areAware_ret _ y2 hpl i (w a).pt q z qa qb hget hz hqi hqz (hql i qa hqi) (hql _ qb hqz)) fun v3 h3 ⟨hx3,hv3⟩=>⟨.inr hx3,?_⟩
 subst hv3
 rw [hzi]
 cases hA:decide (i=(w a).pt)||(qa.contains (w a).l.ref.p||qb.contains q.p.id)
 rotate_left
 ·have hno:=haw.1 hA
  refine zp 5 hx3 ?_
  refine zp 6 hx3 ?_
  refine zq 7 hx3 ?_
  refine zq 8 hx3 ?_
  refine zq 9 hx3 ?_
  refine zq 10 hx3 ?_
  refine zq 11 hx3 ?_
  refine zq 12 hx3 ?_
  refine zq 13 hx3 ?_
  refine zq 14 hx3 ?_
  refine zq 15 hx3 ?_
  refine zp 16 hx3 ?_
  refine WF.done (by kernel_rfl) ?_
  refine zgo ?_
  refine ih (i+1) _ _ (by omega) ⟨rfl,rfl,rfl,rfl,trivial⟩ ⟨hx2.trans hx3,hlt',next fun ho=>?_⟩
  rcases hno with e | e
  ·exact ho.1.1 e
  ·exact ho.1.2 e
 have hno:¬ (Reach (l.map PD3.p) q.p.id (w a).l.ref.p∨Reach (l.map PD3.p) (w a).l.ref.p q.p.id):=fun e=>by have:=haw.2 e;rw [hA] at this;cases this
 obtain ⟨b0,p0,cap0,hv0,hqc,hqv⟩:=y2.xs.get hget
 rw [hpv] at hv0
 cases hv0
 refine zp 5 hx3 ?_
 refine zp 6 hx3 ?_
 refine zp 7 hx3 ?_
 refine zp 8 hx3 ?_
 refine zp 9 hx3 ?_
 refine zl 10 (fun _ hS=>(Fr.xc hS w0)) hx3 ?_
 refine zp 11 hx3 ?_
 refine WF.take 12 rfl (fun _ _=>ov_indexAddr tab_ok rfl rfl rfl rfl rfl rfl (by omega)) hx3 rfl rfl rfl (by kernel_rfl) ?_
 refine zL 13 (fun _ hS=>(Fr.xcs hS hqc)) hx3 ?_
 refine zL 14 (fun _ hS=>(Fr.xcs hS kl2)) hx3 ?_
 refine WF.call 15 (by kernel_rfl) rfl rfl rfl rfl rfl plain_isNeighbourDead rfl (isNeighbourDead_ret q (w a) _ (hqv.ext hx3) (hcl q hmem)) fun v4 h4 ⟨hx4,hv4⟩=>⟨.inr (hx3.trans hx4),?_⟩
 subst hv4
 have hx24:=hx3.trans hx4
 refine zp 16 hx24 ?_
 refine WF.done (by kernel_rfl) ?_
 cases hK:killsB q.p (w a).l.up||killsB q.p (w a).l.down
 ·refine zgo ?_
  exact ih (i+1) _ _ (by omega) ⟨rfl,rfl,rfl,rfl,trivial⟩ ⟨hx2.trans hx24,hlt',next fun ho=>by rw [ho.2] at hK;cases hK⟩
 ·refine zgo ?_
  refine Runs.ret Tryd.func102 (ret1 Tryd.results102 rfl) ⟨hx02.trans hx24,true,rfl,fun _=>?_,fun _=>rfl⟩
  exact (orphan_iff _ _).2 ⟨q.p,List.mem_map.2 ⟨q,hmem,rfl⟩,⟨fun e=>hno (.inl e),fun e=>hno (.inr e)⟩,hK⟩
theorem isInRing_ret {w:Nat→WL} {dd:Nat→Bool} (h:Heap) (y:Web F G h wb x l pa n w on) (hd:∀ k,k<n→(w k).dead=dd k) (hn:n≤100000) (a:Nat) (ha:a<n) :
  Ret Tryd.prog 103 #[.pointer (some ⟨wb,0,none⟩),.int .i64 (a:Int)] h fun v h'=>h'=h∧v = .bool (ringW n dd on a):=by
 refine Ret.of_body Tryd.func103 rfl Tryd.ntmps103 rfl rfl ?_
 have w2:=y.blk.cell (j:=2) rfl
 have w3:=y.blk.cell (j:=3) rfl
 obtain ⟨g,p,cap,hlv,ca⟩:=y.line ha
 rw [hlv] at w2
 obtain ⟨ob,q,dcap,rb,r,hdv,_,_,_,ra,_,rab⟩:=y.lm.get ha
 rw [hdv] at w3
 refine zgo ?_
 refine Runs.loop (X:=Nat) (fun i=>[(0,.pointer (some ⟨wb,0,none⟩)),(1,.int .i64 (a:Int)),(5,.int .i64 (i:Int))])
  (fun i h'=>h=h'∧i≤n∧∀ j,j<i→((!decide (j=a) && !dd j)&&(getB on a j&&getB on j a))=false) (fun i=>n-i) 0 ⟨rfl,rfl,rfl,trivial⟩ ⟨rfl,Nat.zero_le _,by omega⟩ ?_
 rintro i _ ⟨rfl,hi,hall⟩ ih
 refine zgo ?_
 refine Runs.cond_dec rfl (fun hlt=>?_) (fun hge=>?_)
 rotate_left
 ·refine zgo ?_
  refine Runs.ret Tryd.func103 (ret1 Tryd.results103 rfl) ⟨rfl,?_⟩
  congr 1;symm
  unfold ringW
  rw [List.any_eq_false]
  intro j hj
  rw [hall j (by have:=List.mem_range.1 hj;omega)]
  simp
 have hlt':i<n:=by omega
 have next:((!decide (i=a) && !dd i)&&(getB on a i&&getB on i a))=false→∀ j,j<i+1→((!decide (j=a) && !dd j)&&(getB on a j&&getB on j a))=false:=fun hi' j hj=>by
  rcases Nat.lt_or_ge j i with e | e
  ·exact hall j e
  ·have:j=i:=by omega
   subst this;exact hi'
 obtain ⟨g',p',cap',hlv',cb⟩:=y.line hlt'
 rw [hlv] at hlv'
 cases hlv'
 have db:=cb 8 _ rfl
 rw [hd i hlt'] at db
 obtain ⟨ob',q',dcap',rb',r',hdv',_,_,_,rb2,_,rba⟩:=y.lm.get hlt'
 rw [hdv] at hdv'
 cases hdv'
 have e1:=rab i hlt'
 have e2:=rba a ha
 refine zgo ?_
 by_cases hia:i=a
 ·have d1:decide ((i:Int)=(a:Int))=true:=decide_eq_true (by omega)
  rw [d1]
  refine zgo ?_
  exact ih (i+1) _ _ (by omega) ⟨rfl,rfl,rfl,trivial⟩ ⟨rfl,hlt',next (by simp [hia])⟩
 have d1:decide ((i:Int)=(a:Int))=false:=decide_eq_false (by omega)
 rw [d1]
 cases h2:dd i
 rotate_left
 ·rw [h2] at db
  refine zgo ?_
  exact ih (i+1) _ _ (by omega) ⟨rfl,rfl,rfl,trivial⟩ ⟨rfl,hlt',next (by simp [h2])⟩
 rw [h2] at db
 cases h3:getB on a i
 ·rw [h3] at e1
  refine zgo ?_
  exact ih (i+1) _ _ (by omega) ⟨rfl,rfl,rfl,trivial⟩ ⟨rfl,hlt',next (by simp [h3])⟩
 rw [h3] at e1
 cases h4:getB on i a
 ·rw [h4] at e2
  refine zgo ?_
  exact ih (i+1) _ _ (by omega) ⟨rfl,rfl,rfl,trivial⟩ ⟨rfl,hlt',next (by simp [h4])⟩
 rw [h4] at e2
 refine zgo ?_
 refine Runs.ret Tryd.func103 (ret1 Tryd.results103 rfl) ⟨rfl,?_⟩
 congr 1;symm
 exact List.any_eq_true.2 ⟨i,List.mem_range.2 hlt',by simp [hia,h2,h3,h4]⟩
theorem wmark_ret {w:Nat→WL} {dd fx:Nat→Bool} (h:Heap) (y:Web F G h wb x l pa n w on) (hd:∀ k,k<n→(w k).dead=dd k) (hf:∀ k,k<n→(w k).settled=fx k) (hn:n≤100000) (hinv:Inv (l.map PD3.p)) (hpa:PaX (l.map PD3.p) pa) (a:Nat) (ha:a<n) (z:PD3) (hz:l[(w a).pt]? = some z) (hzi:z.p.id=(w a).l.ref.p) :
  Ret Tryd.prog 88 #[.pointer (some ⟨wb,0,none⟩),.int .i64 (a:Int)] h fun v h'=>Ext h h'∧∀ o:Bool,(o=true↔Orphan (l.map PD3.p) (w a).l)→v = .string (str [UInt8.ofNat (if o=true then 33 else if ringW n dd on a=true then 64 else if fx a=true then 32 else 124)]):=by
 refine Ret.of_body Tryd.func88 rfl Tryd.ntmps88 rfl rfl ?_
 refine zgo ?_
 refine WO.call rfl rfl rfl rfl plain_isOrphan rfl (isOrphan_ret _ y hinv hpa a ha z hz hzi) fun v1 h1 ⟨hx1,r,hv1,hr⟩=>?_
 subst hv1
 have same:∀ o:Bool,(o=true↔Orphan (l.map PD3.p) (w a).l)→o=r:=fun o ho=>by
  rw [Bool.eq_iff_iff,ho,hr]
 cases r
 rotate_left
 ·refine zgo ?_
  exact Runs.ret Tryd.func88 (ret1 Tryd.results88 rfl) ⟨hx1,fun o ho=>by rw [same o ho];rfl⟩
 have y1:=y.ext hx1
 refine zgo ?_
 refine WO.call rfl rfl rfl rfl plain_isInRing rfl (isInRing_ret _ y1 hd hn a ha) fun v2 h2 ⟨hh2,hv2⟩=>?_
 subst hh2 hv2
 cases hR:ringW n dd on a
 rotate_left
 ·refine zgo ?_
  exact Runs.ret Tryd.func88 (ret1 Tryd.results88 rfl) ⟨hx1,fun o ho=>by rw [same o ho];rfl⟩
 have w2:=y1.blk.cell (j:=2) rfl
 obtain ⟨g,p,cap,hlv,ca⟩:=y1.line ha
 rw [hlv] at w2
 have c9:=ca 9 _ rfl
 rw [hf a ha] at c9
 cases hF:fx a
 ·rw [hF] at c9
  refine zgo ?_
  exact Runs.ret Tryd.func88 (ret1 Tryd.results88 rfl) ⟨hx1,fun o ho=>by rw [same o ho];rfl⟩
 ·rw [hF] at c9
  refine zgo ?_
  exact Runs.ret Tryd.func88 (ret1 Tryd.results88 rfl) ⟨hx1,fun o ho=>by rw [same o ho];rfl⟩
end
end Go.Proofs.YtlaffgagmncgjabDoor
namespace Go.Proofs.YtlaffgagmncgjabDoor
open Go Go.Pat Go.Proofs
theorem plain_wShown:Plain Tryd.prog 72:=⟨_,Tryd.func72,by decide +kernel,by rfl⟩
theorem plain_Shown:Plain Tryd.prog 55:=⟨_,Tryd.func55,by decide +kernel,by rfl⟩
theorem plain_signBetween:Plain Tryd.prog 56:=⟨_,Tryd.func56,by decide +kernel,by rfl⟩
theorem plain_allBlank:Plain Tryd.prog 57:=⟨_,Tryd.func57,by decide +kernel,by rfl⟩
theorem plain_xShow:Plain Tryd.prog 32:=⟨_,Tryd.func32,by decide +kernel,by rfl⟩
theorem plain_xClean:Plain Tryd.prog 33:=⟨_,Tryd.func33,by decide +kernel,by rfl⟩
theorem plain_xFile:Plain Tryd.prog 42:=⟨_,Tryd.func42,by decide +kernel,by rfl⟩
theorem flat_len {α:Type} {f:α→List Value} {s:Nat} (hs:∀ a,(f a).length=s):∀ L:List α,(L.flatMap f).length=L.length*s:=by
 intro L
 induction L with
 | nil=>simp
 | cons a L ih=>rw [List.flatMap_cons,List.length_append,ih,hs,List.length_cons,Nat.succ_mul];omega
theorem flat_get {α:Type} {f:α→List Value} {s:Nat} (hs:∀ a,(f a).length=s) {h:Heap} {L:List α} {b p:Nat} (hc:Cells h b p (L.flatMap f)) {i:Nat} {a:α} (hi:L[i]? = some a):Cells h b (p+i*s) (f a):=by
 intro j v hj
 have hj3:j<s:=by have:=(List.getElem?_eq_some_iff.1 hj).1;rw [hs] at this;exact this
 have hlt:i<L.length:=(List.getElem?_eq_some_iff.1 hi).1
 have h0:L=L.take i++a::L.drop (i+1):=by
  obtain ⟨_,e⟩:=List.getElem?_eq_some_iff.1 hi
  rw [← e,List.getElem_cons_drop,List.take_append_drop]
 have hv:(L.flatMap f)[i*s+j]? = some v:=by
  rw [h0,List.flatMap_append,List.flatMap_cons]
  have hl:((L.take i).flatMap f).length=i*s:=by rw [flat_len hs,List.length_take];congr 1;omega
  rw [List.getElem?_append_right (by omega),hl,show i*s+j-i*s=j by omega]
  rw [List.getElem?_append_left (by rw [hs];exact hj3)]
  exact hj
 have:=hc (i*s+j) v hv
 rw [← Nat.add_assoc] at this
 exact this
def slX (ps:List PatchD) (sd:Nat→Int) (orx:Nat→Bool) (k:Nat):List Value:=[.int .i64 ((lnX ps k).ref.p:Int),.int .i64 ((lnX ps k).ref.i:Int),.string (str (lnX ps k).text),.string (str [UInt8.ofNat (markX ps orx k)]),.int .i64 (sd k)]
theorem slX_one (ps:List PatchD) (sd:Nat→Int) (orx:Nat→Bool) (k:Nat):One (slX ps sd orx k):=by
 intro u hu
 simp [slX] at hu
 rcases hu with rfl | rfl | rfl | rfl | rfl<;>rfl
theorem slX_len (ps:List PatchD) (sd:Nat→Int) (orx:Nat→Bool) (k:Nat):(slX ps sd orx k).length=5:=rfl
structure NumX (ps:List PatchD) (sd:Nat→Int) (orx:Nat→Bool):Prop where
 str:StrX ps sd
 orp:∀ k,k<nX ps→(orx k=true↔Orphan ps (lnX ps k))
theorem orx_ex (ps:List PatchD):∃ orx:Nat→Bool,∀ k,k<nX ps→(orx k=true↔Orphan ps (lnX ps k)) :=
 ⟨fun k=>@decide (Orphan ps (lnX ps k)) (Classical.propDecidable _),fun k _=>by rw [@decide_eq_true_iff _ (Classical.propDecidable _)]⟩
theorem strX_of {ps:List PatchD} {st:Nat→Int} (h:PI (nX ps) (ddX ps) (fxX ps) (bkX ps) (onS ps) (nX ps) st):StrX ps st:=by
 refine ⟨fun i hi hd hf=>?_,fun i hi hd hf=>h.b i hi (by simp [looseW,hf])⟩
 rcases h.a i hi (by simp [looseW,hd,hf]) with ⟨_,e⟩ | ⟨r,e1,_,e3⟩
 ·have:=e i .refl;omega
 ·exact ⟨r,e1,e3⟩
theorem ordX_mem {ps:List PatchD} {sd:Nat→Int}:∀ k∈ordX ps sd,k<nX ps∧ddX ps k=false:=fun k hk=>ordTo_mem k hk
theorem ordX_length (ps:List PatchD) (sd:Nat→Int):(ordX ps sd).length≤nX ps:=ordTo_length _ _ _
theorem lnX_text {ps:List PatchD} (hinv:Inv ps) {k:Nat} (hk:k<nX ps):(lnX ps k).text.length≤1000:=by
 obtain ⟨p,hp,_,c,hc,e⟩:=linesS_mem (List.mem_of_getElem? (lnX_get hk))
 have:=((hinv.ok hp).changes c hc).text
 rw [e];omega
theorem wShown_ret {F G:Nat→Prop} {wb:Nat} {x:WV} {pa:List (List Nat)} {sd:Nat→Int} (l:List PD3) (h:Heap) (hinv:Inv (l.map PD3.p)) (hpa:PaX (l.map PD3.p) pa) (y3:Web F G h wb x l pa (nX (l.map PD3.p)) (sdW (doneW (w0X (l.map PD3.p)) (fxX (l.map PD3.p)) (rkX (l.map PD3.p)) (bkX (l.map PD3.p))) sd) (onS (l.map PD3.p))) (orx:Nat→Bool) (horx:∀ k,k<nX (l.map PD3.p)→(orx k=true↔Orphan (l.map PD3.p) (lnX (l.map PD3.p) k))) :
  Ret Tryd.prog 72 #[.pointer (some ⟨wb,0,none⟩)] h fun v h'=>Ext h h'∧Own h' 92 5 v (ordX (l.map PD3.p) sd).length ((ordX (l.map PD3.p) sd).flatMap (slX (l.map PD3.p) sd orx))∧∀ k,v.ownBlock=some k→h.size≤k:=by
 refine Ret.of_body Tryd.func72 rfl Tryd.ntmps72 rfl rfl ?_
 have hnX:nX (l.map PD3.p)≤90:=hinv.lines
 refine zgo ?_
 refine WO.call rfl rfl rfl rfl plain_order rfl (worder_ret (dd:=ddX (l.map PD3.p)) (fx:=fxX (l.map PD3.p)) (rk:=rkX (l.map PD3.p)) (bk:=bkX (l.map PD3.p)) (sd:=sd) _ y3 (fun k hk=>(w0X_spec hk).2.1) (fun k hk=>rfl) (fun k hk=>rfl) (fun k hk=>rfl) (fun k hk=>rfl) (by omega)) fun v4 h4 ⟨hx4,ho4,hm4⟩=>?_
 have hx04:=hx4
 have y4:=y3.ext hx4
 have hord:ordTo (ddX (l.map PD3.p)) (firstW (fxX (l.map PD3.p)) (bkX (l.map PD3.p)) (rkX (l.map PD3.p)) sd) (nX (l.map PD3.p))=ordX (l.map PD3.p) sd:=rfl
 rw [hord] at ho4
 have hmemX:=ordX_mem (ps:=l.map PD3.p) (sd:=sd)
 have hlenX:=ordX_length (l.map PD3.p) sd
 generalize hL:ordX (l.map PD3.p) sd=L at *
 have hr4:=ho4.rd
 obtain ⟨ad,cap,hv4⟩:=hr4.form
 subst hv4
 have hz4:=hx04.size
 refine zgo ?_
 refine Runs.loop (X:=IV) (fun u=>[(0,.pointer (some ⟨wb,0,none⟩)),(3,.slice ad L.length cap),(4,u.v),(5,.int .i64 (u.i:Int))])
  (fun u h'=>u.i≤L.length∧Ext h4 h'∧Own h' 92 5 u.v (L.take u.i).length ((L.take u.i).flatMap (slX (l.map PD3.p) sd orx))∧(∀ k,u.v.ownBlock=some k→h4.size≤k))
  (fun u=>L.length-u.i) ⟨0,.slice none 0 0⟩ ⟨rfl,rfl,rfl,rfl,trivial⟩ ⟨Nat.zero_le _,Fr.refl _ _,Own.nil _ _ _,fun k hk=>by simp [Value.ownBlock] at hk⟩ ?_
 rintro ⟨i,v⟩ h5 ⟨hi,hx5,ho5,hm5⟩ ih
 dsimp only at hi hx5 ho5 hm5 ih ⊢
 have hz5:=hx5.size
 refine zgo ?_
 refine Runs.cond_dec rfl (fun hlt=>?_) (fun hge=>?_)
 rotate_left
 ·rw [List.take_of_length_le (by omega)] at ho5
  refine zgo ?_
  exact Runs.ret Tryd.func72 (ret1 Tryd.results72 rfl) ⟨hx04.trans hx5,ho5,fun k hk=>by have:=hm5 k hk;omega⟩
 have hlt':i<L.length:=by omega
 have hget:L[i]? = some L[i]:=List.getElem?_eq_getElem hlt'
 have hmem:L[i]∈L:=List.getElem_mem hlt'
 have hsn:L.take (i+1)=L.take i++[L[i]]:=List.take_succ_eq_append_getElem hlt'
 have htl:(L.take i).length≤i:=by simp;omega
 generalize L[i]=a at *
 obtain ⟨han,had⟩:=hmemX a hmem
 obtain ⟨s1,s2,_,_,_,p,hp,hpid⟩:=w0X_spec han
 obtain ⟨b0,p0,cap0,hv0,_,hcell⟩:=(hr4.ext hx5).cell (ints_get hget)
 cases hv0
 have y5:=y4.ext hx5
 obtain ⟨g,q,capl,hlv,ca⟩:=y5.line han
 have w2:=y5.blk.cell (j:=2) rfl
 rw [hlv] at w2
 refine zgo ?_
 refine zv (WL.one _) fun h6 hb6 hx6 hs6=>?_
 have y6:=y5.ext hx6
 have kl:Cells h6 h5.size 0 (sdW (doneW (w0X (l.map PD3.p)) (fxX (l.map PD3.p)) (rkX (l.map PD3.p)) (bkX (l.map PD3.p))) sd a).cells:=hb6.cells
 have hz6:=hx6.size
 have kn:∀ h',Cells h' h5.size 0 (sdW (doneW (w0X (l.map PD3.p)) (fxX (l.map PD3.p)) (rkX (l.map PD3.p)) (bkX (l.map PD3.p))) sd a).cells→Cells h' h5.size (0+0) (lnX (l.map PD3.p) a).ref.cells∧cellAt h' h5.size (0+6)=some (.string (str (lnX (l.map PD3.p) a).text))∧cellAt h' h5.size (0+12)=some (.int .i64 (sd a)):=fun h' hc=>by
  have e1:Cells h' h5.size (0+0) (w0X (l.map PD3.p) a).l.ref.cells:=hc.take 2
  have e2:cellAt h' h5.size (0+6)=some (.string (str (w0X (l.map PD3.p) a).l.text)):=hc 6 _ rfl
  rw [s1] at e1 e2
  exact ⟨e1,e2,hc 12 _ rfl⟩
 have hz:∃ z:PD3,l[(w0X (l.map PD3.p) a).pt]? = some z∧z.p=p:=by
  rw [List.getElem?_map] at hp
  cases hl:l[(w0X (l.map PD3.p) a).pt]? with
  | none=>rw [hl] at hp;cases hp
  | some z=>rw [hl] at hp;simp at hp;exact ⟨z,rfl,hp⟩
 obtain ⟨z,hz1,hz2⟩:=hz
 refine zgo ?_
 refine Runs.drawn (m:=14) (fun h'=>Cells h' h5.size 0 (sdW (doneW (w0X (l.map PD3.p)) (fxX (l.map PD3.p)) (rkX (l.map PD3.p)) (bkX (l.map PD3.p))) sd a).cells) (fun _=>false) mixed rfl ?_
 refine zp 0 kl ?_
 refine zp 1 kl ?_
 refine zL 2 (fun _ hS=>(kn _ hS).1) kl ?_
 refine zp 3 kl ?_
 refine zl 4 (fun _ hS=>(kn _ hS).2.1) kl ?_
 refine zp 5 kl ?_
 refine zp 6 kl ?_
 refine zp 8 kl ?_
 refine zl 9 (fun _ hS=>(kn _ hS).2.2) kl ?_
 refine WF.call 7 (by kernel_rfl) rfl rfl rfl rfl rfl plain_wmark rfl (wmark_ret (dd:=ddX (l.map PD3.p)) (fx:=fxX (l.map PD3.p)) _ y6 (fun k hk=>(w0X_spec hk).2.1) (fun k hk=>rfl) (by omega) hinv hpa a han z hz1 (by rw [hz2,← hpid];show _=(w0X (l.map PD3.p) a).l.ref.p;rw [s1])) fun v7 h7 ⟨hx7,hv7⟩=>⟨.inr (hx7.xcs kl),?_⟩
 have hv7':=hv7 (orx a) (by
  show _↔Orphan (l.map PD3.p) (w0X (l.map PD3.p) a).l
  rw [s1];exact horx a han)
 subst hv7'
 have kl7:=hx7.xcs kl
 have hz7:=hx7.size
 refine zp 10 kl7 ?_
 have ho7:=ho5.fr (hx6.trans hx7) (by simp)
 have hlv5:=ho5.lt
 refine WF.push 11 12 tab_ok (by kernel_rfl) (by kernel_rfl) rfl rfl rfl rfl rfl rfl rfl rfl rfl rfl rfl rfl rfl rfl rfl rfl rfl rfl rfl (by simp) (slX_one (l.map PD3.p) sd orx a) ho7 (by omega) (fun h' hf=>hf.cells (fun e=>by have:=hlv5 _ e;omega) kl7) ?_
 intro v8 h8 o1 o2 o3
 have kl8:=o2.cells (fun e=>by have:=hlv5 _ e;omega) kl7
 refine zx 13 kl8 ?_
 refine WF.done (by kernel_rfl) ?_
 refine zgo ?_
 refine ih ⟨i+1,v8⟩ _ _ (by dsimp only;omega) ⟨rfl,rfl,rfl,rfl,trivial⟩ ⟨hlt',((hx5.trans hx6).trans hx7).trans_new (o2.mono fun k _ e=>.inr (hm5 k e)),?_,fun k hk=>?_⟩
 ·dsimp only
  rw [hsn,List.flatMap_append,List.length_append]
  have e9:[a].flatMap (slX (l.map PD3.p) sd orx)=slX (l.map PD3.p) sd orx a:=by simp
  rw [e9]
  exact o1
 ·rcases o3 k hk with e | e
  ·exact hm5 k e
  ·omega
theorem Shown_ret {F:Nat→Prop} (pv:Value) (l:List PD3) (h:Heap) (hs:XS F h pv l) (hF:∀ k,F k→k<h.size) (hinv:Inv (l.map PD3.p)) :
  Ret Tryd.prog 55 #[pv] h fun v h'=>Ext h h'∧∃ sd orx,NumX (l.map PD3.p) sd orx∧Own h' 92 5 v (ordX (l.map PD3.p) sd).length ((ordX (l.map PD3.p) sd).flatMap (slX (l.map PD3.p) sd orx))∧∀ k,v.ownBlock=some k→h.size≤k:=by
 refine Ret.of_body Tryd.func55 rfl Tryd.ntmps55 rfl rfl ?_
 obtain ⟨orx,horx⟩:=orx_ex (l.map PD3.p)
 refine zgo ?_
 refine WO.call rfl rfl rfl rfl plain_spin rfl (spin_ret pv l _ hs hF hinv) fun v1 h1 ⟨hx1,wb,G,x,pa,sd,hv1,hpa,hpi,y1⟩=>?_
 subst hv1
 refine zgo ?_
 refine WO.call rfl rfl rfl rfl plain_wShown rfl (wShown_ret l _ hinv hpa y1 orx horx) fun v2 h2 ⟨hx2,ho2,hm2⟩=>?_
 refine zgo ?_
 exact Runs.ret Tryd.func55 (ret1 Tryd.results55 rfl) ⟨hx1.trans hx2,sd,orx,⟨strX_of hpi,horx⟩,ho2,fun k hk=>by have:=hm2 k hk;have:=hx1.size;omega⟩
theorem signBetween_ret (a b:Int) (h:Heap):Ret Tryd.prog 56 #[.int .i64 a,.int .i64 b] h fun v h'=>h'=h∧v = .string (str (signW a b)):=by
 refine Ret.of_body Tryd.func56 rfl Tryd.ntmps56 rfl rfl ?_
 unfold signW
 refine zgo ?_
 refine Runs.cond_dec rfl (fun h1=>?_) (fun h1=>?_)
 ·rw [if_pos h1]
  refine zgo ?_
  exact Runs.ret Tryd.func56 (ret1 Tryd.results56 rfl) ⟨rfl,rfl⟩
 rw [if_neg h1]
 refine zgo ?_
 refine Runs.cond_dec rfl (fun h2=>?_) (fun h2=>?_)
 ·rw [if_pos h2]
  refine zgo ?_
  exact Runs.ret Tryd.func56 (ret1 Tryd.results56 rfl) ⟨rfl,rfl⟩
 rw [if_neg h2]
 refine zgo ?_
 refine Runs.cond_dec rfl (fun h3=>?_) (fun h3=>?_)
 ·rw [if_pos h3]
  refine zgo ?_
  exact Runs.ret Tryd.func56 (ret1 Tryd.results56 rfl) ⟨rfl,rfl⟩
 rw [if_neg h3]
 refine zgo ?_
 exact Runs.ret Tryd.func56 (ret1 Tryd.results56 rfl) ⟨rfl,rfl⟩
theorem itemsX_get {ps:List PatchD} {sd:Nat→Int} {orx:Nat→Bool} {i k:Nat} (h:(ordX ps sd)[i]? = some k):(itemsX ps sd orx)[i]? = some ⟨sd k,UInt8.ofNat (markX ps orx k)::(lnX ps k).text⟩:=by
 unfold itemsX;rw [List.getElem?_map,h];rfl
theorem itemsX_length (ps:List PatchD) (sd:Nat→Int) (orx:Nat→Bool):(itemsX ps sd orx).length=(ordX ps sd).length:=by simp [itemsX]
theorem itW_len (I:List IT) (k:Nat):(itW I k).length≤2:=by
 unfold itW
 split
 ·unfold sgW;split<;>simp
 ·simp
theorem itTo_len (I:List IT) (k:Nat):(itTo I k).length≤2*k:=by
 induction k with
 | zero=>simp [itTo]
 | succ k ih=>rw [itTo_succ,List.length_append];have:=itW_len I k;omega
theorem xShow_ret {F:Nat→Prop} (xb:Nat) (l:List PD3) (lv:Value) (h:Heap) (hb:Blk h xb [lv] 65) (hs:XS F h lv l) (hF:∀ k,F k→k<h.size) (hinv:Inv (l.map PD3.p)) :
  Ret Tryd.prog 32 #[.pointer (some ⟨xb,0,none⟩)] h fun v h'=>Ext h h'∧∃ sd orx,NumX (l.map PD3.p) sd orx∧Own h' 9 1 v (showW (itemsX (l.map PD3.p) sd orx)).length (strs (showW (itemsX (l.map PD3.p) sd orx)))∧∀ k,v.ownBlock=some k→h.size≤k:=by
 refine Ret.of_body Tryd.func32 rfl Tryd.ntmps32 rfl rfl ?_
 have x0:=hb.cell (j:=0) rfl
 have hnX:nX (l.map PD3.p)≤90:=hinv.lines
 refine zgo ?_
 refine WO.call rfl rfl rfl rfl plain_Shown rfl (Shown_ret lv l _ hs hF hinv) fun v1 h1 ⟨hx1,sd,orx,hnum,ho1,hm1⟩=>?_
 have hmemX:=ordX_mem (ps:=l.map PD3.p) (sd:=sd)
 have hlenX:=ordX_length (l.map PD3.p) sd
 have hgI:=fun i k=>itemsX_get (ps:=l.map PD3.p) (sd:=sd) (orx:=orx) (i:=i) (k:=k)
 have hIl:=itemsX_length (l.map PD3.p) sd orx
 generalize hI:itemsX (l.map PD3.p) sd orx=I at *
 generalize ordX (l.map PD3.p) sd=L at *
 have hr1:=ho1.rd
 obtain ⟨ad,cap,hv1⟩:=hr1.form
 subst hv1
 have hz1:=hx1.size
 refine zgo ?_
 refine Runs.loop (X:=IV) (fun u=>[(3,.slice ad L.length cap),(4,u.v),(5,.int .i64 (stW I u.i)),(6,.int .i64 (u.i:Int))])
  (fun u h'=>u.i≤L.length∧Ext h1 h'∧Own h' 9 1 u.v (itTo I u.i).length (strs (itTo I u.i))∧(∀ k,u.v.ownBlock=some k→h1.size≤k))
  (fun u=>L.length-u.i) ⟨0,.slice none 0 0⟩ ⟨rfl,rfl,rfl,rfl,trivial⟩ ⟨Nat.zero_le _,Fr.refl _ _,Own.nil _ _ _,fun k hk=>by simp [Value.ownBlock] at hk⟩ ?_
 rintro ⟨i,v⟩ h2 ⟨hi,hx2,ho2,hm2⟩ ih
 dsimp only at hi hx2 ho2 hm2 ih ⊢
 have hz2:=hx2.size
 have hil:=itTo_len I i
 refine zgo ?_
 refine Runs.cond_dec rfl (fun hlt=>?_) (fun hge=>?_)
 rotate_left
 ·have hie:i=I.length:=by omega
  subst hie
  refine zgo ?_
  refine Runs.cond_ndec rfl (fun n3=>?_) (fun n3=>?_)
  ·refine zgo ?_
   refine zh (one_str [62]) ho2 ?_
   intro v3 h3 o1 o2 o3
   refine zgo ?_
   refine Runs.ret Tryd.func32 (ret1 Tryd.results32 rfl) ⟨(hx1.trans hx2).trans_new (o2.mono fun k _ e=>.inr (by have:=hm2 k e;omega)),sd,orx,hnum,?_,fun k hk=>?_⟩
   ·rw [hI]
    unfold showW endW
    rw [if_neg n3,strs_append,List.length_append]
    exact o1
   ·rcases o3 k hk with e | e
    ·have:=hm2 k e;omega
    ·omega
  ·refine zgo ?_
   refine Runs.ret Tryd.func32 (ret1 Tryd.results32 rfl) ⟨hx1.trans hx2,sd,orx,hnum,?_,fun k hk=>by have:=hm2 k hk;omega⟩
   rw [hI]
   unfold showW endW
   rw [if_pos n3,List.append_nil]
   exact ho2
 have hlt':i<L.length:=by omega
 have hget:L[i]? = some L[i]:=List.getElem?_eq_getElem hlt'
 have hmem:L[i]∈L:=List.getElem_mem hlt'
 generalize L[i]=a at *
 obtain ⟨han,had⟩:=hmemX a hmem
 have htx:=lnX_text hinv han
 have hgi:=hgI i a hget
 have hst:=stW_succ hgi
 have hsn:=itTo_succ I i
 have hw:itW I i=sgW (signW (stW I i) (sd a))++[UInt8.ofNat (markX (l.map PD3.p) orx a)::(lnX (l.map PD3.p) a).text]:=by unfold itW;rw [hgi]
 rw [hw] at hsn
 have hcs:∀ h',Ext h1 h'→∃ b p cap',Value.slice ad L.length cap = .slice (some ⟨b,p,none⟩) L.length cap'∧Cells h' b (p+i*5) (slX (l.map PD3.p) sd orx a):=fun h' hx=>by
  obtain ⟨b,p,cap',e1,_,e2⟩:=(hr1.ext hx).pos (by omega)
  exact ⟨b,p,cap',e1,flat_get (slX_len (l.map PD3.p) sd orx) e2 hget⟩
 obtain ⟨b0,p0,cap0,hv0,hc2⟩:=hcs h2 hx2
 cases hv0
 have c4:cellAt h2 b0 (p0+i*5+4)=some (.int .i64 (sd a)):=hc2 4 _ rfl
 refine zgo ?_
 refine WO.call rfl rfl rfl rfl plain_signBetween rfl (signBetween_ret (stW I i) (sd a) _) fun v3 h3 ⟨hh3,hv3⟩=>?_
 subst hh3 hv3
 refine zgo ?_
 refine Runs.joinK (fun env' h'=>∃ v4,Sub [(3,.slice (some ⟨b0,p0,none⟩) L.length cap),(4,v4),(6,.int .i64 (i:Int))] env'∧Ext h1 h'∧Own h' 9 1 v4 (itTo I i++sgW (signW (stW I i) (sd a))).length (strs (itTo I i++sgW (signW (stW I i) (sd a))))∧(∀ k,v4.ownBlock=some k→h1.size≤k)) (fun _ hJ=>?_) ?_
 ·refine Runs.cond_ndec rfl (fun h4=>?_) (fun h4=>?_)
  ·refine zgo ?_
   refine zh (one_str _) ho2 ?_
   intro v4 h4' o1 o2 o3
   refine zgo ?_
   refine hJ _ _ ⟨v4,⟨rfl,rfl,rfl,trivial⟩,hx2.trans_new (o2.mono fun k _ e=>.inr (hm2 k e)),?_,fun k hk=>?_⟩
   ·unfold sgW
    rw [if_neg h4,strs_append,List.length_append]
    exact o1
   ·rcases o3 k hk with e | e
    ·exact hm2 k e
    ·omega
  ·refine zgo ?_
   refine hJ _ _ ⟨v,⟨rfl,rfl,rfl,trivial⟩,hx2,?_,hm2⟩
   unfold sgW
   rw [if_pos h4,List.append_nil]
   exact ho2
 rintro env' h4 ⟨v4,hsub,hx4,ho4,hm4⟩
 refine Runs.sub hsub ?_
 clear hsub env'
 have hz4:=hx4.size
 obtain ⟨b1,p1,cap1,hv1,hc4⟩:=hcs h4 hx4
 cases hv1
 have hl4:(itTo I i++sgW (signW (stW I i) (sd a))).length≤2*i+1:=by
  rw [List.length_append]
  have:(sgW (signW (stW I i) (sd a))).length≤1:=by unfold sgW;split<;>simp
  omega
 have hown1:=ho1.lt
 have hb1l:b0<h1.size:=hown1 b0 rfl
 have hSS:∀ h',Fr (fun k=>v4.ownBlock=some k) h4 h'→Cells h' b0 (p0+i*5) (slX (l.map PD3.p) sd orx a):=fun h' hf=>hf.cells (fun e=>by have:=hm4 _ e;omega) hc4
 refine zgo ?_
 refine Runs.drawn (m:=15) (fun h'=>Cells h' b0 (p0+i*5) (slX (l.map PD3.p) sd orx a)) (fun _=>false) mixed rfl ?_
 refine zp 0 hc4 ?_
 refine zp 1 hc4 ?_
 refine zp 2 hc4 ?_
 refine WF.take 3 rfl (fun _ _=>ov_indexAddr tab_ok rfl rfl rfl rfl rfl rfl (by omega)) hc4 rfl rfl rfl (by kernel_rfl) ?_
 refine zp 4 hc4 ?_
 refine zl 5 (fun _ hS=>(hS 3 _ rfl)) hc4 ?_
 refine zp 6 hc4 ?_
 refine zp 7 hc4 ?_
 refine WF.take 8 rfl (fun _ _=>ov_indexAddr tab_ok rfl rfl rfl rfl rfl rfl (by omega)) hc4 rfl rfl rfl (by kernel_rfl) ?_
 refine zp 9 hc4 ?_
 refine zl 10 (fun _ hS=>(hS 2 _ rfl)) hc4 ?_
 refine WF.take 11 rfl (fun _ _=>ov_sadd rfl rfl rfl (by simp;omega)) hc4 rfl rfl rfl (by kernel_rfl) ?_
 refine WF.push 12 13 tab_ok (by kernel_rfl) (by kernel_rfl) rfl rfl rfl rfl rfl rfl rfl rfl rfl rfl rfl rfl rfl rfl rfl rfl rfl rfl rfl (by simp) (one_str _) ho4 (by omega) hSS ?_
 intro v5 h5 o1 o2 o3
 have hS5:=hSS _ o2
 refine zx 14 hS5 ?_
 refine WF.done (by kernel_rfl) ?_
 have c5:cellAt h5 b0 (p0+i*5+4)=some (.int .i64 (sd a)):=hS5 4 _ rfl
 refine zgo ?_
 refine ih ⟨i+1,v5⟩ _ _ (by dsimp only;omega) ⟨rfl,rfl,by dsimp only;rw [hst];rfl,rfl,trivial⟩ ⟨hlt',hx4.trans_new (o2.mono fun k _ e=>.inr (hm4 k e)),?_,fun k hk=>?_⟩
 ·dsimp only
  rw [hsn,← List.append_assoc,strs_append,List.length_append]
  exact o1
 ·rcases o3 k hk with e | e
  ·exact hm4 k e
  ·omega
end Go.Proofs.YtlaffgagmncgjabDoor
namespace Go.Proofs.YtlaffgagmncgjabDoor
open Go Go.Pat Go.Proofs
def blankX (ps:List PatchD) (orx:Nat→Bool) (L:List Nat):Bool:=L.all fun k=>decide (markX ps orx k=32)
theorem mark32 (ps:List PatchD) (orx:Nat→Bool) (k:Nat):[UInt8.ofNat (markX ps orx k)]=([32]:List UInt8)↔markX ps orx k=32:=by
 unfold markX
 split
 ·simp
 ·split
  ·simp
  ·split<;>simp
theorem allBlank_ret (ps:List PatchD) (sd:Nat→Int) (orx:Nat→Bool) (L:List Nat) (v:Value) (h:Heap) (hr:Rd h 5 v L.length (L.flatMap (slX ps sd orx))) (hl:L.length≤100000) :
  Ret Tryd.prog 57 #[v] h fun r h'=>h'=h∧r = .bool (blankX ps orx L):=by
 refine Ret.of_body Tryd.func57 rfl Tryd.ntmps57 rfl rfl ?_
 obtain ⟨ad,cap,hv⟩:=hr.form
 subst hv
 refine zgo ?_
 refine Runs.loop (X:=Nat) (fun i=>[(0,.slice ad L.length cap),(3,.int .i64 (i:Int))])
  (fun i h'=>h=h'∧i≤L.length∧∀ k∈L.take i,markX ps orx k=32) (fun i=>L.length-i) 0 ⟨rfl,rfl,trivial⟩ ⟨rfl,Nat.zero_le _,by simp⟩ ?_
 rintro i _ ⟨rfl,hi,hall⟩ ih
 refine zgo ?_
 refine Runs.cond_dec rfl (fun hlt=>?_) (fun hge=>?_)
 rotate_left
 ·rw [List.take_of_length_le (by omega)] at hall
  refine zgo ?_
  refine Runs.ret Tryd.func57 (ret1 Tryd.results57 rfl) ⟨rfl,?_⟩
  congr 1;symm
  exact List.all_eq_true.2 fun k hk=>decide_eq_true (hall k hk)
 have hlt':i<L.length:=by omega
 have hget:L[i]? = some L[i]:=List.getElem?_eq_getElem hlt'
 have hmem:L[i]∈L:=List.getElem_mem hlt'
 have hsn:L.take (i+1)=L.take i++[L[i]]:=List.take_succ_eq_append_getElem hlt'
 generalize L[i]=a at *
 obtain ⟨b0,p0,cap0,hv0,_,hcs⟩:=hr.pos (by omega)
 cases hv0
 have c3:cellAt h b0 (p0+i*5+3)=some (.string (str [UInt8.ofNat (markX ps orx a)])):=flat_get (slX_len ps sd orx) hcs hget 3 _ rfl
 refine zgo ?_
 refine Runs.cond_ndec rfl (fun hne=>?_) (fun heq=>?_)
 ·refine zgo ?_
  refine Runs.ret Tryd.func57 (ret1 Tryd.results57 rfl) ⟨rfl,?_⟩
  congr 1;symm
  exact List.all_eq_false.2 ⟨a,hmem,by simpa using fun e=>hne ((mark32 ps orx a).2 e)⟩
 ·refine zgo ?_
  refine ih (i+1) _ _ (by omega) ⟨rfl,rfl,trivial⟩ ⟨rfl,hlt',fun k hk=>?_⟩
  rw [hsn] at hk
  rcases List.mem_append.1 hk with e | e
  ·exact hall k e
  ·simp at e;subst e;exact (mark32 ps orx _).1 heq
theorem xClean_ret {F:Nat→Prop} (xb:Nat) (l:List PD3) (lv:Value) (h:Heap) (hb:Blk h xb [lv] 65) (hs:XS F h lv l) (hF:∀ k,F k→k<h.size) (hinv:Inv (l.map PD3.p)) :
  Ret Tryd.prog 33 #[.pointer (some ⟨xb,0,none⟩)] h fun v h'=>Ext h h'∧∃ sd orx,NumX (l.map PD3.p) sd orx∧v = .bool (blankX (l.map PD3.p) orx (ordX (l.map PD3.p) sd)):=by
 refine Ret.of_body Tryd.func33 rfl Tryd.ntmps33 rfl rfl ?_
 have x0:=hb.cell (j:=0) rfl
 have hnX:nX (l.map PD3.p)≤90:=hinv.lines
 refine zgo ?_
 refine WO.call rfl rfl rfl rfl plain_Shown rfl (Shown_ret lv l _ hs hF hinv) fun v1 h1 ⟨hx1,sd,orx,hnum,ho1,hm1⟩=>?_
 have hlenX:=ordX_length (l.map PD3.p) sd
 refine zgo ?_
 refine WO.call rfl rfl rfl rfl plain_allBlank rfl (allBlank_ret (l.map PD3.p) sd orx _ v1 _ ho1.rd (by omega)) fun v2 h2 ⟨hh2,hv2⟩=>?_
 subst hh2 hv2
 refine zgo ?_
 exact Runs.ret Tryd.func33 (ret1 Tryd.results33 rfl) ⟨hx1,sd,orx,hnum,rfl⟩
def fileX (ps:List PatchD) (L:List Nat):List (List UInt8):=L.map fun k=>(lnX ps k).text
def FileP (ps:List PatchD) (sd:Nat→Int) (orx:Nat→Bool) (h:Heap) (v:Value) (h':Heap):Prop :=
 (blankX ps orx (ordX ps sd)=false∧v = .tuple #[.slice none 0 0,.int .i64 10]) ∨
 (blankX ps orx (ordX ps sd)=true∧∃ w,v = .tuple #[w,.int .i64 0]∧Own h' 9 1 w (fileX ps (ordX ps sd)).length (strs (fileX ps (ordX ps sd)))∧∀ k,w.ownBlock=some k→h.size≤k)
theorem xFile_ret {F:Nat→Prop} (xb:Nat) (l:List PD3) (lv:Value) (h:Heap) (hb:Blk h xb [lv] 65) (hs:XS F h lv l) (hF:∀ k,F k→k<h.size) (hinv:Inv (l.map PD3.p)) :
  Ret Tryd.prog 42 #[.pointer (some ⟨xb,0,none⟩)] h fun v h'=>Ext h h'∧∃ sd orx,NumX (l.map PD3.p) sd orx∧FileP (l.map PD3.p) sd orx h v h':=by
 refine Ret.of_body Tryd.func42 rfl Tryd.ntmps42 rfl rfl ?_
 have x0:=hb.cell (j:=0) rfl
 have hnX:nX (l.map PD3.p)≤90:=hinv.lines
 refine zgo ?_
 refine WO.call rfl rfl rfl rfl plain_Shown rfl (Shown_ret lv l _ hs hF hinv) fun v1 h1 ⟨hx1,sd,orx,hnum,ho1,hm1⟩=>?_
 have hlenX:=ordX_length (l.map PD3.p) sd
 refine zgo ?_
 refine WO.call rfl rfl rfl rfl plain_allBlank rfl (allBlank_ret (l.map PD3.p) sd orx _ v1 _ ho1.rd (by omega)) fun v2 h2 ⟨hh2,hv2⟩=>?_
 subst hh2 hv2
 cases hB:blankX (l.map PD3.p) orx (ordX (l.map PD3.p) sd)
 ·refine zgo ?_
  exact Runs.ret Tryd.func42 (ret2 Tryd.results42 rfl rfl) ⟨hx1,sd,orx,hnum,.inl ⟨hB,rfl⟩⟩
 generalize hL:ordX (l.map PD3.p) sd=L at *
 have hr1:=ho1.rd
 obtain ⟨ad,cap,hv1⟩:=hr1.form
 subst hv1
 have hz1:=hx1.size
 refine zgo ?_
 refine Runs.loop (X:=IV) (fun u=>[(4,.slice ad L.length cap),(5,u.v),(6,.int .i64 (u.i:Int))])
  (fun u h'=>u.i≤L.length∧Ext h2 h'∧Own h' 9 1 u.v (fileX (l.map PD3.p) (L.take u.i)).length (strs (fileX (l.map PD3.p) (L.take u.i)))∧(∀ k,u.v.ownBlock=some k→h2.size≤k))
  (fun u=>L.length-u.i) ⟨0,.slice none 0 0⟩ ⟨rfl,rfl,rfl,trivial⟩ ⟨Nat.zero_le _,Fr.refl _ _,Own.nil _ _ _,fun k hk=>by simp [Value.ownBlock] at hk⟩ ?_
 rintro ⟨i,v⟩ h3 ⟨hi,hx3,ho3,hm3⟩ ih
 dsimp only at hi hx3 ho3 hm3 ih ⊢
 have hz3:=hx3.size
 refine zgo ?_
 refine Runs.cond_dec rfl (fun hlt=>?_) (fun hge=>?_)
 rotate_left
 ·rw [List.take_of_length_le (by omega)] at ho3
  refine zgo ?_
  refine Runs.ret Tryd.func42 (ret2 Tryd.results42 rfl rfl) ⟨hx1.trans hx3,sd,orx,hnum,.inr ⟨by rw [hL];exact hB,v,rfl,by rw [hL];exact ho3,fun k hk=>by have:=hm3 k hk;omega⟩⟩
 have hlt':i<L.length:=by omega
 have hget:L[i]? = some L[i]:=List.getElem?_eq_getElem hlt'
 have hsn:fileX (l.map PD3.p) (L.take (i+1))=fileX (l.map PD3.p) (L.take i)++[(lnX (l.map PD3.p) L[i]).text]:=by unfold fileX;rw [List.take_succ_eq_append_getElem hlt',List.map_append];rfl
 have hfl:(fileX (l.map PD3.p) (L.take i)).length≤i:=by simp [fileX];omega
 generalize L[i]=a at *
 obtain ⟨b0,p0,cap0,hv0,_,hcs⟩:=(hr1.ext hx3).pos (by omega)
 cases hv0
 have c2:cellAt h3 b0 (p0+i*5+2)=some (.string (str (lnX (l.map PD3.p) a).text)):=flat_get (slX_len (l.map PD3.p) sd orx) hcs hget 2 _ rfl
 refine zgo ?_
 refine zh (one_str _) ho3 ?_
 intro v4 h4 o1 o2 o3
 refine zgo ?_
 refine ih ⟨i+1,v4⟩ _ _ (by dsimp only;omega) ⟨rfl,rfl,rfl,trivial⟩ ⟨hlt',hx3.trans_new (o2.mono fun k _ e=>.inr (hm3 k e)),?_,fun k hk=>?_⟩
 ·dsimp only;rw [hsn,strs_append,List.length_append];exact o1
 ·rcases o3 k hk with e | e
  ·exact hm3 k e
  ·omega
def credX (ps:List PatchD) (L:List Nat):List Nat:=L.map fun k=>(lnX ps k).ref.p
end Go.Proofs.YtlaffgagmncgjabDoor
