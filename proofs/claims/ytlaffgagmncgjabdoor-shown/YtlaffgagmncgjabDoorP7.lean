import Derived.Test.YtlaffgagmncgjabDoorP6
import Derived.Test.YtlaffgagmncgjabDoorMem3
set_option maxRecDepth 20000
set_option maxHeartbeats 1600000
namespace Go.Proofs.YtlaffgagmncgjabDoor
open Go Go.Pat Go.Proofs
theorem plain_hasNeeds:Plain Tryd.prog 64:=⟨_,Tryd.func64,by decide +kernel,by rfl⟩
theorem plain_hasLine:Plain Tryd.prog 77:=⟨_,Tryd.func77,by decide +kernel,by rfl⟩
theorem plain_hasLines:Plain Tryd.prog 65:=⟨_,Tryd.func65,by decide +kernel,by rfl⟩
theorem plain_fits:Plain Tryd.prog 52:=⟨_,Tryd.func52,by decide +kernel,by rfl⟩
theorem plain_isNeeded:Plain Tryd.prog 46:=⟨_,Tryd.func46,by decide +kernel,by rfl⟩
theorem plain_refusal:Plain Tryd.prog 40:=⟨_,Tryd.func40,by decide +kernel,by rfl⟩
theorem fdS_map (l:List PD3) (n:Nat):(l.map PD3.p).find? (fun q=>decide (q.id=n))=(fdS l (n:Int)).map PD3.p:=by
 unfold fdS
 induction l with
 | nil=>rfl
 | cons x l ih =>
  simp only [List.map_cons,List.find?_cons]
  by_cases h:x.p.id=n
  ·simp [h]
  ·have:¬ ((x.p.id:Int)=(n:Int)):=by omega
   simp [h,this,ih]
theorem fdS_mem {l:List PD3} {q:Int} {x:PD3} (h:fdS l q=some x):x∈l∧(x.p.id:Int)=q:=by
 refine ⟨List.mem_of_find?_eq_some h,?_⟩
 have:=List.find?_some h
 simpa using this
def foundU (l:List PD3) (q:Int) (u0 u1 u2:Value) (r:Bool):Prop:=(r=true∧∃ y,fdS l q=some y∧y∈l∧[u0,u1,u2]=y.cells)∨(r=false∧fdS l q=none)
theorem found_form {F:Nat→Prop} {h:Heap} {lv:Value} {l:List PD3} {q:Int} {v:Value} (hs:XS F h lv l) (hf:found (fdS l q) v):∃ u0 u1 u2 r,v = .tuple #[.agg #[u0,u1,u2],.bool r]∧One [u0,u1,u2]∧foundU l q u0 u1 u2 r:=by
 unfold found at hf
 split at hf
 ·rename_i x e
  have hm:=(fdS_mem e).1
  exact ⟨_,_,_,true,hf,(hs.pv x hm).one,.inl ⟨rfl,x,e,hm,rfl⟩⟩
 ·rename_i e
  exact ⟨_,_,_,false,hf,one3 _ _ _ _ _ _ _,.inr ⟨rfl,e⟩⟩
def needsX (l:List PD3) (p:PatchD):Bool:=p.needs.all fun n=>(fdS l (n:Int)).isSome
def hasX (l:List PD3) (p:PatchD) (r:RefD):Bool:=(decide (r.p=0)||decide (r.p=p.id))||match fdS l (r.p:Int) with
 | some q=>decide (r.i<ownN q.p.changes)
 | none=>false
theorem hasNeeds_ret {F:Nat→Prop} (xb:Nat) (l:List PD3) (lv:Value) (x:PD3) (h:Heap) (hb:Blk h xb [lv] 65) (hs:XS F h lv l) (hp:PV F h x) (hl:l.length≤1000) (hn:x.p.needs.length≤1000) :
  Ret Tryd.prog 64 #[.pointer (some ⟨xb,0,none⟩),.agg x.cells.toArray] h fun v h'=>Ext h h'∧v = .bool (needsX l x.p):=by
 obtain ⟨ad,cap,hv⟩:=hs.rd.form
 subst hv
 obtain ⟨p,nv,cv⟩:=x
 have hpn:=hp.needs
 obtain ⟨adn,capn,hnv⟩:=hpn.form
 dsimp only at hpn hnv hn ⊢
 subst hnv
 refine Ret.of_body Tryd.func64 rfl Tryd.ntmps64 rfl rfl ?_
 refine zgo ?_
 refine WO.box rfl rfl rfl rfl rfl rfl fun h0 hb0 hx0 hs0=>?_
 have g1:=hb0.cell (j:=1) rfl
 have x0:=hx0.xc (hb.cell (j:=0) rfl)
 refine zgo ?_
 refine Runs.loop (X:=Nat) (fun i=>[(0,.pointer (some ⟨xb,0,none⟩)),(3,.pointer (some ⟨h.size,0,none⟩)),(5,.int .i64 (i:Int))])
  (fun i h'=>Ext h0 h'∧i≤p.needs.length∧∀ n∈p.needs.take i,(fdS l (n:Int)).isSome=true) (fun i=>p.needs.length-i) 0 ⟨rfl,rfl,rfl,trivial⟩ ⟨Fr.refl _ _,Nat.zero_le _,by simp⟩ ?_
 rintro i h1 ⟨hx1,hi,hok⟩ ih
 have hx01:=hx0.trans hx1
 have q1:=hx1.xc g1
 have y0:=hx1.xc x0
 refine zgo ?_
 refine Runs.cond_dec rfl (fun hlt=>?_) (fun hge=>?_)
 ·have hlt':i<p.needs.length:=by omega
  have hget:p.needs[i]? = some p.needs[i]:=List.getElem?_eq_getElem hlt'
  have hmem:p.needs[i]∈p.needs:=List.getElem_mem hlt'
  have htk:p.needs.take (i+1)=p.needs.take i++[p.needs[i]]:=List.take_succ_eq_append_getElem hlt'
  generalize p.needs[i]=n at *
  obtain ⟨b0,p0,cap0,hv,_,hc⟩:=(hpn.ext hx01).cell (ints_get hget)
  cases hv
  refine zgo ?_
  refine Runs.join (fun env' h'=>∃ u0 u1 u2 r vb,Sub [(0,.pointer (some ⟨xb,0,none⟩)),(3,.pointer (some ⟨h.size,0,none⟩)),(5,.int .i64 (i:Int)),(6,.pointer (some ⟨vb,0,none⟩)),(7,.bool r)] env'∧Ext h1 h'∧Blk h' vb [u0,u1,u2] 68∧foundU l (n:Int) u0 u1 u2 r) (fun hJ=>?_) ?_
  ·refine Runs.drawn (m:=16) (fun h'=>Ext h1 h') (fun _=>false) mixed rfl ?_
   refine zp 0 (Fr.refl _ _) ?_
   refine zp 1 (Fr.refl _ _) ?_
   refine zp 2 (Fr.refl _ _) ?_
   refine zl 3 (fun _ hS=>(Fr.xc hS y0)) (Fr.refl _ _) ?_
   refine zp 4 (Fr.refl _ _) ?_
   refine zl 5 (fun _ hS=>(Fr.xc hS q1)) (Fr.refl _ _) ?_
   refine zp 6 (Fr.refl _ _) ?_
   refine zi 7 hlt' (Fr.refl _ _) ?_
   refine zl 8 (fun _ hS=>(Fr.xc hS hc)) (Fr.refl _ _) ?_
   refine WF.two 9 13 (by kernel_rfl) ?_ ?_
   ·refine WFI.call 9 rfl rfl rfl rfl rfl plain_Find rfl (Find_ret l _ (n:Int) _ (hs.ext hx01) hl) fun v2 h2 ⟨hx2,hf2⟩=>⟨.inr hx2,?_⟩
    obtain ⟨u0,u1,u2,r,hv2,hone,hU⟩:=found_form (hs.ext hx01) hf2
    subst hv2
    refine zp 10 hx2 ?_
    refine zp 11 hx2 ?_
    refine zp 12 hx2 ?_
    refine WF.var 13 14 tab_ok (by kernel_rfl) (by kernel_rfl) rfl rfl rfl rfl rfl rfl rfl rfl rfl rfl rfl rfl (by simp) rfl rfl hone rfl (fun h' hx'=>hx2.trans hx') fun h3 hb3 hx3 hs3=>?_
    have hx23:=hx2.trans hx3
    refine zp 15 hx23 ?_
    refine WF.done (by kernel_rfl) ?_
    exact hJ _ _ ⟨u0,u1,u2,r,_,⟨rfl,rfl,rfl,rfl,rfl,trivial⟩,hx2.trans hx3,hb3,hU⟩
   ·refine WFI.alloc 13 tab_ok rfl rfl rfl rfl rfl rfl rfl (fun _ e=>e) fun h2 hb2 hx2 hs2=>?_
    refine WF.call 9 (by kernel_rfl) rfl rfl rfl rfl rfl plain_Find rfl (Find_ret l _ (n:Int) _ (hs.ext (hx01.trans hx2)) hl) fun v3 h3 ⟨hx3,hf3⟩=>⟨.inr (hx2.trans hx3),?_⟩
    obtain ⟨u0,u1,u2,r,hv3,hone,hU⟩:=found_form (hs.ext hx01) hf3
    subst hv3
    have hx23:=hx2.trans hx3
    refine zp 10 hx23 ?_
    refine zp 11 hx23 ?_
    refine zp 12 hx23 ?_
    refine WF.putS 14 tab_ok (by kernel_rfl) rfl rfl rfl rfl rfl rfl rfl rfl rfl hone (hb2.ext hx3) rfl (fun h' hf'=>Fr.wr hx23 hf' (Nat.le_refl _)) fun h4 hb4 hx4 hs4=>?_
    have hx24:Ext h1 h4:=Fr.wr hx23 hx4 (Nat.le_refl _)
    refine zp 15 hx24 ?_
    refine WF.done (by kernel_rfl) ?_
    exact hJ _ _ ⟨u0,u1,u2,r,_,⟨rfl,rfl,rfl,rfl,rfl,trivial⟩,Fr.wr hx23 hx4 (Nat.le_refl _),hb4,hU⟩
  rintro env' h2 ⟨u0,u1,u2,r,vb,hsub,hx2,hb2,hU⟩
  refine Runs.sub hsub ?_
  clear hsub env'
  have hx02:=hx01.trans hx2
  rcases hU with ⟨rfl,y,hfd,_,_⟩ | ⟨rfl,hfd⟩
  ·refine zgo ?_
   refine ih (i+1) _ _ (by omega) ⟨rfl,rfl,rfl,trivial⟩ ⟨hx1.trans hx2,hlt',fun m hm=>?_⟩
   rw [htk] at hm
   rcases List.mem_append.1 hm with e | e
   ·exact hok m e
   ·simp at e;rw [e,hfd];rfl
  ·refine zgo ?_
   refine Runs.ret Tryd.func64 (ret1 Tryd.results64 rfl) ⟨hx02,?_⟩
   congr 1;symm
   unfold needsX
   rw [List.all_eq_false]
   exact ⟨n,hmem,by rw [hfd];simp⟩
 ·rw [List.take_of_length_le (by omega)] at hok
  refine zgo ?_
  refine Runs.ret Tryd.func64 (ret1 Tryd.results64 rfl) ⟨hx01,?_⟩
  congr 1;symm
  exact List.all_eq_true.2 hok
theorem hasLine_ret {F:Nat→Prop} (xb:Nat) (l:List PD3) (lv:Value) (x:PD3) (r:RefD) (h:Heap) (hb:Blk h xb [lv] 65) (hs:XS F h lv l) (hl:l.length≤1000) (hcl:∀ y∈l,y.p.changes.length≤1000) :
  Ret Tryd.prog 77 #[.pointer (some ⟨xb,0,none⟩),.agg x.cells.toArray,.agg r.cells.toArray] h fun v h'=>Ext h h'∧v = .bool (hasX l x.p r):=by
 obtain ⟨ad,cap,hv⟩:=hs.rd.form
 subst hv
 refine Ret.of_body Tryd.func77 rfl Tryd.ntmps77 rfl rfl ?_
 refine zgo ?_
 refine WO.box rfl rfl rfl rfl rfl rfl fun h0 hb0 hx0 hs0=>?_
 refine zgo ?_
 refine WO.box rfl rfl rfl rfl rfl rfl fun h1 hb1 hx1 hs1=>?_
 have hx01:=hx0.trans hx1
 have g0:=(hb0.ext hx1).cell (j:=0) rfl
 have r0:=hb1.cell (j:=0) rfl
 have r1:=hb1.cell (j:=1) rfl
 have x0:=hx01.xc (hb.cell (j:=0) rfl)
 have yes:(r.p=0∨r.p=x.p.id)→hasX l x.p r=true:=fun e=>by
  unfold hasX
  rcases e with e | e<;>simp [e]
 refine zgo ?_
 by_cases h0':r.p=0
 ·have hd:decide ((r.p:Int)=0)=true:=decide_eq_true (by omega)
  rw [hd]
  refine zgo ?_
  exact Runs.ret Tryd.func77 (ret1 Tryd.results77 rfl) ⟨hx01,by rw [yes (.inl h0')]⟩
 have hd:decide ((r.p:Int)=0)=false:=decide_eq_false (by omega)
 rw [hd]
 refine zgo ?_
 refine Runs.cond_dec rfl (fun hi=>?_) (fun hi=>?_)
 ·refine zgo ?_
  exact Runs.ret Tryd.func77 (ret1 Tryd.results77 rfl) ⟨hx01,by rw [yes (.inr (by omega))]⟩
 have hX:hasX l x.p r=match fdS l (r.p:Int) with
   | some q=>decide (r.i<ownN q.p.changes)
   | none=>false:=by
  unfold hasX
  have:¬ r.p=x.p.id:=by omega
  simp [h0',this]
 rw [hX]
 refine zgo ?_
 refine Runs.join (fun env' h'=>∃ u0 u1 u2 rr vb,Sub [(5,.pointer (some ⟨h0.size,0,none⟩)),(7,.pointer (some ⟨vb,0,none⟩)),(8,.bool rr)] env'∧Ext h1 h'∧Blk h' vb [u0,u1,u2] 68∧foundU l (r.p:Int) u0 u1 u2 rr) (fun hJ=>?_) ?_
 ·refine Runs.drawn (m:=13) (fun h'=>Ext h1 h') (fun _=>false) mixed rfl ?_
  refine zp 0 (Fr.refl _ _) ?_
  refine zp 1 (Fr.refl _ _) ?_
  refine zp 2 (Fr.refl _ _) ?_
  refine zl 3 (fun _ hS=>(Fr.xc hS x0)) (Fr.refl _ _) ?_
  refine zp 4 (Fr.refl _ _) ?_
  refine zl 5 (fun _ hS=>(Fr.xc hS r0)) (Fr.refl _ _) ?_
  refine WF.two 6 10 (by kernel_rfl) ?_ ?_
  ·refine WFI.call 6 rfl rfl rfl rfl rfl plain_Find rfl (Find_ret l _ (r.p:Int) _ (hs.ext hx01) hl) fun v2 h2 ⟨hx2,hf2⟩=>⟨.inr hx2,?_⟩
   obtain ⟨u0,u1,u2,rr,hv2,hone,hU⟩:=found_form (hs.ext hx01) hf2
   subst hv2
   refine zp 7 hx2 ?_
   refine zp 8 hx2 ?_
   refine zp 9 hx2 ?_
   refine WF.var 10 11 tab_ok (by kernel_rfl) (by kernel_rfl) rfl rfl rfl rfl rfl rfl rfl rfl rfl rfl rfl rfl (by simp) rfl rfl hone rfl (fun h' hx'=>hx2.trans hx') fun h3 hb3 hx3 hs3=>?_
   have hx23:=hx2.trans hx3
   refine zp 12 hx23 ?_
   refine WF.done (by kernel_rfl) ?_
   exact hJ _ _ ⟨u0,u1,u2,rr,_,⟨rfl,rfl,rfl,trivial⟩,hx2.trans hx3,hb3,hU⟩
  ·refine WFI.alloc 10 tab_ok rfl rfl rfl rfl rfl rfl rfl (fun _ e=>e) fun h2 hb2 hx2 hs2=>?_
   refine WF.call 6 (by kernel_rfl) rfl rfl rfl rfl rfl plain_Find rfl (Find_ret l _ (r.p:Int) _ (hs.ext (hx01.trans hx2)) hl) fun v3 h3 ⟨hx3,hf3⟩=>⟨.inr (hx2.trans hx3),?_⟩
   obtain ⟨u0,u1,u2,rr,hv3,hone,hU⟩:=found_form (hs.ext hx01) hf3
   subst hv3
   have hx23:=hx2.trans hx3
   refine zp 7 hx23 ?_
   refine zp 8 hx23 ?_
   refine zp 9 hx23 ?_
   refine WF.putS 11 tab_ok (by kernel_rfl) rfl rfl rfl rfl rfl rfl rfl rfl rfl hone (hb2.ext hx3) rfl (fun h' hf'=>Fr.wr hx23 hf' (Nat.le_refl _)) fun h4 hb4 hx4 hs4=>?_
   have hx24:Ext h1 h4:=Fr.wr hx23 hx4 (Nat.le_refl _)
   refine zp 12 hx24 ?_
   refine WF.done (by kernel_rfl) ?_
   exact hJ _ _ ⟨u0,u1,u2,rr,_,⟨rfl,rfl,rfl,trivial⟩,Fr.wr hx23 hx4 (Nat.le_refl _),hb4,hU⟩
 rintro env' h2 ⟨u0,u1,u2,rr,vb,hsub,hx2,hb2,hU⟩
 refine Runs.sub hsub ?_
 clear hsub env'
 have hx02:=hx01.trans hx2
 have r1':=hx2.xc r1
 rcases hU with ⟨rfl,y,hfd,hym,hus⟩ | ⟨rfl,hfd⟩
 ·rw [hus] at hb2
  have k3:Cells h2 vb 0 y.cells:=hb2.cells
  have hpy3:=(hs.pv y hym).ext hx02
  rw [hfd]
  dsimp only
  refine zgo ?_
  refine Runs.drawn (m:=9) (fun h'=>Ext h2 h') (fun _=>false) mixed rfl ?_
  refine zp 0 (Fr.refl _ _) ?_
  refine zp 1 (Fr.refl _ _) ?_
  refine zp 2 (Fr.refl _ _) ?_
  refine zl 3 (fun _ hS=>(Fr.xc hS r1')) (Fr.refl _ _) ?_
  refine zL 4 (fun _ hS=>(Fr.xcs hS k3)) (Fr.refl _ _) ?_
  refine WF.call 5 (by kernel_rfl) rfl rfl rfl rfl rfl plain_Lines rfl (Lines_ret y _ hpy3 (by have:=hcl y hym;omega)) fun v4 h4 ⟨hx4,hv4⟩=>⟨.inr hx4,?_⟩
  subst hv4
  refine zp 6 hx4 ?_
  refine zp 7 hx4 ?_
  refine zp 8 hx4 ?_
  refine WF.done (by kernel_rfl) ?_
  refine zgo ?_
  refine Runs.ret Tryd.func77 (ret1 Tryd.results77 rfl) ⟨hx02.trans hx4,?_⟩
  congr 1
  exact decide_eq_decide.2 (by omega)
 ·rw [hfd]
  dsimp only
  refine zgo ?_
  refine Runs.drawn (m:=9) (fun h'=>Ext h2 h') (fun _=>false) mixed rfl ?_
  refine zp 0 (Fr.refl _ _) ?_
  refine zp 1 (Fr.refl _ _) ?_
  refine zq 2 (Fr.refl _ _) ?_
  refine zq 3 (Fr.refl _ _) ?_
  refine zq 4 (Fr.refl _ _) ?_
  refine zq 5 (Fr.refl _ _) ?_
  refine zq 6 (Fr.refl _ _) ?_
  refine zp 7 (Fr.refl _ _) ?_
  refine zp 8 (Fr.refl _ _) ?_
  refine WF.done (by kernel_rfl) ?_
  refine zgo ?_
  exact Runs.ret Tryd.func77 (ret1 Tryd.results77 rfl) ⟨hx02,rfl⟩
theorem hasLines_ret {F:Nat→Prop} (xb:Nat) (l:List PD3) (lv:Value) (x:PD3) (h:Heap) (hb:Blk h xb [lv] 65) (hs:XS F h lv l) (hp:PV F h x) (hl:l.length≤1000) (hcl:∀ y∈l,y.p.changes.length≤1000) (hn:x.p.changes.length≤1000) :
  Ret Tryd.prog 65 #[.pointer (some ⟨xb,0,none⟩),.agg x.cells.toArray] h fun v h'=>Ext h h'∧v = .bool (x.p.changes.all fun c=>hasX l x.p c.up&&hasX l x.p c.down):=by
 obtain ⟨p,nv,cv⟩:=x
 have hpc:=hp.changes
 obtain ⟨adc,capc,hcv⟩:=hpc.form
 dsimp only at hpc hcv hn ⊢
 subst hcv
 refine Ret.of_body Tryd.func65 rfl Tryd.ntmps65 rfl rfl ?_
 refine zgo ?_
 refine WO.box rfl rfl rfl rfl rfl rfl fun h0 hb0 hx0 hs0=>?_
 have g2:=hb0.cell (j:=2) rfl
 refine zgo ?_
 refine Runs.loop (X:=Nat) (fun i=>[(0,.pointer (some ⟨xb,0,none⟩)),(3,.pointer (some ⟨h.size,0,none⟩)),(5,.int .i64 (i:Int))])
  (fun i h'=>Ext h0 h'∧i≤p.changes.length∧∀ c∈p.changes.take i,(hasX l p c.up&&hasX l p c.down)=true) (fun i=>p.changes.length-i) 0 ⟨rfl,rfl,rfl,trivial⟩ ⟨Fr.refl _ _,Nat.zero_le _,by simp⟩ ?_
 rintro i h1 ⟨hx1,hi,hok⟩ ih
 have hx01:=hx0.trans hx1
 have q2:=hx1.xc g2
 refine zgo ?_
 refine Runs.cond_dec rfl (fun hlt=>?_) (fun hge=>?_)
 ·have hlt':i<p.changes.length:=by omega
  have hget:p.changes[i]? = some p.changes[i]:=List.getElem?_eq_getElem hlt'
  have hmem:p.changes[i]∈p.changes:=List.getElem_mem hlt'
  have htk:p.changes.take (i+1)=p.changes.take i++[p.changes[i]]:=List.take_succ_eq_append_getElem hlt'
  generalize p.changes[i]=c at *
  obtain ⟨b0,p0,cap0,hv,_,hcs⟩:=(hpc.ext hx01).pos (by omega)
  cases hv
  have hcc:=changes_get hcs hget
  refine zgo ?_
  refine zv c.one fun h2 hb2 hx2 hs2=>?_
  have hx02:=hx01.trans hx2
  have k1:Cells h2 h.size 0 (PD3.cells ⟨p,nv,.slice (some ⟨b0,p0,none⟩) p.changes.length capc⟩):=(hx1.trans hx2).xcs hb0.cells
  have k2:Cells h2 h1.size (0+1) c.up.cells:=hb2.cells.tail.take 2
  refine zgo ?_
  refine WO.call rfl rfl rfl rfl plain_hasLine rfl (hasLine_ret xb l lv ⟨p,nv,_⟩ c.up _ (hb.ext hx02) (hs.ext hx02) hl hcl) fun v3 h3 ⟨hx3,hv3⟩=>?_
  subst hv3
  dsimp only
  have hx03:=hx02.trans hx3
  have bad:(hasX l p c.up&&hasX l p c.down)=false→Value.bool false = .bool (p.changes.all fun c=>hasX l p c.up&&hasX l p c.down):=fun hf=>by
   congr 1;symm
   rw [List.all_eq_false];exact ⟨c,hmem,by rw [hf];simp⟩
  cases hA:hasX l p c.up
  ·refine zgo ?_
   exact Runs.ret Tryd.func65 (ret1 Tryd.results65 rfl) ⟨hx03,bad (by rw [hA];rfl)⟩
  ·have k3:Cells h3 h.size 0 (PD3.cells ⟨p,nv,.slice (some ⟨b0,p0,none⟩) p.changes.length capc⟩):=hx3.xcs k1
   have k4:Cells h3 h1.size (0+3) c.down.cells:=(hb2.ext hx3).cells.tail.tail.tail.take 2
   refine zgo ?_
   refine WO.call rfl rfl rfl rfl plain_hasLine rfl (hasLine_ret xb l lv ⟨p,nv,_⟩ c.down _ (hb.ext hx03) (hs.ext hx03) hl hcl) fun v4 h4 ⟨hx4,hv4⟩=>?_
   subst hv4
   dsimp only
   cases hB:hasX l p c.down
   ·refine zgo ?_
    exact Runs.ret Tryd.func65 (ret1 Tryd.results65 rfl) ⟨hx03.trans hx4,bad (by rw [hA,hB];rfl)⟩
   ·refine zgo ?_
    refine ih (i+1) _ _ (by omega) ⟨rfl,rfl,rfl,trivial⟩ ⟨((hx1.trans hx2).trans hx3).trans hx4,hlt',fun d hd=>?_⟩
    rw [htk] at hd
    rcases List.mem_append.1 hd with e | e
    ·exact hok d e
    ·simp at e;rw [e,hA,hB];rfl
 ·rw [List.take_of_length_le (by omega)] at hok
  refine zgo ?_
  refine Runs.ret Tryd.func65 (ret1 Tryd.results65 rfl) ⟨hx01,?_⟩
  congr 1;symm
  exact List.all_eq_true.2 hok
def ownsX (l:List PD3):Nat:=(l.map fun x=>ownN x.p.changes).sum
theorem fits_ret {F:Nat→Prop} (l:List PD3) (lv:Value) (h:Heap) (hs:XS F h lv l) (hl:l.length≤1000) (hcl:∀ y∈l,y.p.changes.length≤1000) :
  Ret Tryd.prog 52 #[lv] h fun v h'=>Ext h h'∧v = .bool (decide (l.length≤20)&&decide (ownsX l≤90)):=by
 obtain ⟨ad,cap,hv⟩:=hs.rd.form
 subst hv
 refine Ret.of_body Tryd.func52 rfl Tryd.ntmps52 rfl rfl ?_
 refine zgo ?_
 refine Runs.loop (X:=Nat) (fun i=>[(0,.slice ad l.length cap),(3,.int .i64 ((ownsX (l.take i):Nat):Int)),(4,.int .i64 (i:Int))])
  (fun i h'=>Ext h h'∧i≤l.length∧ownsX (l.take i)≤1000*i) (fun i=>l.length-i) 0 ⟨rfl,by rw [List.take_zero];rfl,rfl,trivial⟩ ⟨Fr.refl _ _,Nat.zero_le _,by simp [ownsX]⟩ ?_
 rintro i h2 ⟨hx2,hi,how⟩ ih
 refine zgo ?_
 refine Runs.cond_dec rfl (fun hlt=>?_) (fun hge=>?_)
 ·have hlt':i<l.length:=by omega
  have hget:l[i]? = some l[i]:=List.getElem?_eq_getElem hlt'
  have hmem:l[i]∈l:=List.getElem_mem hlt'
  have hsn:ownsX (l.take (i+1))=ownsX (l.take i)+ownN l[i].p.changes:=by
   unfold ownsX;rw [List.take_succ_eq_append_getElem hlt',List.map_append,List.sum_append];simp
  generalize l[i]=y at *
  obtain ⟨b0,p0,cap0,hv,hc,hpv⟩:=(hs.ext hx2).get hget
  cases hv
  have hyl:=ownN_le y.p.changes
  have hyc:=hcl y hmem
  refine zgo ?_
  refine WO.call rfl rfl rfl rfl plain_Lines rfl (Lines_ret y _ hpv (by omega)) fun v3 h3 ⟨hx3,hv3⟩=>?_
  subst hv3
  refine zgo ?_
  have e:((ownsX (l.take i):Nat):Int)+(ownN y.p.changes:Int)=((ownsX (l.take (i+1)):Nat):Int):=by rw [hsn];omega
  rw [e]
  refine zgo ?_
  exact ih (i+1) _ _ (by omega) ⟨rfl,rfl,rfl,trivial⟩ ⟨hx2.trans hx3,hlt',by rw [hsn];omega⟩
 ·rw [List.take_of_length_le (by omega)]
  refine zgo ?_
  by_cases h20:l.length≤20
  ·have hd:decide ((l.length:Int)≤20)=true:=decide_eq_true (by omega)
   rw [hd]
   refine zgo ?_
   refine Runs.ret Tryd.func52 (ret1 Tryd.results52 rfl) ⟨hx2,?_⟩
   congr 1
   rw [decide_eq_true h20,Bool.true_and]
   exact decide_eq_decide.2 (by omega)
  ·have hd:decide ((l.length:Int)≤20)=false:=decide_eq_false (by omega)
   rw [hd]
   refine zgo ?_
   refine Runs.ret Tryd.func52 (ret1 Tryd.results52 rfl) ⟨hx2,?_⟩
   rw [decide_eq_false h20];rfl
theorem isNeeded_ret {F:Nat→Prop} (xb:Nat) (l:List PD3) (lv:Value) (q:Int) (h:Heap) (hb:Blk h xb [lv] 65) (hs:XS F h lv l) (hl:l.length≤1000) (hcl:∀ y∈l,y.p.needs.length≤1000) :
  Ret Tryd.prog 46 #[.pointer (some ⟨xb,0,none⟩),.int .i64 q] h fun v h'=>h'=h∧v = .bool (l.any fun y=>hasI y.p.needs q):=by
 obtain ⟨ad,cap,hv⟩:=hs.rd.form
 subst hv
 refine Ret.of_body Tryd.func46 rfl Tryd.ntmps46 rfl rfl ?_
 have x0:=hb.cell (j:=0) rfl
 refine zgo ?_
 refine Runs.loop (X:=Nat) (fun i=>[(0,.pointer (some ⟨xb,0,none⟩)),(1,.int .i64 q),(5,.int .i64 (i:Int))])
  (fun i h'=>h=h'∧i≤l.length∧∀ y∈l.take i,hasI y.p.needs q=false) (fun i=>l.length-i) 0 ⟨rfl,rfl,rfl,trivial⟩ ⟨rfl,Nat.zero_le _,by simp⟩ ?_
 rintro i _ ⟨rfl,hi,hno⟩ ih
 refine zgo ?_
 refine Runs.cond_dec rfl (fun hlt=>?_) (fun hge=>?_)
 ·have hlt':i<l.length:=by omega
  have hget:l[i]? = some l[i]:=List.getElem?_eq_getElem hlt'
  have hmem:l[i]∈l:=List.getElem_mem hlt'
  have htk:l.take (i+1)=l.take i++[l[i]]:=List.take_succ_eq_append_getElem hlt'
  generalize l[i]=y at *
  obtain ⟨b0,p0,cap0,hv,hc,hpv⟩:=hs.get hget
  cases hv
  have c1:=hc.tail.head
  refine zgo ?_
  refine WO.call rfl rfl rfl rfl plain_Has rfl (Has_ret y.p.needs y.nv q _ hpv.needs (by have:=hcl y hmem;omega)) fun v3 h3 ⟨hh3,hv3⟩=>?_
  subst hh3 hv3
  refine WO.nil ?_
  refine Runs.cond rfl (fun he=>?_) (fun he=>?_)
  ·refine zgo ?_
   refine Runs.ret Tryd.func46 (ret1 Tryd.results46 rfl) ⟨rfl,?_⟩
   congr 1;symm
   exact List.any_eq_true.2 ⟨y,hmem,he⟩
  ·refine zgo ?_
   refine ih (i+1) _ _ (by omega) ⟨rfl,rfl,rfl,trivial⟩ ⟨rfl,hlt',fun z hz=>?_⟩
   rw [htk] at hz
   rcases List.mem_append.1 hz with e | e
   ·exact hno z e
   ·simp at e;rw [e];exact he
 ·rw [List.take_of_length_le (by omega)] at hno
  refine zgo ?_
  refine Runs.ret Tryd.func46 (ret1 Tryd.results46 rfl) ⟨rfl,?_⟩
  congr 1;symm
  rw [List.any_eq_false]
  intro y hy
  simp [hno y hy]
end Go.Proofs.YtlaffgagmncgjabDoor
