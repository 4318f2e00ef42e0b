import Derived.Test.YtlaffgagmncgjabDoorP3
import Derived.Test.YtlaffgagmncgjabDoorFrm
import Derived.Test.YtlaffgagmncgjabDoorShelf
set_option maxRecDepth 20000
set_option maxHeartbeats 1600000
namespace Go.Proofs.YtlaffgagmncgjabDoor
open Go Go.Pat Go.Proofs
theorem plain_Has:Plain Tryd.prog 62:=⟨_,Tryd.func62,by decide +kernel,by rfl⟩
theorem plain_rise:Plain Tryd.prog 61:=⟨_,Tryd.func61,by decide +kernel,by rfl⟩
theorem plain_maySpeakOf:Plain Tryd.prog 76:=⟨_,Tryd.func76,by decide +kernel,by rfl⟩
theorem plain_changeFormed:Plain Tryd.prog 63:=⟨_,Tryd.func63,by decide +kernel,by rfl⟩
theorem plain_WellFormed:Plain Tryd.prog 39:=⟨_,Tryd.func39,by decide +kernel,by rfl⟩
theorem plain_Lines:Plain Tryd.prog 70:=⟨_,Tryd.func70,by decide +kernel,by rfl⟩
def hasI (l:List Nat) (q:Int):Bool:=l.any fun x=>decide ((x:Int)=q)
theorem hasI_nat (l:List Nat) (n:Nat):hasI l (n:Int)=l.contains n:=by
 unfold hasI
 rw [Bool.eq_iff_iff]
 simp only [List.any_eq_true,decide_eq_true_eq,List.contains_eq_mem]
 constructor
 ·rintro ⟨x,hx,e⟩
  have:x=n:=by omega
  rw [← this];exact hx
 ·intro hx;exact ⟨n,hx,rfl⟩
theorem Has_ret (l:List Nat) (v:Value) (q:Int) (h:Heap) (hr:Rd h 1 v l.length (ints l)) (hl:l.length≤1000000) :
  Ret Tryd.prog 62 #[v,.int .i64 q] h fun w h'=>h'=h∧w = .bool (hasI l q):=by
 obtain ⟨ad,cap,hv⟩:=hr.form
 subst hv
 refine Ret.of_body Tryd.func62 rfl Tryd.ntmps62 rfl rfl ?_
 refine zgo ?_
 refine Runs.loop (X:=Nat) (fun i=>[(0,.slice ad l.length cap),(1,.int .i64 q),(5,.int .i64 (i:Int))])
  (fun i h'=>h=h'∧i≤l.length∧∀ x∈l.take i,(x:Int)≠q) (fun i=>l.length-i) 0 ⟨rfl,rfl,rfl,trivial⟩ ⟨rfl,Nat.zero_le _,by simp⟩ ?_
 rintro i _ ⟨rfl,hi,hno⟩ ih
 refine zgo ?_
 refine Runs.cond_dec rfl (fun hlt=>?_) (fun hge=>?_)
 ·have hlt':i<l.length:=by omega
  have hget:l[i]? = some l[i]:=List.getElem?_eq_getElem hlt'
  have hmem:l[i]∈l:=List.getElem_mem hlt'
  have htk:l.take (i+1)=l.take i++[l[i]]:=List.take_succ_eq_append_getElem hlt'
  generalize l[i]=x at *
  obtain ⟨b0,p0,cap0,hv,_,hc⟩:=hr.cell (ints_get hget)
  cases hv
  refine zgo ?_
  refine Runs.cond_dec rfl (fun he=>?_) (fun he=>?_)
  ·refine zgo ?_
   refine Runs.ret Tryd.func62 (ret1 Tryd.results62 rfl) ⟨rfl,?_⟩
   congr 1;symm
   exact List.any_eq_true.2 ⟨x,hmem,by simpa using he⟩
  ·refine zgo ?_
   refine ih (i+1) _ _ (by omega) ⟨rfl,rfl,rfl,trivial⟩ ⟨rfl,hlt',fun y hy=>?_⟩
   rw [htk] at hy
   rcases List.mem_append.1 hy with e | e
   ·exact hno y e
   ·simp at e;rw [e];exact he
 ·rw [List.take_of_length_le (by omega)] at hno
  refine zgo ?_
  refine Runs.ret Tryd.func62 (ret1 Tryd.results62 rfl) ⟨rfl,?_⟩
  congr 1;symm
  unfold hasI
  rw [List.any_eq_false]
  intro x hx
  simpa using hno x hx
theorem rise_ret (l:List Nat) (v:Value) (h:Heap) (hr:Rd h 1 v l.length (ints l)) (hl:l.length≤1000000) :
  Ret Tryd.prog 61 #[v] h fun w h'=>h'=h∧w = .bool (riseS l):=by
 obtain ⟨ad,cap,hv⟩:=hr.form
 subst hv
 refine Ret.of_body Tryd.func61 rfl Tryd.ntmps61 rfl rfl ?_
 refine zgo ?_
 refine Runs.loop (X:=Nat) (fun i=>[(0,.slice ad l.length cap),(3,.int .i64 ((i+1:Nat):Int))])
  (fun i h'=>h=h'∧∀ k<i+1,k<l.length→(decide (k=0)||decide (l.getD (k-1) 0<l.getD k 0))=true) (fun i=>l.length-i) 0 ⟨rfl,rfl,trivial⟩ ⟨rfl,fun k hk _=>by simp;omega⟩ ?_
 rintro i _ ⟨rfl,hok⟩ ih
 refine zgo ?_
 refine Runs.cond_dec rfl (fun hlt=>?_) (fun hge=>?_)
 ·have hlt':i+1<l.length:=by omega
  have hget0:l[i]? = some l[i]:=List.getElem?_eq_getElem (by omega)
  have hget1:l[i+1]? = some l[i+1]:=List.getElem?_eq_getElem hlt'
  have e0:l.getD (i+1-1) 0=l[i]:=by simp [List.getD_eq_getElem?_getD,hget0]
  have e1:l.getD (i+1) 0=l[i+1]:=by simp [List.getD_eq_getElem?_getD,hget1]
  generalize l[i]=x at *
  generalize l[i+1]=y at *
  obtain ⟨b0,p0,cap0,hv,_,c0⟩:=hr.cell (ints_get hget0)
  obtain ⟨b1,p1,cap1,hv1,_,c1⟩:=hr.cell (ints_get hget1)
  cases hv
  cases hv1
  have hn:natOf (((i+1:Nat):Int)-1)=some i:=natOf_of (by omega)
  refine zgo ?_
  refine Runs.still mixed (by kernel_rfl) ?_
  refine zws ?_
  refine WS.val (ov_indexAddr tab_ok rfl rfl rfl rfl rfl hn (by omega)) rfl rfl rfl ?_
  refine zws ?_
  refine Runs.cond_dec rfl (fun he=>?_) (fun he=>?_)
  ·refine zgo ?_
   refine Runs.ret Tryd.func61 (ret1 Tryd.results61 rfl) ⟨rfl,?_⟩
   congr 1;symm
   unfold riseS
   rw [List.all_eq_false]
   refine ⟨i+1,by simpa using hlt',?_⟩
   rw [e0,e1];simp;omega
  ·refine zgo ?_
   refine ih (i+1) _ _ (by omega) ⟨rfl,rfl,trivial⟩ ⟨rfl,fun k hk hkl=>?_⟩
   rcases Nat.lt_succ_iff_lt_or_eq.1 hk with e | e
   ·exact hok k e hkl
   ·subst e;rw [e0,e1];simp;omega
 ·refine zgo ?_
  refine Runs.ret Tryd.func61 (ret1 Tryd.results61 rfl) ⟨rfl,?_⟩
  congr 1;symm
  unfold riseS
  rw [List.all_eq_true]
  intro k hk
  simp only [List.mem_range] at hk
  exact hok k (by omega) hk
theorem maySpeakOf_ret {F:Nat→Prop} (x:PD3) (r:RefD) (own:Nat) (h:Heap) (hp:PV F h x) (hl:x.p.needs.length≤1000000) :
  Ret Tryd.prog 76 #[.agg x.cells.toArray,.agg r.cells.toArray,.int .i64 (own:Int)] h fun w h'=>Ext h h'∧w = .bool (speakS x.p r own):=by
 refine Ret.of_body Tryd.func76 rfl Tryd.ntmps76 rfl rfl ?_
 obtain ⟨p,nv,cv⟩:=x
 refine zgo ?_
 refine WO.box rfl rfl rfl rfl rfl rfl fun h1 hb1 hx1 hs1=>?_
 refine zgo ?_
 refine WO.box rfl rfl rfl rfl rfl rfl fun h2 hb2 hx2 hs2=>?_
 have hx:=hx1.trans hx2
 have hb1':=hb1.ext hx2
 have g0:=hb1'.cell (j:=0) rfl
 have g1:=hb1'.cell (j:=1) rfl
 have r0:=hb2.cell (j:=0) rfl
 have r1:=hb2.cell (j:=1) rfl
 have hrn:=(hp.needs).ext hx
 dsimp only at hrn hl ⊢
 unfold speakS
 refine zgo ?_
 refine Runs.cond_dec rfl (fun h0=>?_) (fun h0=>?_)
 ·refine zgo ?_
  refine Runs.ret Tryd.func76 (ret1 Tryd.results76 rfl) ⟨hx,?_⟩
  congr 1
  have:r.p=0:=by omega
  simp [this]
 ·have h0':r.p≠0:=by omega
  refine zgo ?_
  refine Runs.cond_dec rfl (fun h1=>?_) (fun h1=>?_)
  ·refine zgo ?_
   refine Runs.ret Tryd.func76 (ret1 Tryd.results76 rfl) ⟨hx,?_⟩
   congr 1
   have:r.p=p.id:=by dsimp only at h1;omega
   simp [this]
   intro e;omega
  ·refine zgo ?_
   refine WO.call rfl rfl rfl rfl plain_Has rfl (Has_ret p.needs nv _ _ hrn hl) fun v3 h3 ⟨hh3,hv3⟩=>?_
   subst hh3 hv3
   refine zgo ?_
   refine Runs.ret Tryd.func76 (ret1 Tryd.results76 rfl) ⟨hx,?_⟩
   congr 1
   rw [hasI_nat,if_neg (by dsimp only at h1;omega)]
   simp [h0']
theorem changeFormed_ret {F:Nat→Prop} (x:PD3) (c:ChangeD) (own:Nat) (h:Heap) (hp:PV F h x) (hl:x.p.needs.length≤1000000) :
  Ret Tryd.prog 63 #[.agg x.cells.toArray,.agg c.cells.toArray,.int .i64 (own:Int)] h fun w h'=>Ext h h'∧w = .bool (chFormS x.p c own):=by
 refine Ret.of_body Tryd.func63 rfl Tryd.ntmps63 rfl rfl ?_
 obtain ⟨p,nv,cv⟩:=x
 refine zgo ?_
 refine WO.box rfl rfl rfl rfl rfl rfl fun h1 hb1 hx1 hs1=>?_
 refine zgo ?_
 refine WO.box rfl rfl rfl rfl rfl rfl fun h2 hb2 hx2 hs2=>?_
 have hx:=hx1.trans hx2
 have hb1':=hb1.ext hx2
 have k1:Cells h2 h.size 0 (PD3.cells ⟨p,nv,cv⟩):=hb1'.cells
 have k2:Cells h2 h1.size (0+1) c.up.cells:=hb2.cells.tail.take 2
 refine zgo ?_
 refine WO.call rfl rfl rfl rfl plain_maySpeakOf rfl (maySpeakOf_ret ⟨p,nv,cv⟩ c.up own _ (hp.ext hx) hl) fun v3 h3 ⟨hx3,hv3⟩=>?_
 subst hv3
 dsimp only
 have hb13:=hb1'.ext hx3
 have hb23:=hb2.ext hx3
 have hx03:=hx.trans hx3
 have k3:Cells h3 h.size 0 (PD3.cells ⟨p,nv,cv⟩):=hb13.cells
 have k4:Cells h3 h1.size (0+3) c.down.cells:=hb23.cells.tail.tail.tail.take 2
 unfold chFormS
 cases hS1:speakS p c.up own
 ·refine zgo ?_
  exact Runs.ret Tryd.func63 (ret1 Tryd.results63 rfl) ⟨hx03,rfl⟩
 ·refine zgo ?_
  refine WO.call rfl rfl rfl rfl plain_maySpeakOf rfl (maySpeakOf_ret ⟨p,nv,cv⟩ c.down own _ (hp.ext hx03) hl) fun v4 h4 ⟨hx4,hv4⟩=>?_
  subst hv4
  dsimp only
  have hb14:=hb13.ext hx4
  have hb24:=hb23.ext hx4
  have hx04:=hx03.trans hx4
  have q0:=hb24.cell (j:=0) rfl
  have q1:=hb24.cell (j:=1) rfl
  have q5:=hb14.cell (j:=0) rfl
  have k5:Cells h4 h1.size (0+1) c.up.cells:=hb24.cells.tail.take 2
  have k6:Cells h4 h1.size (0+3) c.down.cells:=hb24.cells.tail.tail.tail.take 2
  cases hS2:speakS p c.down own
  ·refine zgo ?_
   exact Runs.ret Tryd.func63 (ret1 Tryd.results63 rfl) ⟨hx04,rfl⟩
  ·refine zgo ?_
   refine Runs.cond_dec rfl (fun h20=>?_) (fun h20=>?_)
   ·refine zgo ?_
    refine Runs.ret Tryd.func63 (ret1 Tryd.results63 rfl) ⟨hx04,?_⟩
    congr 1
    have:c.kind=2:=by omega
    rw [if_pos this]
    simp only [Bool.true_and]
    congr 1
    exact decide_eq_decide.2 (by omega)
   ·refine zgo ?_
    refine Runs.cond_dec rfl (fun h30=>?_) (fun h30=>?_)
    ·refine zgo ?_
     refine WO.val (ov_neq2 (two_of (by kernel_rfl)) rfl rfl rfl) rfl rfl rfl ?_
     refine zgo ?_
     refine Runs.ret Tryd.func63 (ret1 Tryd.results63 rfl) ⟨hx04,?_⟩
     congr 1
     have h3':c.kind=3:=by omega
     rw [if_neg (by omega),if_pos h3']
     simp only [Bool.true_and]
     congr 1
     rw [Bool.eq_iff_iff,decide_eq_true_iff,RefD.eqb_iff]
     refine ⟨fun e=>?_,fun e=>by rw [e];exact ⟨rfl,rfl⟩⟩
     obtain ⟨_,⟨_,_⟩,⟨_,_⟩,_⟩:=c
     simp at e ⊢
     omega
    ·refine zgo ?_
     refine Runs.ret Tryd.func63 (ret1 Tryd.results63 rfl) ⟨hx04,?_⟩
     rw [if_neg (by omega),if_neg (by omega)]
     rfl
structure IO2 where
 (i own:Nat)
theorem WellFormed_ret {F:Nat→Prop} (x:PD3) (h:Heap) (hp:PV F h x) (hl:x.p.needs.length≤1000000) (hl2:x.p.changes.length≤1000000) :
  Ret Tryd.prog 39 #[.agg x.cells.toArray] h fun w h'=>Ext h h'∧w = .bool (wellS x.p):=by
 refine Ret.of_body Tryd.func39 rfl Tryd.ntmps39 rfl rfl ?_
 obtain ⟨p,nv,cv⟩:=x
 obtain ⟨adc,capc,hcv⟩:=hp.changes.form
 dsimp only at hcv hl hl2 ⊢
 subst hcv
 refine zgo ?_
 refine WO.box rfl rfl rfl rfl rfl rfl fun h1 hb1 hx1 hs1=>?_
 have g0:=hb1.cell (j:=0) rfl
 have g1:=hb1.cell (j:=1) rfl
 have g2:=hb1.cell (j:=2) rfl
 have hrn:=(hp.needs).ext hx1
 dsimp only at hrn
 refine zgo ?_
 refine WO.call rfl rfl rfl rfl plain_rise rfl (rise_ret p.needs nv _ hrn hl) fun v2 h2 ⟨hh2,hv2⟩=>?_
 subst hh2 hv2
 unfold wellS
 cases hR:riseS p.needs
 ·refine zgo ?_
  exact Runs.ret Tryd.func39 (ret1 Tryd.results39 rfl) ⟨hx1,rfl⟩
 ·refine zgo ?_
  refine WO.call rfl rfl rfl rfl plain_Has rfl (Has_ret p.needs nv _ _ hrn hl) fun v3 h3 ⟨hh3,hv3⟩=>?_
  subst hh3 hv3
  rw [hasI_nat]
  cases hC:p.needs.contains p.id
  rotate_left
  ·refine zgo ?_
   exact Runs.ret Tryd.func39 (ret1 Tryd.results39 rfl) ⟨hx1,rfl⟩
  ·refine zgo ?_
   refine Runs.loop (X:=IO2) (fun y=>[(1,.pointer (some ⟨h.size,0,none⟩)),(3,.int .i64 (y.own:Int)),(4,.int .i64 (y.i:Int))])
    (fun y h'=>Ext h3 h'∧y.i≤p.changes.length∧y.own=ownN (p.changes.take y.i)∧∀ k<y.i,chFormAt p k=true) (fun y=>p.changes.length-y.i) ⟨0,0⟩ ⟨rfl,rfl,rfl,trivial⟩ ⟨Fr.refl _ _,Nat.zero_le _,by simp [ownN],fun k hk=>absurd hk (Nat.not_lt_zero _)⟩ ?_
   rintro ⟨i,own⟩ h4 ⟨hx4,hi,how,hok⟩ ih
   dsimp only at hx4 hi how hok ih ⊢
   have hx04:=hx1.trans hx4
   have q2:=hx4.xc g2
   have howl:own≤i:=by
    rw [how]
    have:=ownN_le (p.changes.take i)
    simp at this;omega
   refine zgo ?_
   refine Runs.cond_dec rfl (fun hlt=>?_) (fun hge=>?_)
   ·have hlt':i<p.changes.length:=by omega
    have hget:p.changes[i]? = some p.changes[i]:=List.getElem?_eq_getElem hlt'
    have hsn:ownN (p.changes.take (i+1))=own+if p.changes[i].kind=1 then 1 else 0:=by rw [List.take_succ_eq_append_getElem hlt',ownN_snoc,how]
    have hat:chFormAt p i=chFormS p p.changes[i] own:=by simp only [chFormAt,hget,how]
    generalize p.changes[i]=c at *
    obtain ⟨b0,p0,cap0,hv,_,hcs⟩:=(hp.changes.ext hx04).pos (by dsimp only;omega)
    cases hv
    have hcc:=changes_get hcs hget
    refine zgo ?_
    refine zv c.one fun h5 hb5 hx5 hs5=>?_
    have hx05:=hx04.trans hx5
    have k1:Cells h5 h.size 0 (PD3.cells ⟨p,nv,.slice (some ⟨b0,p0,none⟩) p.changes.length capc⟩):=(hx4.trans hx5).xcs hb1.cells
    have k2:Cells h5 h4.size 0 c.cells:=hb5.cells
    refine zgo ?_
    refine WO.call rfl rfl rfl rfl plain_changeFormed rfl (changeFormed_ret ⟨p,nv,_⟩ c own _ (hp.ext hx05) hl) fun v6 h6 ⟨hx6,hv6⟩=>?_
    subst hv6
    dsimp only
    rw [← hat]
    have hx06:=hx05.trans hx6
    have q6:=(hb5.ext hx6).cell (j:=0) rfl
    cases hF:chFormAt p i
    ·refine zgo ?_
     refine Runs.ret Tryd.func39 (ret1 Tryd.results39 rfl) ⟨hx06,?_⟩
     congr 1;symm
     have:(List.range p.changes.length).all (chFormAt p)=false:=by
      rw [List.all_eq_false];exact ⟨i,by simpa using hlt',by simp [hF]⟩
     rw [this];simp
    ·have hok':∀ k<i+1,chFormAt p k=true:=fun k hk=>by
      rcases Nat.lt_succ_iff_lt_or_eq.1 hk with e | e
      ·exact hok k e
      ·subst e;exact hF
     refine zgo ?_
     refine Runs.cond_dec rfl (fun hk1=>?_) (fun hk1=>?_)
     ·refine zgo ?_
      exact ih ⟨i+1,own+1⟩ _ _ (by dsimp only;omega) ⟨rfl,rfl,rfl,trivial⟩ ⟨(hx4.trans hx5).trans hx6,hlt',by dsimp only;rw [hsn,if_pos (by omega)],hok'⟩
     ·refine zgo ?_
      exact ih ⟨i+1,own⟩ _ _ (by dsimp only;omega) ⟨rfl,rfl,rfl,trivial⟩ ⟨(hx4.trans hx5).trans hx6,hlt',by dsimp only;rw [hsn,if_neg (by omega)];rfl,hok'⟩
   ·refine zgo ?_
    refine Runs.ret Tryd.func39 (ret1 Tryd.results39 rfl) ⟨hx04,?_⟩
    congr 1;symm
    have:(List.range p.changes.length).all (chFormAt p)=true:=by
     rw [List.all_eq_true];intro k hk;simp only [List.mem_range] at hk;exact hok k (by omega)
    rw [this];rfl
theorem Lines_ret {F:Nat→Prop} (x:PD3) (h:Heap) (hp:PV F h x) (hl2:x.p.changes.length≤1000000) :
  Ret Tryd.prog 70 #[.agg x.cells.toArray] h fun w h'=>Ext h h'∧w = .int .i64 (ownN x.p.changes:Int):=by
 refine Ret.of_body Tryd.func70 rfl Tryd.ntmps70 rfl rfl ?_
 obtain ⟨p,nv,cv⟩:=x
 obtain ⟨adc,capc,hcv⟩:=hp.changes.form
 dsimp only at hcv hl2 ⊢
 subst hcv
 refine zgo ?_
 refine WO.box rfl rfl rfl rfl rfl rfl fun h1 hb1 hx1 hs1=>?_
 have g2:=hb1.cell (j:=2) rfl
 refine zgo ?_
 refine Runs.loop (X:=IO2) (fun y=>[(1,.pointer (some ⟨h.size,0,none⟩)),(3,.int .i64 (y.own:Int)),(4,.int .i64 (y.i:Int))])
  (fun y h'=>h1=h'∧y.i≤p.changes.length∧y.own=ownN (p.changes.take y.i)) (fun y=>p.changes.length-y.i) ⟨0,0⟩ ⟨rfl,rfl,rfl,trivial⟩ ⟨rfl,Nat.zero_le _,by simp [ownN]⟩ ?_
 rintro ⟨i,own⟩ _ ⟨rfl,hi,how⟩ ih
 dsimp only at hi how ih ⊢
 have howl:own≤i:=by
  rw [how]
  have:=ownN_le (p.changes.take i)
  simp at this;omega
 refine zgo ?_
 refine Runs.cond_dec rfl (fun hlt=>?_) (fun hge=>?_)
 ·have hlt':i<p.changes.length:=by omega
  have hget:p.changes[i]? = some p.changes[i]:=List.getElem?_eq_getElem hlt'
  have hsn:ownN (p.changes.take (i+1))=own+if p.changes[i].kind=1 then 1 else 0:=by rw [List.take_succ_eq_append_getElem hlt',ownN_snoc,how]
  generalize p.changes[i]=c at *
  obtain ⟨b0,p0,cap0,hv,_,hcs⟩:=(hp.changes.ext hx1).pos (by dsimp only;omega)
  cases hv
  have hcc:=(changes_get hcs hget).head
  refine zgo ?_
  refine Runs.cond_dec rfl (fun hk1=>?_) (fun hk1=>?_)
  ·refine zgo ?_
   exact ih ⟨i+1,own+1⟩ _ _ (by dsimp only;omega) ⟨rfl,rfl,rfl,trivial⟩ ⟨rfl,hlt',by dsimp only;rw [hsn,if_pos (by omega)]⟩
  ·refine zgo ?_
   exact ih ⟨i+1,own⟩ _ _ (by dsimp only;omega) ⟨rfl,rfl,rfl,trivial⟩ ⟨rfl,hlt',by dsimp only;rw [hsn,if_neg (by omega)];rfl⟩
 ·rw [List.take_of_length_le (by omega)] at how
  refine zgo ?_
  exact Runs.ret Tryd.func70 (ret1 Tryd.results70 rfl) ⟨hx1,by rw [how]⟩
theorem plain_Itoa:Plain Tryd.prog 66:=⟨_,Tryd.func66,by decide +kernel,by rfl⟩
theorem plain_placeText:Plain Tryd.prog 79:=⟨_,Tryd.func79,by decide +kernel,by rfl⟩
theorem plain_changeText:Plain Tryd.prog 67:=⟨_,Tryd.func67,by decide +kernel,by rfl⟩
theorem plain_Write:Plain Tryd.prog 45:=⟨_,Tryd.func45,by decide +kernel,by rfl⟩
def ItoaOK (T:Heap→Prop):Prop:=(∀ h h',T h→Ext h h'→T h')∧∀ (n:Nat) (h:Heap),T h→n<1000000→Ret Tryd.prog 66 #[.int .i64 (n:Int)] h fun v h'=>Ext h h'∧v = .string (str (decS n))
theorem placeText_ret {T:Heap→Prop} (hI:ItoaOK T) (r:RefD) (h:Heap) (ht:T h) (hr:RefD.ok r):Ret Tryd.prog 79 #[.agg r.cells.toArray] h fun v h'=>Ext h h'∧v = .string (str (refS r)):=by
 refine Ret.of_body Tryd.func79 rfl Tryd.ntmps79 rfl rfl ?_
 obtain ⟨u1,u2,u3⟩:=hr
 have hd1:=decS_len 5 r.p (by omega)
 have hd2:=decS_len 5 r.i (by omega)
 refine zgo ?_
 refine WO.box rfl rfl rfl rfl rfl rfl fun h1 hb1 hx1 hs1=>?_
 have g0:=hb1.cell (j:=0) rfl
 have g1:=hb1.cell (j:=1) rfl
 refine zgo ?_
 refine Runs.cond_ndec rfl (fun hne=>?_) (fun heq=>?_)
 ·refine zgo ?_
  refine WO.call rfl rfl rfl rfl plain_Itoa rfl (hI.2 r.p _ (hI.1 _ _ ht hx1) (by omega)) fun v2 h2 ⟨hx2,hv2⟩=>?_
  subst hv2
  have hx12:=hx1.trans hx2
  have q1:=hx2.xc g1
  refine zgo ?_
  refine WO.call rfl rfl rfl rfl plain_Itoa rfl (hI.2 r.i _ (hI.1 _ _ ht hx12) (by omega)) fun v3 h3 ⟨hx3,hv3⟩=>?_
  subst hv3
  refine zgo ?_
  refine Runs.ret Tryd.func79 (ret1 Tryd.results79 rfl) ⟨hx12.trans hx3,?_⟩
  unfold refS;rw [if_pos (by omega)]
 ·refine zgo ?_
  refine Runs.cond_dec rfl (fun h0=>?_) (fun h0=>?_)
  ·refine zgo ?_
   refine Runs.ret Tryd.func79 (ret1 Tryd.results79 rfl) ⟨hx1,?_⟩
   unfold refS;rw [if_neg (by omega),if_pos (by omega)];rfl
  ·refine zgo ?_
   refine Runs.ret Tryd.func79 (ret1 Tryd.results79 rfl) ⟨hx1,?_⟩
   unfold refS;rw [if_neg (by omega),if_neg (by omega)];rfl
def kind3 (c:ChangeD):Prop:=c.kind=1∨c.kind=2∨c.kind=3
theorem changeText_ret {T:Heap→Prop} (hI:ItoaOK T) (c:ChangeD) (h:Heap) (ht:T h) (hr:ChangeD.ok c) (hk:kind3 c):Ret Tryd.prog 67 #[.agg c.cells.toArray] h fun v h'=>Ext h h'∧v = .string (str (chS c)):=by
 refine Ret.of_body Tryd.func67 rfl Tryd.ntmps67 rfl rfl ?_
 have hl1:=refS_len hr.up
 have hl2:=refS_len hr.down
 have hl3:=hr.text
 refine zgo ?_
 refine WO.box rfl rfl rfl rfl rfl rfl fun h1 hb1 hx1 hs1=>?_
 have k1:Cells h1 h.size (0+1) c.up.cells:=hb1.cells.tail.take 2
 refine zgo ?_
 refine WO.call rfl rfl rfl rfl plain_placeText rfl (placeText_ret hI c.up _ (hI.1 _ _ ht hx1) hr.up) fun v2 h2 ⟨hx2,hv2⟩=>?_
 subst hv2
 have hx12:=hx1.trans hx2
 have hb2:=hb1.ext hx2
 have q0:=hb2.cell (j:=0) rfl
 have k2:Cells h2 h.size (0+3) c.down.cells:=hb2.cells.tail.tail.tail.take 2
 refine zgo ?_
 refine Runs.cond_dec rfl (fun e2=>?_) (fun e2=>?_)
 ·refine zgo ?_
  refine Runs.ret Tryd.func67 (ret1 Tryd.results67 rfl) ⟨hx12,?_⟩
  unfold chS;rw [if_neg (by omega),if_pos (by omega)]
 ·refine zgo ?_
  refine WO.call rfl rfl rfl rfl plain_placeText rfl (placeText_ret hI c.down _ (hI.1 _ _ ht hx12) hr.down) fun v3 h3 ⟨hx3,hv3⟩=>?_
  subst hv3
  have hx13:=hx12.trans hx3
  have hb3:=hb2.ext hx3
  have r0:=hb3.cell (j:=0) rfl
  have r5:=hb3.cell (j:=5) rfl
  refine zgo ?_
  refine Runs.cond_dec rfl (fun e3=>?_) (fun e3=>?_)
  ·refine zgo ?_
   refine Runs.ret Tryd.func67 (ret1 Tryd.results67 rfl) ⟨hx13,?_⟩
   unfold chS;rw [if_neg (by omega),if_neg (by omega)]
  ·have e1:c.kind=1:=by unfold kind3 at hk;omega
   refine zgo ?_
   refine Runs.ret Tryd.func67 (ret1 Tryd.results67 rfl) ⟨hx13,?_⟩
   unfold chS;rw [if_pos e1]
theorem Write_ret {T:Heap→Prop} (hI:ItoaOK T) {F:Nat→Prop} (x:PD3) (h:Heap) (ht:T h) (hp:PV F h x) (hok:PatchD.ok x.p) (hk:∀ c∈x.p.changes,kind3 c):Ret Tryd.prog 45 #[.agg x.cells.toArray] h fun v h'=>Ext h h'∧v = .string (str (textS x.p)):=by
 refine Ret.of_body Tryd.func45 rfl Tryd.ntmps45 rfl rfl ?_
 obtain ⟨p,nv,cv⟩:=x
 obtain ⟨adc,capc,hcv⟩:=hp.changes.form
 obtain ⟨adn,capn,hnv⟩:=hp.needs.form
 have hl:=hok.len
 have hl2:=hok.nlen
 have hidl:=hok.id
 have hpn:=hp.needs
 have hpc:=hp.changes
 dsimp only at hcv hnv hl hl2 hidl hpn hpc hok hk ⊢
 subst hcv hnv
 have hdl:=decS_len 5 p.id (by omega)
 refine zgo ?_
 refine WO.box rfl rfl rfl rfl rfl rfl fun h1 hb1 hx1 hs1=>?_
 have g0:=hb1.cell (j:=0) rfl
 have g1:=hb1.cell (j:=1) rfl
 have g2:=hb1.cell (j:=2) rfl
 refine zgo ?_
 refine WO.call rfl rfl rfl rfl plain_Itoa rfl (hI.2 p.id _ (hI.1 _ _ ht hx1) (by omega)) fun v2 h2 ⟨hx2,hv2⟩=>?_
 subst hv2
 have hx02:=hx1.trans hx2
 refine zgo ?_
 refine Runs.loop (X:=Nat) (fun i=>[(1,.pointer (some ⟨h.size,0,none⟩)),(3,.string (str (headS p++needsS (p.needs.take i)))),(4,.int .i64 (i:Int))])
  (fun i h'=>Ext h2 h'∧i≤p.needs.length∧(headS p++needsS (p.needs.take i)).length≤30+10*i) (fun i=>p.needs.length-i) 0 ⟨rfl,by rw [List.take_zero,needsS,List.flatMap_nil,List.append_nil];rfl,rfl,trivial⟩ ⟨Fr.refl _ _,Nat.zero_le _,by simp [needsS,headS];omega⟩ ?_
 rintro i h3 ⟨hx3,hi,htl⟩ ih
 have hx03:=hx02.trans hx3
 have q1:=(hx2.trans hx3).xc g1
 have q2:=(hx2.trans hx3).xc g2
 refine zgo ?_
 refine Runs.cond_dec rfl (fun hlt=>?_) (fun hge=>?_)
 ·have hlt':i<p.needs.length:=by omega
  have hget:p.needs[i]? = some p.needs[i]:=List.getElem?_eq_getElem hlt'
  have hyl:p.needs[i]<10000:=hok.needs _ (List.getElem_mem hlt')
  have hsn:headS p++needsS (p.needs.take (i+1))=headS p++needsS (p.needs.take i)++([32]++decS p.needs[i]):=by
   rw [List.take_succ_eq_append_getElem hlt'];simp only [needsS,List.flatMap_append,List.flatMap_cons,List.flatMap_nil,List.append_nil,List.append_assoc]
  generalize p.needs[i]=y at *
  generalize headS p++needsS (p.needs.take i)=t at *
  obtain ⟨b0,p0,cap0,hv,_,hcell⟩:=(hpn.ext hx03).cell (ints_get hget)
  cases hv
  have hdy:=decS_len 5 y (by omega)
  refine zgo ?_
  refine WO.call rfl rfl rfl rfl plain_Itoa rfl (hI.2 y _ (hI.1 _ _ ht hx03) (by omega)) fun v4 h4 ⟨hx4,hv4⟩=>?_
  subst hv4
  refine zgo ?_
  refine ih (i+1) _ _ (by omega) ⟨rfl,by rw [hsn];rfl,rfl,trivial⟩ ⟨hx3.trans hx4,by omega,by rw [hsn];simp at hdy htl ⊢;omega⟩
 ·have hie:i=p.needs.length:=by omega
  subst hie
  rw [List.take_length] at htl ⊢
  have hts:textS p=headS p++needsS p.needs++[10]++p.changes.flatMap chS:=rfl
  generalize headS p++needsS p.needs=t0 at *
  clear ih
  refine zgo ?_
  refine Runs.loop (X:=Nat) (fun i=>[(1,.pointer (some ⟨h.size,0,none⟩)),(3,.string (str (t0++[10]++(p.changes.take i).flatMap chS))),(5,.int .i64 (i:Int))])
   (fun i h'=>Ext h3 h'∧i≤p.changes.length∧(t0++[10]++(p.changes.take i).flatMap chS).length≤300+60*i) (fun i=>p.changes.length-i) 0 ⟨rfl,by rw [List.take_zero,List.flatMap_nil,List.append_nil];rfl,rfl,trivial⟩ ⟨Fr.refl _ _,Nat.zero_le _,by simp;omega⟩ ?_
  rintro i h4 ⟨hx4,hi',htl4⟩ ih
  have hx04:=hx03.trans hx4
  have r2:=hx4.xc q2
  refine zgo ?_
  refine Runs.cond_dec rfl (fun hlt=>?_) (fun hge'=>?_)
  ·have hlt':i<p.changes.length:=by omega
   have hget:p.changes[i]? = some p.changes[i]:=List.getElem?_eq_getElem hlt'
   have hcok:ChangeD.ok p.changes[i]:=hok.changes _ (List.getElem_mem hlt')
   have hck:kind3 p.changes[i]:=hk _ (List.getElem_mem hlt')
   have hsn:t0++[10]++(p.changes.take (i+1)).flatMap chS=t0++[10]++(p.changes.take i).flatMap chS++chS p.changes[i]:=by
    rw [List.take_succ_eq_append_getElem hlt'];simp only [List.flatMap_append,List.flatMap_cons,List.flatMap_nil,List.append_nil,List.append_assoc]
   generalize p.changes[i]=c at *
   generalize t0++[10]++(p.changes.take i).flatMap chS=t at *
   obtain ⟨b0,p0,cap0,hv,_,hcells⟩:=(hpc.ext hx04).pos (by omega)
   cases hv
   have hcc:=changes_get hcells hget
   have hchl:=chS_len hcok
   refine zgo ?_
   refine WO.call rfl rfl rfl rfl plain_changeText rfl (changeText_ret hI c _ (hI.1 _ _ ht hx04) hcok hck) fun v5 h5 ⟨hx5,hv5⟩=>?_
   subst hv5
   refine zgo ?_
   exact ih (i+1) _ _ (by omega) ⟨rfl,by rw [hsn];rfl,rfl,trivial⟩ ⟨hx4.trans hx5,hlt',by rw [hsn,List.length_append];omega⟩
  ·refine zgo ?_
   refine Runs.ret Tryd.func45 (ret1 Tryd.results45 rfl) ⟨hx04,?_⟩
   rw [hts,List.take_of_length_le (by omega)]
def Tab10 (h:Heap):Prop:=∃ e fr,h[0]? = some (.cells (Lib.pow10Tab.map fun z=>Value.int .u64 z).toArray e fr)
theorem Tab10.fr {S:Nat→Prop} {h h':Heap} (x:Tab10 h) (f:Fr S h h') (hs:¬ S 0):Tab10 h':=by
 obtain ⟨e,fr,hx⟩:=x
 exact ⟨e,fr,by rw [f.same 0 (Array.getElem?_eq_some_iff.1 hx).1 hs];exact hx⟩
theorem glob0:Tryd.prog.globalNamed "internal/strconv.uint64pow10" = some 0:=by kernel_rfl
theorem Tab10.is {w:World} (x:Tab10 w.heap):Lib.TabIs Tryd.prog w "internal/strconv.uint64pow10" .u64 Lib.pow10Tab:=by
 obtain ⟨e,fr,hx⟩:=x
 unfold Lib.TabIs World.var?
 rw [glob0]
 simp only [Option.bind_some,hx]
theorem itoa_eq (n:Nat):Lib.itoa (n:Int)=decS n:=by
 unfold Lib.itoa
 rw [if_neg (by omega),Int.toNat_natCast]
 induction n using Nat.strongRecOn with
 | ind n ih =>
  rw [Lib.decDigits]
  by_cases h:n<10
  ·rw [dif_pos h,decS_small h]
  ·rw [dif_neg h,decS_big h,ih (n / 10) (by omega)]
theorem itoaOK:ItoaOK Tab10:=by
 refine ⟨fun h h' hx f=>hx.fr f (by simp),fun n h ht hn w hw=>?_⟩
 subst hw
 refine (Any.strconv_Itoa Tryd.laysM171 (n:Int) (by omega) (by omega) w ht.is).mono ?_
 rintro e w' ⟨rfl,k,os,rfl⟩
 refine ⟨_,rfl,⟨rfl,rfl,rfl⟩,⟨?_,fun b hb _=>?_⟩,by rw [itoa_eq];rfl⟩
 ·simp [Go.Sort.grow,World.drewN]
 ·simp [Go.Sort.grow,World.drewN,Array.getElem?_append,hb]
end Go.Proofs.YtlaffgagmncgjabDoor
