import Derived.Test.YtlaffgagmncgjaaGreatDoorT3
set_option maxRecDepth 20000
set_option maxHeartbeats 3200000
namespace Go.Proofs.YtlaffgagmncgjaaGreatDoor
open Tryz Go Go.Pat Go.Proofs
theorem plain129:Plain Tryz.prog 153:=⟨_,func153,by decide +kernel,by rfl⟩
theorem two107:Two Tryz.prog 105 .i64 .i64:=two_of (by kernel_rfl)
def needOk (p:PatchD) (k:Nat):Bool:=match p.needs[k]? with
 | some n=>!(decide (n=p.id)||(decide (0<k)&&decide (n≤p.needs.getD (k-1) 0)))
 | none=>true
def changeOk (p:PatchD) (k:Nat):Bool:=match p.changes[k]? with
 | some c=>namesS p c.up k&&(decide (c.kind=2)||namesS p c.down k) && !(decide (c.kind=2)&&decide (c.up.p=p.id)) && !(decide (c.kind=3)&&(RefD.eqb c.up c.down))
 | none=>true
def formedS (p:PatchD):Bool:=(List.range p.needs.length).all (needOk p)&&(List.range p.changes.length).all (changeOk p)
theorem formed_ret {F:Nat→Prop} (p:PatchD) (b:Nat) (h:Heap) (hp:PA F h b p) (hl:p.changes.length≤16777216) (hl2:p.needs.length≤16777216):Ret Tryz.prog 116 #[.pointer (some ⟨b,0,none⟩)] h fun v h' =>
  Ext h h'∧v = .bool (formedS p):=by
 refine Ret.of_body func116 rfl ntmps116 rfl rfl ?_
 have hp0:=hp
 obtain ⟨nv,cv,hc,hn,hcs,_⟩:=hp
 have f0:=hc.head
 have f1:=hc.tail.head
 have f2:=hc.tail.tail.head
 obtain ⟨ad,cap,hcv,hcap⟩:=hcs.formc
 obtain ⟨nad,ncap,hnv⟩:=hn.form
 subst hcv hnv
 refine zgo ?_
 refine Runs.loop (X:=Nat) (fun i=>[(0,.pointer (some ⟨b,0,none⟩)),(14,.slice nad p.needs.length ncap),(15,.int .i64 (p.needs.length:Int)),(16,.int .i64 (i:Int))])
  (fun i h'=>h=h'∧i≤p.needs.length∧∀ j,j<i→needOk p j=true) (fun i=>p.needs.length-i) 0 ⟨rfl,rfl,rfl,rfl,trivial⟩ ⟨rfl,Nat.zero_le _,fun j hj=>by omega⟩ ?_
 rintro i _ ⟨rfl,hi,hall⟩ ih
 refine zgo ?_
 refine Runs.cond_dec rfl (fun hlt=>?_) (fun hge=>?_)
 ·have hlt':i<p.needs.length:=by omega
  have hget:p.needs[i]? = some p.needs[i]:=List.getElem?_eq_getElem hlt'
  have hok:needOk p i = !(decide (p.needs[i]=p.id)||(decide (0<i)&&decide (p.needs[i]≤p.needs.getD (i-1) 0))):=by unfold needOk;rw [hget]
  generalize p.needs[i]=y at *
  obtain ⟨b0,p0,cap0,hv,_,hcell⟩:=hn.cell (ints_get hget)
  cases hv
  refine zgo ?_
  refine WO.join (fun env' h'=>h=h'∧Sub [(0,.pointer (some ⟨b,0,none⟩)),(14,.slice (some ⟨b0,p0,none⟩) p.needs.length ncap),(15,.int .i64 (p.needs.length:Int)),(16,.int .i64 (i:Int)),(42,.bool (!needOk p i))] env') ?_ ?_
  ·refine WO.split 27 _ rfl (fun q1=>?_) (fun q1=>?_)
   ·have q1:=of_decide_eq_true q1
    refine zgo ?_
    refine ⟨rfl,rfl,rfl,rfl,rfl,?_,trivial⟩
    show some _=some _
    have e:y=p.id:=by omega
    simp [hok,e]
   ·have q1:=of_decide_eq_false q1
    refine zgo ?_
    refine WO.split 30 _ rfl (fun q2=>?_) (fun q2=>?_)
    ·have q2:=of_decide_eq_true q2
     have hget':p.needs[i-1]? = some (p.needs.getD (i-1) 0):=by rw [List.getElem?_eq_getElem (by omega)];simp [List.getD_eq_getElem?_getD,show i-1<p.needs.length by omega]
     generalize p.needs.getD (i-1) 0=y' at *
     obtain ⟨b1,p1,cap1,hv1,_,hcell1⟩:=hn.cell (ints_get hget')
     cases hv1
     refine zgo ?_
     refine WO.val (ov_indexAddr (j:=i-1) tab_ok rfl rfl rfl rfl rfl (natOf_of (by omega)) (by omega)) rfl rfl rfl ?_
     refine zgo ?_
     refine ⟨rfl,rfl,rfl,rfl,rfl,?_,trivial⟩
     show some _=some _
     have e:¬ y=p.id:=by omega
     have e2:0<i:=by omega
     have e3:decide ((y:Int)≤(y':Int))=decide (y≤y'):=decide_eq_decide.2 (by omega)
     simp [hok,e,e2]
    ·have q2:=of_decide_eq_false q2
     refine zgo ?_
     refine ⟨rfl,rfl,rfl,rfl,rfl,?_,trivial⟩
     show some _=some _
     have e:¬ y=p.id:=by omega
     have e2:¬ 0<i:=by omega
     simp [hok,e,e2]
  rintro env' _ ⟨rfl,hsub⟩
  refine Runs.sub hsub ?_
  cases hno:needOk p i
  ·refine zgo ?_
   refine Runs.ret func116 (ret1 results116 rfl) ⟨Fr.refl _ _,?_⟩
   have:formedS p=false:=by
    unfold formedS
    rw [Bool.and_eq_false_iff];left
    rw [List.all_eq_false]
    exact ⟨i,by simp [hlt'],by simp [hno]⟩
   rw [this]
  ·refine zgo ?_
   refine ih (i+1) _ _ (by omega) ⟨rfl,rfl,rfl,rfl,trivial⟩ ⟨rfl,by omega,fun j hj=>?_⟩
   by_cases e:j=i
   ·subst e;exact hno
   ·exact hall j (by omega)
 ·have hneeds:(List.range p.needs.length).all (needOk p)=true:=by
   rw [List.all_eq_true];intro j hj;exact hall j (by simp at hj;omega)
  clear ih hall
  refine zgo ?_
  refine Runs.loop (X:=Nat) (fun i=>[(0,.pointer (some ⟨b,0,none⟩)),(47,.slice ad p.changes.length cap),(48,.int .i64 (p.changes.length:Int)),(49,.int .i64 (i:Int))])
   (fun i h'=>Ext h h'∧i≤p.changes.length∧∀ j,j<i→changeOk p j=true) (fun i=>p.changes.length-i) 0 ⟨rfl,rfl,rfl,rfl,trivial⟩ ⟨Fr.refl _ _,Nat.zero_le _,fun j hj=>by omega⟩ ?_
  rintro k h1 ⟨hx1,hk,hall⟩ ih
  refine zgo ?_
  refine Runs.cond_dec rfl (fun hlt=>?_) (fun hge=>?_)
  ·have hlt':k<p.changes.length:=by omega
   have hget:p.changes[k]? = some p.changes[k]:=List.getElem?_eq_getElem hlt'
   have hok:changeOk p k=(namesS p p.changes[k].up k&&(decide (p.changes[k].kind=2)||namesS p p.changes[k].down k) && !(decide (p.changes[k].kind=2)&&decide (p.changes[k].up.p=p.id)) && !(decide (p.changes[k].kind=3)&&(RefD.eqb p.changes[k].up p.changes[k].down))):=by unfold changeOk;rw [hget]
   generalize p.changes[k]=c at *
   obtain ⟨b0,p0,cap0,hv,_,hcells⟩:=(hcs.ext hx1).pos (by omega)
   cases hv
   have hcc:=changes_get hcells hget
   refine zgo ?_
   refine WO.alloc tab_ok rfl rfl rfl rfl rfl rfl fun h2 hb2 hx2 hs2=>?_
   refine zgo ?_
   refine zt c.one hb2 fun h3 hb3 hx3 hs3=>?_
   have hx:Ext h h3:=hx1.trans (hx2.trans_new (hx3.mono (by intro q _ e;right;omega)))
   clear hx2 hb2 hx3 hcc hcells hx1 hs2 hs3
   have u1:Cells h3 h1.size (0+1) c.up.cells:=hb3.cells.tail.take 2
   have u2:Cells h3 h1.size (0+3) c.down.cells:=hb3.cells.tail.tail.tail.take 2
   have g0:=hb3.cell (j:=0) rfl
   have g1:=hb3.cell (j:=1) rfl
   replace f0:=hx.xc f0
   refine zgo ?_
   refine WO.call rfl rfl rfl rfl plain129 rfl (names_ret p c.up k b _ (hp0.ext hx) (by omega) hl hl2) fun v h4 ⟨hx4,hv4⟩=>?_
   subst hv4
   replace u1:=hx4.xcs u1
   replace u2:=hx4.xcs u2
   replace g0:=hx4.xc g0
   replace g1:=hx4.xc g1
   replace f0:=hx4.xc f0
   replace hx:=hx.trans hx4
   clear hx4 hb3
   refine zgo ?_
   refine WO.join (fun env' h'=>Ext h4 h'∧Sub [(0,.pointer (some ⟨b,0,none⟩)),(6,.pointer (some ⟨h1.size,0,none⟩)),(47,.slice (some ⟨b0,p0,none⟩) p.changes.length cap),(48,.int .i64 (p.changes.length:Int)),(49,.int .i64 (k:Int)),(7,.bool (namesS p c.up k)),(8,.bool (decide (c.kind=2)||namesS p c.down k))] env') ?_ ?_
   ·refine WO.split 62 _ rfl (fun q1=>?_) (fun q1=>?_)
    ·have q1:=of_decide_eq_true q1
     have e:c.kind=2:=by omega
     refine zgo ?_
     exact ⟨Fr.refl _ _,rfl,rfl,rfl,rfl,rfl,rfl,by simp only [e,decide_true,Bool.true_or];rfl,trivial⟩
    ·have q1:=of_decide_eq_false q1
     have e:¬ c.kind=2:=by omega
     refine zgo ?_
     refine WO.call rfl rfl rfl rfl plain129 rfl (names_ret p c.down k b _ (hp0.ext hx) (by omega) hl hl2) fun v h5 ⟨hx5,hv5⟩=>?_
     subst hv5
     refine zgo ?_
     exact ⟨hx5,rfl,rfl,rfl,rfl,rfl,rfl,by simp only [e,decide_false,Bool.false_or];rfl,trivial⟩
   rintro env' h5 ⟨hx5,hsub⟩
   refine Runs.sub hsub ?_
   replace u1:=hx5.xcs u1
   replace u2:=hx5.xcs u2
   replace g0:=hx5.xc g0
   replace g1:=hx5.xc g1
   replace f0:=hx5.xc f0
   replace hx:=hx.trans hx5
   clear hx5 hsub
   refine zgo ?_
   refine Runs.still mixed (by kernel_rfl) ?_
   refine zws ?_
   refine WS.join (fun env'=>Sub [(0,.pointer (some ⟨b,0,none⟩)),(6,.pointer (some ⟨h1.size,0,none⟩)),(47,.slice (some ⟨b0,p0,none⟩) p.changes.length cap),(48,.int .i64 (p.changes.length:Int)),(49,.int .i64 (k:Int)),(7,.bool (namesS p c.up k)),(8,.bool (decide (c.kind=2)||namesS p c.down k)),(9,.bool (decide (c.kind=2)&&decide (c.up.p=p.id)))] env') ?_ ?_
   ·refine WS.split 72 _ rfl (fun q1=>?_) (fun q1=>?_)
    ·have q1:=of_decide_eq_true q1
     refine zws ?_
     refine ⟨rfl,rfl,rfl,rfl,rfl,rfl,rfl,?_,trivial⟩
     show some _=some _
     have e:c.kind=2:=by omega
     have e2:decide ((c.up.p:Int)=(p.id:Int))=decide (c.up.p=p.id):=decide_eq_decide.2 (by omega)
     simp [e,e2]
    ·have q1:=of_decide_eq_false q1
     refine zws ?_
     refine ⟨rfl,rfl,rfl,rfl,rfl,rfl,rfl,?_,trivial⟩
     show some _=some _
     have e:¬ c.kind=2:=by omega
     simp [e]
   intro env' hsub
   refine Runs.sub hsub ?_
   refine zgo ?_
   refine WO.join (fun env' h'=>h5=h'∧Sub [(0,.pointer (some ⟨b,0,none⟩)),(47,.slice (some ⟨b0,p0,none⟩) p.changes.length cap),(48,.int .i64 (p.changes.length:Int)),(49,.int .i64 (k:Int)),(7,.bool (namesS p c.up k)),(8,.bool (decide (c.kind=2)||namesS p c.down k)),(9,.bool (decide (c.kind=2)&&decide (c.up.p=p.id))),(10,.bool (decide (c.kind=3)&&(RefD.eqb c.up c.down)))] env') ?_ ?_
   ·refine WO.split 85 _ rfl (fun q1=>?_) (fun q1=>?_)
    ·have q1:=of_decide_eq_true q1
     refine zgo ?_
     refine WO.val (ov_eql2 two107 rfl rfl rfl) rfl rfl rfl ?_
     refine zgo ?_
     refine ⟨rfl,rfl,rfl,rfl,rfl,rfl,rfl,rfl,?_,trivial⟩
     show some _=some _
     have e:c.kind=3:=by omega
     have e2:decide ((c.up.p:Int)=(c.down.p:Int)∧(c.up.i:Int)=(c.down.i:Int))=(RefD.eqb c.up c.down):=by
      rw [Bool.eq_iff_iff,decide_eq_true_iff,RefD.eqb_iff]
      rcases hu:c.up with ⟨a1,a2⟩;rcases hd:c.down with ⟨a3,a4⟩;simp;omega
     simp [e,e2]
    ·have q1:=of_decide_eq_false q1
     refine zgo ?_
     refine ⟨rfl,rfl,rfl,rfl,rfl,rfl,rfl,rfl,?_,trivial⟩
     show some _=some _
     have e:¬ c.kind=3:=by omega
     simp [e]
   rintro env' _ ⟨rfl,hsub⟩
   refine Runs.sub hsub ?_
   have hok':(!changeOk p k)=(((!namesS p c.up k) || !(decide (c.kind=2)||namesS p c.down k))||(decide (c.kind=2)&&decide (c.up.p=p.id))||(decide (c.kind=3)&&(RefD.eqb c.up c.down))):=by
    rw [hok];simp [Bool.not_and]
   generalize namesS p c.up k=n1 at *
   generalize (decide (c.kind=2)||namesS p c.down k)=n2 at *
   generalize (decide (c.kind=2)&&decide (c.up.p=p.id))=n3 at *
   generalize (decide (c.kind=3)&&(RefD.eqb c.up c.down))=n4 at *
   have hbad:changeOk p k=false→formedS p=false:=fun hno=>by
    unfold formedS
    rw [Bool.and_eq_false_iff];right
    rw [List.all_eq_false]
    exact ⟨k,by simp [hlt'],by simp [hno]⟩
   have hgood:changeOk p k=true→∀ j,j<k+1→changeOk p j=true:=fun hno j hj=>by
    by_cases e:j=k
    ·subst e;exact hno
    ·exact hall j (by omega)
   cases n1<;>cases n2<;>cases n3<;>cases n4
   all_goals
    refine zgo ?_
    first
     | (refine ih (k+1) _ _ (by omega) ⟨rfl,rfl,rfl,rfl,trivial⟩ ⟨hx,by omega,hgood (by simpa using hok')⟩)
     | (refine Runs.ret func116 (ret1 results116 rfl) ⟨hx,?_⟩;rw [hbad (by simpa using hok')])
  ·refine zgo ?_
   refine Runs.ret func116 (ret1 results116 rfl) ⟨hx1,?_⟩
   have:(List.range p.changes.length).all (changeOk p)=true:=by
    rw [List.all_eq_true];intro j hj;exact hall j (by simp at hj;omega)
   simp [formedS,hneeds,this]
end Go.Proofs.YtlaffgagmncgjaaGreatDoor
