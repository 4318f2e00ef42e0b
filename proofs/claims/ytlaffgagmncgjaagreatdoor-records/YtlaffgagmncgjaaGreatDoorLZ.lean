import Derived.Test.YtlaffgagmncgjaaGreatDoorLW
import Derived.Test.YtlaffgagmncgjaaGreatDoorS3
set_option maxRecDepth 20000
set_option maxHeartbeats 3200000
namespace Go.Proofs.YtlaffgagmncgjaaGreatDoor
open Tryz Go Go.Pat Go.Proofs
theorem plain_pulled:Plain Tryz.prog 65:=⟨_,func65,by decide +kernel,by rfl⟩
theorem plain_loaded:Plain Tryz.prog 26:=⟨_,func26,by decide +kernel,by rfl⟩
theorem pulled_ret {F:Nat→Prop} (pb po qo:Nat) (s t:SP) (h:Heap) (c0:cellAt h pb (po+0)=some (.pointer (some ⟨s.xb,0,none⟩))) (c1:cellAt h pb (po+1)=some (.pointer (some ⟨s.mb,0,none⟩))) (e0:cellAt h pb (qo+0)=some (.pointer (some ⟨t.xb,0,none⟩))) (e1:cellAt h pb (qo+1)=some (.pointer (some ⟨t.mb,0,none⟩))) (hp:PairOK F h s) (hq:PairOK F h t)
  (hst:s=t∨(t.xb≠s.xb∧t.mb≠s.mb)) (hFx:∀ k,F k→k≠s.xb) (hFm:∀ k,F k→k≠s.mb) (hxm:s.xb≠s.mb) (htx:t.mb≠s.xb) (htm:t.xb≠s.mb) (hpx:pb≠s.xb) (hpm:pb≠s.mb) (htab:Tab10 h) :
  Ret Tryz.prog 65 #[.pointer (some ⟨pb,po,none⟩),.pointer (some ⟨pb,qo,none⟩)] h (AfterP F h s):=by
 refine Ret.of_body func65 rfl ntmps65 rfl rfl ?_
 refine zgo ?_
 refine Runs.drawn (m:=10) (fun h'=>Fr (fun k=>k=s.xb) h h') (fun _=>false) mixed rfl ?_
 refine zp 0 (Fr.refl _ _) ?_
 refine zp 1 (Fr.refl _ _) ?_
 refine zp 2 (Fr.refl _ _) ?_
 refine zl 3 (fun _ hS=>(hS.cell hpx c0)) (Fr.refl _ _) ?_
 refine zp 4 (Fr.refl _ _) ?_
 refine zp 5 (Fr.refl _ _) ?_
 refine zp 6 (Fr.refl _ _) ?_
 refine zl 7 (fun _ hS=>(hS.cell hpx e0)) (Fr.refl _ _) ?_
 refine WF.call 8 (by kernel_rfl) rfl rfl rfl rfl rfl plain_xPull rfl (xPull_ret itoaOK s.xb t.xb s.l t.l s.lv t.lv _ htab hp.x hq.x hp.xs hq.xs hFx hp.inv hq.inv) fun v1 h1 ⟨hf1,hv1,lv1,l1,hb1,hs1,hps1⟩=>⟨.inr hf1,?_⟩
 subst hv1
 refine zx 9 hf1 ?_
 refine zd ?_
 have c0':=hf1.cell hpx c0
 have c1':=hf1.cell hpx c1
 have e0':=hf1.cell hpx e0
 have e1':=hf1.cell hpx e1
 have hlx:=hp.x.lt
 have hlm:=hp.m.lt
 have hz1:=hf1.size
 refine zgo ?_
 refine Runs.drawn (m:=10) (fun h'=>Fr (fun k=>k=s.mb) h1 h') (fun _=>false) mixed rfl ?_
 refine zp 0 (Fr.refl _ _) ?_
 refine zp 1 (Fr.refl _ _) ?_
 refine zp 2 (Fr.refl _ _) ?_
 refine zl 3 (fun _ hS=>(hS.cell hpm c1')) (Fr.refl _ _) ?_
 refine zp 4 (Fr.refl _ _) ?_
 refine zp 5 (Fr.refl _ _) ?_
 refine zp 6 (Fr.refl _ _) ?_
 refine zl 7 (fun _ hS=>(hS.cell hpm e1')) (Fr.refl _ _) ?_
 refine WF.call 8 (by kernel_rfl) rfl rfl rfl rfl rfl plain_mPull rfl (mPull_ret s.mb s.b t.mb t.b s.bs t.bs s.ps t.ps _ (hp.m.fr hf1 (fun e=>hxm e.symm)) (hq.m.fr hf1 htx) (hp.sa.fr hf1 hFx) (hq.sa.fr hf1 hFx) hFm hp.inv hq.inv) fun v2 h2 ⟨hf2,hv2,b2,bs2,hb2,hs2⟩=>⟨.inr hf2,?_⟩
 subst hv2
 refine zx 9 hf2 ?_
 refine zd ?_
 have hf12:Fr (fun k=>k=s.xb∨k=s.mb) h h2:=(hf1.mono fun k _ e=>.inl e).trans (hf2.mono fun k _ e=>.inr e)
 have c0:=hf2.cell hpm c0'
 have c1:=hf2.cell hpm c1'
 have e0:=hf2.cell hpm e0'
 have e1:=hf2.cell hpm e1'
 have hs':PairOK (fun k=>F k∨New h h2 k) h2 ⟨s.xb,s.mb,lv1,l1,b2,bs2⟩:=by
  refine ⟨hb1.fr hf2 hxm,?_,hb2,?_,?_⟩
  ·refine (hs1.fr hf2 fun k hk e=>?_).mono fun k e=>?_
   ·rcases hk with hk | hk
    ·exact hFm k hk e
    ·have:=hk.1;omega
   ·rcases e with e | e
    ·exact .inl e
    ·exact .inr (e.up hf2)
  ·show SA _ _ _ _ (l1.map PD3.p)
   rw [hps1]
   refine hs2.mono fun k e=>?_
   rcases e with e | e
   ·exact .inl e
   ·exact .inr (e.dn hf1)
  ·show Inv (l1.map PD3.p)
   rw [hps1];exact inv_pull hp.inv hq.inv
 have ht':∃ t':SP,t'.xb=t.xb∧t'.mb=t.mb∧PairOK (fun k=>F k∨New h h2 k) h2 t':=by
  rcases hst with e | ⟨n1,n2⟩
  ·exact ⟨_,by rw [← e],by rw [← e],hs'⟩
  ·refine ⟨t,rfl,rfl,(hq.fr hf12 (fun e=>?_) (fun e=>?_) (fun k hk e=>?_)).mono fun _ e=>.inl e⟩
   ·rcases e with e | e
    ·exact n1 e
    ·exact htm e
   ·rcases e with e | e
    ·exact htx e
    ·exact n2 e
   ·rcases e with e | e
    ·exact hFx k hk e
    ·exact hFm k hk e
 obtain ⟨t',hx',hm',hq'⟩:=ht'
 rw [← hx'] at e0
 rw [← hm'] at e1
 obtain ⟨s',sx',sm',hs''⟩:∃ s':SP,s'.xb=s.xb∧s'.mb=s.mb∧PairOK (fun k=>F k∨New h h2 k) h2 s':=⟨⟨s.xb,s.mb,lv1,l1,b2,bs2⟩,rfl,rfl,hs'⟩
 clear hs'
 rw [← sx'] at c0
 rw [← sm'] at c1
 have len:∀ u:SP,PairOK (fun k=>F k∨New h h2 k) h2 u→u.l.length≤1000∧u.bs.length≤1000∧(idsS u.ps).length≤20:=fun u hu=>by
  have h1:=hu.inv.len
  have h2:u.bs.length=u.ps.length:=by obtain ⟨_,_,_,e,_⟩:=hu.sa;exact e.1
  simp only [SP.ps,List.length_map] at h1 h2
  refine ⟨by omega,by omega,by simp [idsS,SP.ps];omega⟩
 obtain ⟨s1,s2,s3⟩:=len s' hs''
 obtain ⟨t1,t2,t3⟩:=len t' hq'
 have hps2:(pullS (s.l.map PD3.p) (t.l.map PD3.p)).1=(pullS s.ps t.ps).1:=rfl
 rw [hps2]
 generalize (pullS s.ps t.ps).1=e
 have hde:decide ((e:Int)=(e:Int))=true:=decide_eq_true rfl
 refine zgo ?_
 refine Runs.drawn (m:=30) (fun h'=>Ext h2 h') (fun _=>false) mixed rfl ?_
 refine zp 0 (Fr.refl _ _) ?_
 refine zp 1 (Fr.refl _ _) ?_
 refine zp 2 (Fr.refl _ _) ?_
 rw [hde]
 refine zp 3 (Fr.refl _ _) ?_
 refine zp 4 (Fr.refl _ _) ?_
 refine zp 5 (Fr.refl _ _) ?_
 refine zp 6 (Fr.refl _ _) ?_
 refine zl 7 (fun _ hS=>(hS.xc c0)) (Fr.refl _ _) ?_
 refine zp 9 (Fr.refl _ _) ?_
 refine zp 10 (Fr.refl _ _) ?_
 refine zp 11 (Fr.refl _ _) ?_
 refine zl 12 (fun _ hS=>(hS.xc c1)) (Fr.refl _ _) ?_
 refine WF.call 8 (by kernel_rfl) rfl rfl rfl rfl rfl plain_xLog rfl (xLog_ret s'.xb s'.l s'.lv _ hs''.x hs''.xs s1) fun v3 h3 ⟨hx3,ho3,hm3⟩=>⟨.inr hx3,?_⟩
 refine WF.call 13 (by kernel_rfl) rfl rfl rfl rfl rfl plain_mLog rfl (mLog_ret s'.mb s'.b s'.bs s'.ps _ (hs''.m.ext hx3) (hs''.sa.ext hx3) s2) fun v4 h4 ⟨hx4,ho4,hm4⟩=>⟨.inr (hx3.trans hx4),?_⟩
 have hx24:=hx3.trans hx4
 refine WF.call 14 (by kernel_rfl) rfl rfl rfl rfl rfl plain42 rfl (sameInts_ret (idsS s'.ps) (idsS s'.ps) v3 v4 _ (ho3.fr hx4 (by simp)).rd ho4.rd (by omega) (by omega)) fun v5 h5 ⟨hh5,hv5⟩=>⟨.inr (by rw [hh5];exact hx24),?_⟩
 have hv5':v5 = .bool true:=by rw [hv5];simp
 subst hh5 hv5'
 refine zp 15 hx24 ?_
 refine zp 16 hx24 ?_
 refine zp 17 hx24 ?_
 refine zp 18 hx24 ?_
 refine zp 19 hx24 ?_
 refine zl 20 (fun _ hS=>(hS.xc e0)) hx24 ?_
 refine zp 22 hx24 ?_
 refine zp 23 hx24 ?_
 refine zp 24 hx24 ?_
 refine zl 25 (fun _ hS=>(hS.xc e1)) hx24 ?_
 refine WF.call 21 (by kernel_rfl) rfl rfl rfl rfl rfl plain_xLog rfl (xLog_ret t'.xb t'.l t'.lv _ (hq'.x.ext hx24) (hq'.xs.ext hx24) t1) fun v6 h6 ⟨hx6,ho6,hm6⟩=>⟨.inr (hx24.trans hx6),?_⟩
 have hx26:=hx24.trans hx6
 refine WF.call 26 (by kernel_rfl) rfl rfl rfl rfl rfl plain_mLog rfl (mLog_ret t'.mb t'.b t'.bs t'.ps _ (hq'.m.ext hx26) (hq'.sa.ext hx26) t2) fun v7 h7 ⟨hx7,ho7,hm7⟩=>⟨.inr (hx26.trans hx7),?_⟩
 have hx27:=hx26.trans hx7
 refine WF.call 27 (by kernel_rfl) rfl rfl rfl rfl rfl plain42 rfl (sameInts_ret (idsS t'.ps) (idsS t'.ps) v6 v7 _ (ho6.fr hx7 (by simp)).rd ho7.rd (by omega) (by omega)) fun v8 h8 ⟨hh8,hv8⟩=>⟨.inr (by rw [hh8];exact hx27),?_⟩
 have hv8':v8 = .bool true:=by rw [hv8];simp
 subst hh8 hv8'
 refine zp 28 hx27 ?_
 refine zp 29 hx27 ?_
 refine zd ?_
 refine zgo ?_
 refine Runs.ret func65 (ret1 results65 rfl) ⟨rfl,hf12.ex hx27,s',sx',sm',(hs''.fr hx27 (by simp) (by simp) (by simp)).mono fun k e=>?_⟩
 rcases e with e | e
 ·exact .inl e
 ·exact .inr (e.up hx27)
def roleP (ρ:Nat→Nat) (n m xb mb i:Nat) (k:Nat):Nat:=if k<n then ρ k else if k=xb then 10+2*i else if k=mb then 11+2*i else if k<m then 0 else 2
theorem WI.addP {base:Nat} {h h2 h3 h4:Heap} {wb c:Nat} {ρ:Nat→Nat} {w:WS1} (x:WI base h wb ρ c w) (s:SP) (hx2:Ext h h2) (hp:PairOK (fun k=>New h h2 k∧k≠s.xb∧k≠s.mb) h2 s) (hxb:h.size≤s.xb) (hmb:h.size≤s.mb) (hxm:s.xb≠s.mb)
  {sv':Value} (hs:Own h3 32 2 sv' (w.S.length+1) (pairC w.S++s.cells)) (f3:Fr (fun k=>w.sv.ownBlock=some k) h2 h3) (hmv:Moved h2 w.sv sv') (f4:Fr (fun k=>k=wb) h3 h4) (hb:Blk h4 wb [sv',w.tv,w.fv,w.lv,w.iv] 39) :
  WI base h4 wb (roleP ρ h.size h2.size s.xb s.mb w.S.length) (c+1) { w with S:=w.S++[s],sv:=sv' }:=by
 have hbl:=x.bl
 have hwl:=x.blk.lt
 have lx:=hp.x.lt
 have lm:=hp.m.lt
 have f:Fr (fun k=>k=wb∨w.sv.ownBlock=some k) h h4:=(hx2.up.trans (f3.mono fun k _ e=>.inr e)).trans (f4.mono fun k _ e=>.inl e)
 have k:=x.keep (ρ':=roleP ρ h.size h2.size s.xb s.mb w.S.length) f (fun r=>r=1∨r=2) (fun k _ e=>by
  rcases e with e | e
  ·subst e;exact .inl x.wr
  ·exact .inr (x.rs k e).1) (by simp) (fun k hk=>if_pos hk)
 have hz2:=hx2.size
 have hz3:=f3.size
 have hz4:=f4.size
 have hsl:∀ k,w.sv.ownBlock=some k→k<h.size:=fun k hk=>(x.rs k hk).2.2
 have f34:Fr (fun k=>k=wb∨w.sv.ownBlock=some k) h2 h4:=(f3.mono fun k _ e=>.inr e).trans (f4.mono fun k _ e=>.inl e)
 have new:∀ k,h.size≤k→¬ (k=wb∨w.sv.ownBlock=some k):=fun k hk e=>by
  rcases e with e | e
  ·omega
  ·have:=hsl k e;omega
 have hnw:∀ k,sv'.ownBlock=some k→¬ k=wb:=fun k hk e=>by
  rcases hmv k hk with e' | e'
  ·have:=(x.rs k e').1;have:=x.wr;subst e;omega
  ·omega
 refine ⟨hb,k.wr,x.wbase,?_,fun q hq=>?_,k.t (by simp),k.rt,k.f (by simp),k.rf,k.i (by simp),k.ri,fun i t hi=>?_,k.tab,k.r0,?_,by have:=x.ct;dsimp only;omega,by have:=x.cf;dsimp only;omega,by have:=x.ci;dsimp only;omega,x.tl,k.g (by simp) (by simp) (by simp),by have:=x.cl;dsimp only;omega⟩
 ·dsimp only
  rw [pairC_append,List.length_append]
  have:pairC [s]=s.cells:=by simp [pairC]
  rw [this]
  exact hs.fr f4 hnw
 ·dsimp only at hq
  have hql:=hs.lt q hq
  rcases hmv q hq with e | e
  ·obtain ⟨r1,r2,r3⟩:=x.rs q e
   exact ⟨by unfold roleP;rw [if_pos r3];exact r1,r2,by omega⟩
  ·refine ⟨?_,by omega,by omega⟩
   unfold roleP
   rw [if_neg (by omega),if_neg (by omega),if_neg (by omega),if_neg (by omega)]
 ·dsimp only at hi
  rcases Nat.lt_or_ge i w.S.length with e | e
  ·rw [List.getElem?_append_left e] at hi
   exact k.p i t hi (by omega) (by omega)
  ·have hil:i<w.S.length+1:=by have:=(List.getElem?_eq_some_iff.1 hi).1;simpa using this
   have hie:i=w.S.length:=by omega
   subst hie
   rw [List.getElem?_append_right (Nat.le_refl _)] at hi
   simp at hi
   subst hi
   refine ⟨(hp.fr f34 (new _ hxb) (new _ hmb) (fun k hk=>new k hk.1.1)).mono fun k hk=>⟨?_,by have:=hk.1.2;omega⟩,?_,?_,by omega,by omega⟩
   ·unfold roleP
    have:=hk.1.1
    rw [if_neg (by omega),if_neg hk.2.1,if_neg hk.2.2,if_pos hk.1.2]
   ·unfold roleP;rw [if_neg (by omega),if_pos rfl]
   ·unfold roleP;rw [if_neg (by omega),if_neg (fun e=>hxm e.symm),if_pos rfl]
 ·have:=x.cs;dsimp only;simp;omega
theorem loaded_ret {base:Nat} {h:Heap} {wb c:Nat} {ρ:Nat→Nat} {w:WS1} (x:WI base h wb ρ c w) (hc:c≤4000000) (t:List UInt8) (hl:t.length≤16777216) :
  Ret Tryz.prog 26 #[.pointer (some ⟨wb,0,none⟩),.string (str t)] h fun v h'=>v = .bool true∧Fr (fun k=>base≤k) h h'∧∃ ρ' w',WI base h' wb ρ' (c+1) w':=by
 refine Ret.of_body func26 rfl ntmps26 rfl rfl ?_
 refine zgo ?_
 refine WO.call rfl rfl rfl rfl plain_xLoad rfl (xLoad_ret itoaOK t _ x.tab hl) fun v1 h1 ⟨hx1,hp1⟩=>?_
 have hinv:=inv_loaded t
 have hbl:=x.bl
 rcases hp1 with ⟨h0,xb,lv,l,rfl,hxb,hb1,hs1,hps⟩ | ⟨h0,rfl⟩
 ·refine zgo ?_
  refine WO.call rfl rfl rfl rfl plain_mLoaded rfl (mLoaded_ret t _ hl) fun v2 h2 ⟨hx2,hp2⟩=>?_
  rcases hp2 with ⟨_,mb,b,bs,rfl,hmb,hb2,hs2⟩ | ⟨h0',_⟩
  rotate_left
  ·exact absurd h0 h0'
  have hx02:=hx1.trans hx2
  have hz1:=hx1.size
  have hlx:=hb1.lt
  have hp:PairOK (fun k=>New h h2 k∧k≠xb∧k≠mb) h2 ⟨xb,mb,lv,l,b,bs⟩:=by
   refine ⟨hb1.ext hx2,(hs1.ext hx2).mono fun k e=>⟨e.1.up hx2,e.2,fun e'=>?_⟩,hb2,?_,?_⟩
   ·have:=e.1.2;omega
   ·show SA _ _ _ _ (l.map PD3.p)
    rw [hps]
    exact hs2.mono fun k e=>⟨e.1.dn hx1,fun e'=>by have:=e.1.1;omega,e.2⟩
   ·show Inv (l.map PD3.p)
    rw [hps];exact hinv
  have hblk:=x.blk.ext hx02
  have w0:=hblk.cell (j:=0) rfl
  obtain ⟨ads,caps,hsv⟩:=x.s.rd.form
  rw [hsv] at w0
  have hown:=x.s
  have hcs:=x.cs
  have hsb:∀ k,w.sv.ownBlock=some k→base≤k∧k≠wb:=fun k hk=>by
   obtain ⟨r1,r2,r3⟩:=x.rs k hk
   exact ⟨r2,fun e=>by subst e;have:=x.wr;omega⟩
  refine zgo ?_
  rw [hsv] at hown
  refine zh (SP.one ⟨xb,mb,lv,l,b,bs⟩) (hown.fr hx02 (by simp)) ?_
  intro v4 h4 q1 q2 q3
  rw [← hsv] at q2 q3
  obtain ⟨ad4,cap4,hv4⟩:=q1.rd.form
  subst hv4
  have hb4:=hblk.fr q2 (fun e=>(hsb _ e).2 rfl)
  refine zgo ?_
  refine zt (one_slice _ _ _) hb4 fun h5 hb5 hx5 hs5=>?_
  refine zgo ?_
  refine WO.val (ov_beql tab_ok rfl rfl rfl rfl) rfl rfl rfl ?_
  refine zgo ?_
  refine WO.val (ov_beql tab_ok rfl rfl rfl rfl) rfl rfl rfl ?_
  refine zgo ?_
  have hxx:=x.addP ⟨xb,mb,lv,l,b,bs⟩ hx02 hp hxb (by dsimp only;omega) (by dsimp only;omega) q1 q2 q3 hx5 hb5
  refine Runs.ret func26 (ret1 results26 rfl) ⟨rfl,(hx02.up.trans (q2.mono fun k _ e=>(hsb k e).1)).trans (hx5.mono fun k _ e=>by subst e;exact x.wbase),_,_,hxx⟩
 ·refine zgo ?_
  refine WO.call rfl rfl rfl rfl plain_mLoaded rfl (mLoaded_ret t _ hl) fun v2 h2 ⟨hx2,hp2⟩=>?_
  rcases hp2 with ⟨h0',_⟩ | ⟨_,rfl⟩
  ·exact absurd h0' h0
  have hx02:=hx1.trans hx2
  generalize (loadedS t).1=e at h0
  have hd:decide ((e:Int)=0)=false:=decide_eq_false (by omega)
  have hde:decide ((e:Int)=(e:Int))=true:=decide_eq_true rfl
  refine zgo ?_
  rw [hde]
  refine zgo ?_
  rw [hd]
  refine WO.val (ov_beql tab_ok rfl rfl rfl rfl) rfl rfl rfl ?_
  refine zgo ?_
  rw [hd]
  refine WO.val (ov_beql tab_ok rfl rfl rfl rfl) rfl rfl rfl ?_
  refine zgo ?_
  exact Runs.ret func26 (ret1 results26 rfl) ⟨rfl,hx02.up,_,_,(x.ex hx02).more (by omega)⟩
end Go.Proofs.YtlaffgagmncgjaaGreatDoor
