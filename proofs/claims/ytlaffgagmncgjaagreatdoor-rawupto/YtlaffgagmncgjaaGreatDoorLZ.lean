import Derived.Test.YtlaffgagmncgjaaGreatDoorLW
import Derived.Test.YtlaffgagmncgjaaGreatDoorS3
set_option maxRecDepth 20000
set_option maxHeartbeats 3200000
namespace Go.Proofs.YtlaffgagmncgjaaGreatDoor
open Tryz Go Go.Pat Go.Proofs
theorem plain_loaded:Plain Tryz.prog 26:=⟨_,func26,by decide +kernel,by rfl⟩
def roleP (ρ:Nat→Nat) (n m xb mb i:Nat) (k:Nat):Nat:=if k<n then ρ k else if k=xb then 10+2*i else if k=mb then 11+2*i else if k<m then 0 else 2
theorem WI.addP {base:Nat} {h h2 h3 h4:Heap} {wb c:Nat} {ρ:Nat→Nat} {w:WS1} (x:WI base h wb ρ c w) (s:SP) (hx2:Ext h h2) (hp:PairOK (fun k=>New h h2 k∧k≠s.xb∧k≠s.mb) h2 s) (hxb:h.size≤s.xb) (hmb:h.size≤s.mb) (hxm:s.xb≠s.mb)
  {sv':Value} (hs:Own h3 32 2 sv' (w.S.length+1) (pairC w.S++s.cells)) (f3:Fr (fun k=>w.sv.ownBlock=some k) h2 h3) (hmv:Moved h2 w.sv sv') (f4:Fr (fun k=>k=wb) h3 h4) (hb:Blk h4 wb [sv',w.tv,w.fv,w.lv,w.iv] 39) :
  WI base h4 wb (roleP ρ h.size h2.size s.xb s.mb w.S.length) (c+1) { w with S:=w.S++[s],sv:=sv' }:=by
 have hbl:=x.bl
 have hwl:=x.blk.lt
 have lx:=hp.x.lt
 have lm:=hp.m.lt
 have f:Fr (fun k=>k=wb∨w.sv.ownBlock=some k) h h4:=(hx2.up.trans (f3.mono fun k _ e=>.inr e)).trans (f4.mono fun k _ e=>.inl e)
 have k:=x.keep (ρ':=roleP ρ h.size h2.size s.xb s.mb w.S.length) f (fun r=>r=1∨r=2) (fun k _ e=>by
  rcases e with e | e
  ·subst e;exact .inl x.wr
  ·exact .inr (x.rs k e).1) (by simp) (fun k hk=>if_pos hk)
 have hz2:=hx2.size
 have hz3:=f3.size
 have hz4:=f4.size
 have hsl:∀ k,w.sv.ownBlock=some k→k<h.size:=fun k hk=>(x.rs k hk).2.2
 have f34:Fr (fun k=>k=wb∨w.sv.ownBlock=some k) h2 h4:=(f3.mono fun k _ e=>.inr e).trans (f4.mono fun k _ e=>.inl e)
 have new:∀ k,h.size≤k→¬ (k=wb∨w.sv.ownBlock=some k):=fun k hk e=>by
  rcases e with e | e
  ·omega
  ·have:=hsl k e;omega
 have hnw:∀ k,sv'.ownBlock=some k→¬ k=wb:=fun k hk e=>by
  rcases hmv k hk with e' | e'
  ·have:=(x.rs k e').1;have:=x.wr;subst e;omega
  ·omega
 refine ⟨hb,k.wr,x.wbase,?_,fun q hq=>?_,k.t (by simp),k.rt,k.f (by simp),k.rf,k.i (by simp),k.ri,fun i t hi=>?_,k.tab,k.r0,?_,by have:=x.ct;dsimp only;omega,by have:=x.cf;dsimp only;omega,by have:=x.ci;dsimp only;omega,x.tl,k.g (by simp) (by simp) (by simp),by have:=x.cl;dsimp only;omega⟩
 ·dsimp only
  rw [pairC_append,List.length_append]
  have:pairC [s]=s.cells:=by simp [pairC]
  rw [this]
  exact hs.fr f4 hnw
 ·dsimp only at hq
  have hql:=hs.lt q hq
  rcases hmv q hq with e | e
  ·obtain ⟨r1,r2,r3⟩:=x.rs q e
   exact ⟨by unfold roleP;rw [if_pos r3];exact r1,r2,by omega⟩
  ·refine ⟨?_,by omega,by omega⟩
   unfold roleP
   rw [if_neg (by omega),if_neg (by omega),if_neg (by omega),if_neg (by omega)]
 ·dsimp only at hi
  rcases Nat.lt_or_ge i w.S.length with e | e
  ·rw [List.getElem?_append_left e] at hi
   exact k.p i t hi (by omega) (by omega)
  ·have hil:i<w.S.length+1:=by have:=(List.getElem?_eq_some_iff.1 hi).1;simpa using this
   have hie:i=w.S.length:=by omega
   subst hie
   rw [List.getElem?_append_right (Nat.le_refl _)] at hi
   simp at hi
   subst hi
   refine ⟨(hp.fr f34 (new _ hxb) (new _ hmb) (fun k hk=>new k hk.1.1)).mono fun k hk=>⟨?_,by have:=hk.1.2;omega⟩,?_,?_,by omega,by omega⟩
   ·unfold roleP
    have:=hk.1.1
    rw [if_neg (by omega),if_neg hk.2.1,if_neg hk.2.2,if_pos hk.1.2]
   ·unfold roleP;rw [if_neg (by omega),if_pos rfl]
   ·unfold roleP;rw [if_neg (by omega),if_neg (fun e=>hxm e.symm),if_pos rfl]
 ·have:=x.cs;dsimp only;simp;omega
theorem loaded_ret {base:Nat} {h:Heap} {wb c:Nat} {ρ:Nat→Nat} {w:WS1} (x:WI base h wb ρ c w) (hc:c≤4000000) (t:List UInt8) (hl:t.length≤16777216) :
  Ret Tryz.prog 26 #[.pointer (some ⟨wb,0,none⟩),.string (str t)] h fun v h'=>v = .bool true∧Fr (fun k=>base≤k) h h'∧∃ ρ' w',WI base h' wb ρ' (c+1) w'∧(∀ k,k<base→ρ' k=ρ k)∧((loadedS t).1=0→w'.S.length=w.S.length+1):=by
 refine Ret.of_body func26 rfl ntmps26 rfl rfl ?_
 refine zgo ?_
 refine WO.call rfl rfl rfl rfl plain_xLoad rfl (xLoad_ret itoaOK t _ x.tab hl) fun v1 h1 ⟨hx1,hp1⟩=>?_
 have hinv:=inv_loaded t
 have hbl:=x.bl
 rcases hp1 with ⟨h0,xb,lv,l,rfl,hxb,hb1,hs1,hps⟩ | ⟨h0,rfl⟩
 ·refine zgo ?_
  refine WO.call rfl rfl rfl rfl plain_mLoaded rfl (mLoaded_ret t _ hl) fun v2 h2 ⟨hx2,hp2⟩=>?_
  rcases hp2 with ⟨_,mb,b,bs,rfl,hmb,hb2,hs2⟩ | ⟨h0',_⟩
  rotate_left
  ·exact absurd h0 h0'
  have hx02:=hx1.trans hx2
  have hz1:=hx1.size
  have hlx:=hb1.lt
  have hp:PairOK (fun k=>New h h2 k∧k≠xb∧k≠mb) h2 ⟨xb,mb,lv,l,b,bs⟩:=by
   refine ⟨hb1.ext hx2,(hs1.ext hx2).mono fun k e=>⟨e.1.up hx2,e.2,fun e'=>?_⟩,hb2,?_,?_⟩
   ·have:=e.1.2;omega
   ·show SA _ _ _ _ (l.map PD3.p)
    rw [hps]
    exact hs2.mono fun k e=>⟨e.1.dn hx1,fun e'=>by have:=e.1.1;omega,e.2⟩
   ·show Inv (l.map PD3.p)
    rw [hps];exact hinv
  have hblk:=x.blk.ext hx02
  have w0:=hblk.cell (j:=0) rfl
  obtain ⟨ads,caps,hsv⟩:=x.s.rd.form
  rw [hsv] at w0
  have hown:=x.s
  have hcs:=x.cs
  have hsb:∀ k,w.sv.ownBlock=some k→base≤k∧k≠wb:=fun k hk=>by
   obtain ⟨r1,r2,r3⟩:=x.rs k hk
   exact ⟨r2,fun e=>by subst e;have:=x.wr;omega⟩
  refine zgo ?_
  rw [hsv] at hown
  refine zh (SP.one ⟨xb,mb,lv,l,b,bs⟩) (hown.fr hx02 (by simp)) ?_
  intro v4 h4 q1 q2 q3
  rw [← hsv] at q2 q3
  obtain ⟨ad4,cap4,hv4⟩:=q1.rd.form
  subst hv4
  have hb4:=hblk.fr q2 (fun e=>(hsb _ e).2 rfl)
  refine zgo ?_
  refine zt (one_slice _ _ _) hb4 fun h5 hb5 hx5 hs5=>?_
  refine zgo ?_
  refine WO.val (ov_beql tab_ok rfl rfl rfl rfl) rfl rfl rfl ?_
  refine zgo ?_
  refine WO.val (ov_beql tab_ok rfl rfl rfl rfl) rfl rfl rfl ?_
  refine zgo ?_
  have hxx:=x.addP ⟨xb,mb,lv,l,b,bs⟩ hx02 hp hxb (by dsimp only;omega) (by dsimp only;omega) q1 q2 q3 hx5 hb5
  refine Runs.ret func26 (ret1 results26 rfl) ⟨rfl,(hx02.up.trans (q2.mono fun k _ e=>(hsb k e).1)).trans (hx5.mono fun k _ e=>by subst e;exact x.wbase),_,_,hxx,fun k hk=>if_pos (by omega),fun _=>by simp⟩
 ·refine zgo ?_
  refine WO.call rfl rfl rfl rfl plain_mLoaded rfl (mLoaded_ret t _ hl) fun v2 h2 ⟨hx2,hp2⟩=>?_
  rcases hp2 with ⟨h0',_⟩ | ⟨_,rfl⟩
  ·exact absurd h0' h0
  have hx02:=hx1.trans hx2
  generalize (loadedS t).1=e at h0 ⊢
  have hd:decide ((e:Int)=0)=false:=decide_eq_false (by omega)
  have hde:decide ((e:Int)=(e:Int))=true:=decide_eq_true rfl
  refine zgo ?_
  rw [hde]
  refine zgo ?_
  rw [hd]
  refine WO.val (ov_beql tab_ok rfl rfl rfl rfl) rfl rfl rfl ?_
  refine zgo ?_
  rw [hd]
  refine WO.val (ov_beql tab_ok rfl rfl rfl rfl) rfl rfl rfl ?_
  refine zgo ?_
  exact Runs.ret func26 (ret1 results26 rfl) ⟨rfl,hx02.up,_,_,(x.ex hx02).more (by omega),fun k hk=>ext_lt (by omega),fun e0=>absurd e0 h0⟩
end Go.Proofs.YtlaffgagmncgjaaGreatDoor
