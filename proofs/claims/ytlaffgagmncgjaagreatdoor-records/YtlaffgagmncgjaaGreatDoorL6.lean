import Derived.Test.YtlaffgagmncgjaaGreatDoorQ1
set_option maxRecDepth 20000
set_option maxHeartbeats 6400000
namespace Go.Proofs.YtlaffgagmncgjaaGreatDoor
open Tryz Go Go.Pat Go.Proofs
theorem plain_step:Plain Tryz.prog 31:=⟨_,func31,by decide +kernel,by rfl⟩
theorem pairC_set {S:List SP} {r:Nat} {s s':SP} (h:S[r]? = some s) (hx:s'.xb=s.xb) (hm:s'.mb=s.mb):pairC (S.set r s')=pairC S:=by
 have hc:s'.cells=s.cells:=by simp [SP.cells,hx,hm]
 induction S generalizing r with
 | nil=>rfl
 | cons a S ih =>
  cases r with
  | zero=>simp at h;subst h;simp [pairC,hc]
  | succ r =>
   simp at h
   have:=ih h
   simp only [pairC,List.set_cons_succ,List.flatMap_cons] at this ⊢
   rw [this]
theorem WI.setP {base:Nat} {h h2:Heap} {wb c:Nat} {ρ:Nat→Nat} {w:WS1} (x:WI base h wb ρ c w) {r:Nat} {s s':SP} (hs:w.S[r]? = some s) (f:Fr (fun k=>k=s.xb∨k=s.mb) h h2) (hx:s'.xb=s.xb) (hm:s'.mb=s.mb)
  (hp:PairOK (fun k=>FR ρ h k∨New h h2 k) h2 s'):WI base h2 wb (ext ρ h.size 0) (c+1) { w with S:=w.S.set r s' }:=by
 obtain ⟨p1,p2,p3,p4,p5⟩:=x.p r s hs
 have lx:=p1.x.lt
 have lm:=p1.m.lt
 have k:=x.keep (ρ':=ext ρ h.size 0) f (fun q=>q=10+2*r∨q=11+2*r) (fun k _ e=>by
  rcases e with e | e
  ·subst e;exact .inl p2
  ·subst e;exact .inr p3) (by omega) (fun k hk=>ext_lt hk)
 have hz:=f.size
 refine ⟨k.blk (by omega),k.wr,x.wbase,?_,k.rs,k.t (by omega),k.rt,k.f (by omega),k.rf,k.i (by omega),k.ri,fun i t hi=>?_,k.tab,k.r0,?_,by have:=x.ct;dsimp only;omega,by have:=x.cf;dsimp only;omega,by have:=x.ci;dsimp only;omega,x.tl,k.g (by omega) (by omega) (by omega),by have:=x.cl;dsimp only;omega⟩
 ·have:=k.s (by omega)
  dsimp only
  rw [pairC_set hs hx hm,List.length_set]
  exact this
 ·dsimp only at hi
  rw [List.getElem?_set] at hi
  split at hi
  ·rename_i e
   subst e
   split at hi
   ·cases hi
    refine ⟨hp.mono fun k hk=>?_,by rw [hx,ext_lt lx];exact p2,by rw [hm,ext_lt lm];exact p3,by rw [hx];exact p4,by rw [hm];exact p5⟩
    rcases hk with ⟨e1,e2⟩ | ⟨e1,e2⟩
    ·exact ⟨by rw [ext_lt e2];exact e1,by omega⟩
    ·exact ⟨ext_ge e1,e2⟩
   ·cases hi
  ·rename_i e
   exact k.p i t hi (by omega) (by omega)
 ·have:=x.cs;dsimp only;rw [List.length_set];omega
def StepEnd (base:Nat) (h:Heap) (wb c:Nat) (v:Value) (h':Heap):Prop:=v = .bool true∧Fr (fun k=>base≤k) h h'∧∃ ρ' w',WI base h' wb ρ' (c+3) w'
theorem step_ret (base:Nat) (h:Heap) (wb:Nat) (ρ:Nat→Nat) (c:Nat) (w:WS1) (x:WI base h wb ρ c w) (o:OpD) (hok:OpD.ok o) (hsl:o.s.length≤1100000) (hc:c≤3500000) :
  Ret Tryz.prog 31 #[.pointer (some ⟨wb,0,none⟩),.agg o.cells.toArray] h (StepEnd base h wb c):=by
 refine Ret.of_body func31 rfl ntmps31 rfl rfl ?_
 refine zgo ?_
 refine zb fun h0 hb0 hx0 hs0=>?_
 have x0:=x.ex hx0
 have hz0:=hx0.size
 have hbase:=x.bl
 generalize ext ρ h.size 0=ρ0 at x0
 have o0:=hb0.cell (j:=0) rfl
 refine zgo ?_
 refine Runs.cond_dec rfl (fun k1=>?_) (fun k1=>?_)
 ·
  have hblk:=x0.blk
  have w0:=hblk.cell (j:=0) rfl
  obtain ⟨ads,caps,hsv⟩:=x0.s.rd.form
  rw [hsv] at w0
  have hown:=x0.s
  have hcs:=x0.cs
  have hsb:∀ k,w.sv.ownBlock=some k→base≤k∧k≠wb:=fun k hk=>by
   obtain ⟨r1,r2,r3⟩:=x0.rs k hk
   exact ⟨r2,fun e=>by subst e;have:=x0.wr;omega⟩
  refine zgo ?_
  refine Runs.drawn (m:=13) (fun h'=>Fr (fun k=>w.sv.ownBlock=some k) h0 h') (fun i=>Nat.beq i 12) mixed rfl ?_
  refine zp 0 (Fr.refl _ _) ?_
  refine zp 1 (Fr.refl _ _) ?_
  refine zp 2 (Fr.refl _ _) ?_
  refine zp 3 (Fr.refl _ _) ?_
  refine zl 4 (fun _ hS=>(hS.cell (fun e=>(hsb _ e).2 rfl) w0)) (Fr.refl _ _) ?_
  refine WF.call 5 (by kernel_rfl) rfl rfl rfl rfl rfl plain_xNew rfl (xNew_ret _) fun v1 h1 ⟨hx1,hz1,hv1,hb1⟩=>⟨.inr hx1.up,?_⟩
  subst hv1
  refine WF.call 6 (by kernel_rfl) rfl rfl rfl rfl rfl plain_mNew rfl (mNew_ret _) fun v2 h2 ⟨hx2,hz2,hv2,hb2,hb3⟩=>⟨.inr (hx1.trans hx2).up,?_⟩
  subst hv2
  rw [hz1] at hb2 hb3
  have hx12:=hx1.trans hx2
  refine zx 7 hx12.up ?_
  rw [hsv] at hown
  rw [hz1]
  refine WF.push 8 9 tab_ok (by kernel_rfl) (by kernel_rfl) rfl rfl rfl rfl rfl rfl rfl rfl rfl rfl rfl rfl rfl rfl rfl rfl rfl rfl rfl (by simp) (SP.one ⟨h0.size,h0.size+2,.slice none 0 0,[],h0.size+1,[]⟩) (hown.fr hx12 (by simp)) (by omega) (fun h' hf=>hx12.up.trans (by rw [hsv];exact hf)) ?_
  intro v4 h4 q1 q2 q3
  rw [← hsv] at q2 q3
  obtain ⟨ad4,cap4,hv4⟩:=q1.rd.form
  subst hv4
  have hS4:Fr (fun k=>w.sv.ownBlock=some k) h0 h4:=hx12.up.trans q2
  refine zx 10 hS4 ?_
  refine zx 11 hS4 ?_
  refine WF.put 12 tab_ok (by kernel_rfl) rfl rfl rfl rfl rfl rfl rfl rfl rfl (one_slice _ _ _) (hblk.fr hS4 (fun e=>(hsb _ e).2 rfl)) rfl rfl fun h5 hb5 hx5 hs5=>?_
  refine zd ?_
  refine zgo ?_
  have hp:PairOK (fun k=>New h0 h2 k∧k≠h0.size∧k≠h0.size+2) h2 ⟨h0.size,h0.size+2,.slice none 0 0,[],h0.size+1,[]⟩:=⟨hb1.ext hx2,⟨(Own.nil h2 0 3).rd,by simp,fun q hq=>by simp [Value.ownBlock] at hq⟩,hb3,⟨.slice none 0 0,hb2.cells,(Own.nil h2 0 1).rd,PAs.nil _ _,⟨⟨by dsimp only;omega,by dsimp only;omega⟩,by dsimp only;omega,by dsimp only;omega⟩,fun q hq=>by simp [Value.ownBlock] at hq⟩,Inv.nil⟩
  have hxx:=x0.addP ⟨h0.size,h0.size+2,.slice none 0 0,[],h0.size+1,[]⟩ hx12 hp (by dsimp only;omega) (by dsimp only;omega) (by dsimp only;omega) q1 q2 q3 hx5 hb5
  refine Runs.ret func31 (ret1 results31 rfl) ⟨rfl,(hx0.up.trans (hS4.mono fun k _ e=>(hsb k e).1)).trans (hx5.mono fun k _ e=>by subst e;exact x0.wbase),_,_,hxx.more (by omega)⟩
 have k0:Cells h0 h.size 0 o.cells:=hb0.cells
 refine zgo ?_
 refine WO.call rfl rfl rfl rfl plain_given rfl (given_ret base h0 wb ρ0 c w x0 o hok hsl (by omega)) fun v1 h1 ⟨hf1,r,hv1,⟨ρ1,w1,x1⟩,hno⟩=>?_
 subst hv1
 clear x x0
 cases r
 rotate_left
 ·refine zgo ?_
  exact Runs.ret func31 (ret1 results31 rfl) ⟨rfl,hx0.up.trans hf1,ρ1,w1,x1.more (by omega)⟩
 obtain ⟨hx1,hkn⟩:=hno rfl
 clear hno hf1
 have hx01:=hx0.trans hx1
 have hb1:=hb0.ext hx1
 clear hb0 o0 k0
 have o0:=hb1.cell (j:=0) rfl
 have o1:=hb1.cell (j:=1) rfl
 have o2:=hb1.cell (j:=2) rfl
 have o4:=hb1.cell (j:=4) rfl
 have hblk:=x1.blk
 have hwl:=hblk.lt
 have q0:=hblk.cell (j:=0) rfl
 have q1:=hblk.cell (j:=1) rfl
 obtain ⟨ads,caps,hsv⟩:=x1.s.rd.form
 obtain ⟨adt,capt,htv⟩:=x1.t.rd.form
 rw [hsv] at q0
 rw [htv] at q1
 have stay:StepEnd base h wb c (.bool true) h1:=⟨rfl,hx01.up,ρ1,w1,x1.more (by omega)⟩
 have lod:∀ v h',(v = .bool true∧Fr (fun k=>base≤k) h1 h'∧∃ ρ' w',WI base h' wb ρ' (c+1+1) w')→StepEnd base h wb c v h':=fun v h' ⟨hv,hf,ρ',w',x'⟩=>⟨hv,hx01.up.trans hf,ρ',w',x'.more (by omega)⟩
 have hct:=x1.ct
 refine zgo ?_
 by_cases k18:o.kind=18
 ·have hd:decide (o.kind=18)=true:=decide_eq_true k18
  rw [hd]
  refine zgo ?_
  refine WO.split 39 _ rfl (fun qb=>?_) (fun qb=>?_)
  rotate_left
  ·refine zgo ?_
   refine WO.call rfl rfl rfl rfl plain_loaded rfl (loaded_ret x1 (by omega) o.s (by omega)) fun v3 h3 hl3=>?_
   obtain ⟨b3,hb3⟩:∃ b,v3 = .bool b:=⟨_,hl3.1⟩
   subst hb3
   refine zgo ?_
   exact Runs.ret func31 (ret1 results31 rfl) (lod _ _ hl3)
  refine zgo ?_
  refine Runs.cond_dec rfl (fun htp=>?_) (fun htp=>?_)
  rotate_left
  ·refine zgo ?_
   refine WO.call rfl rfl rfl rfl plain_loaded rfl (loaded_ret x1 (by omega) o.s (by omega)) fun v3 h3 hl3=>?_
   obtain ⟨b3,hb3⟩:∃ b,v3 = .bool b:=⟨_,hl3.1⟩
   subst hb3
   refine zgo ?_
   exact Runs.ret func31 (ret1 results31 rfl) (lod _ _ hl3)
  have htp':0<w1.texts.length:=by omega
  obtain ⟨bt,pt,ct,htv',_,hcst⟩:=x1.t.rd.pos htp'
  have hadt:adt=some ⟨bt,pt,none⟩∧capt=ct:=by rw [htv'] at htv;cases htv;exact ⟨rfl,rfl⟩
  obtain ⟨e1,e2⟩:=hadt
  subst e1 e2
  refine zgo ?_
  refine Runs.drawn (m:=15) (fun h'=>h'=h1) (fun _=>false) mixed rfl ?_
  refine zp 0 rfl ?_
  refine zp 1 rfl ?_
  refine zp 2 rfl ?_
  refine WF.take 3 rfl (fun _ hS=>by rw [hS];exact ov_load tab_ok rfl rfl rfl rfl q1) rfl rfl rfl rfl (by kernel_rfl) ?_
  refine zp 4 rfl ?_
  refine WF.take 5 rfl (fun _ hS=>by rw [hS];exact ov_load tab_ok rfl rfl rfl rfl o2) rfl rfl rfl rfl (by kernel_rfl) ?_
  refine zp 6 rfl ?_
  refine zp 7 rfl ?_
  refine zp 8 rfl ?_
  refine WF.take 9 rfl (fun _ hS=>by rw [hS];exact ov_load tab_ok rfl rfl rfl rfl q1) rfl rfl rfl rfl (by kernel_rfl) ?_
  refine zp 10 rfl ?_
  refine WF.call 11 (by kernel_rfl) rfl rfl rfl rfl rfl plain_pick rfl (pick_ret o.b w1.texts.length _ hok.b htp' (by omega)) fun v3 h3 ⟨hh3,r3,hr3,hv3⟩=>⟨.inr hh3,?_⟩
  subst hh3 hv3
  have hgt:w1.texts[r3]? = some w1.texts[r3]:=List.getElem?_eq_getElem hr3
  have htl:=x1.tl w1.texts[r3] (List.getElem_mem hr3)
  generalize w1.texts[r3]=t at *
  have ctx:cellAt h3 bt (pt+r3*1)=some (.string (str t)):=by rw [Nat.mul_one];exact hcst r3 _ (strs_get hgt)
  refine WF.ex 12 (by kernel_rfl) rfl rfl rfl rfl ((ov_indexAddr tab_ok rfl rfl rfl rfl rfl rfl hr3).ex ⟨.inr rfl,?_⟩)
  refine WF.ex 13 (by kernel_rfl) rfl rfl rfl rfl ((ov_load tab_ok rfl rfl rfl rfl ctx).ex ⟨.inr rfl,?_⟩)
  refine zx 14 rfl ?_
  refine zd ?_
  refine zgo ?_
  refine WO.call rfl rfl rfl rfl plain_loaded rfl (loaded_ret x1 (by omega) t (by omega)) fun v4 h4 hl4=>?_
  obtain ⟨b4,hb4⟩:∃ b,v4 = .bool b:=⟨_,hl4.1⟩
  subst hb4
  refine zgo ?_
  exact Runs.ret func31 (ret1 results31 rfl) (lod _ _ hl4)
 have d18:decide (o.kind=18)=false:=decide_eq_false k18
 rw [d18]
 clear lod
 refine zgo ?_
 refine Runs.cond_dec rfl (fun ke=>?_) (fun ke=>?_)
 ·refine zgo ?_
  exact Runs.ret func31 (ret1 results31 rfl) stay
 have hpos:0<w1.S.length:=by omega
 have hcs:=x1.cs
 obtain ⟨sb,sp,sc,hsv',_,hcells⟩:=x1.s.rd.pos hpos
 have hads:ads=some ⟨sb,sp,none⟩∧caps=sc:=by rw [hsv'] at hsv;cases hsv;exact ⟨rfl,rfl⟩
 obtain ⟨e1,e2⟩:=hads
 subst e1 e2
 refine zgo ?_
 refine Runs.drawn (m:=14) (fun h'=>h'=h1) (fun _=>false) mixed rfl ?_
 refine zp 0 rfl ?_
 refine zp 1 rfl ?_
 refine zp 2 rfl ?_
 refine WF.take 3 rfl (fun _ hS=>by rw [hS];exact ov_load tab_ok rfl rfl rfl rfl q0) rfl rfl rfl rfl (by kernel_rfl) ?_
 refine zp 4 rfl ?_
 refine WF.take 5 rfl (fun _ hS=>by rw [hS];exact ov_load tab_ok rfl rfl rfl rfl o1) rfl rfl rfl rfl (by kernel_rfl) ?_
 refine zp 6 rfl ?_
 refine zp 7 rfl ?_
 refine zp 8 rfl ?_
 refine WF.take 9 rfl (fun _ hS=>by rw [hS];exact ov_load tab_ok rfl rfl rfl rfl q0) rfl rfl rfl rfl (by kernel_rfl) ?_
 refine zp 10 rfl ?_
 refine WF.call 11 (by kernel_rfl) rfl rfl rfl rfl rfl plain_pick rfl (pick_ret o.a w1.S.length _ hok.a hpos (by omega)) fun v2 h2 ⟨hh2,r,hr,hv2⟩=>⟨.inr hh2,?_⟩
 subst hh2 hv2
 refine WF.ex 12 (by kernel_rfl) rfl rfl rfl rfl ((ov_indexAddr tab_ok rfl rfl rfl rfl rfl rfl hr).ex ⟨.inr rfl,?_⟩)
 refine zx 13 rfl ?_
 refine zd ?_
 have hgs:w1.S[r]? = some w1.S[r]:=List.getElem?_eq_getElem hr
 generalize w1.S[r]=s at *
 obtain ⟨pok,pr1,pr2,pb1,pb2⟩:=x1.p r s hgs
 have hpc:=pairC_get hcells hgs
 have c0:cellAt h2 sb (sp+r*2+0)=some (.pointer (some ⟨s.xb,0,none⟩)):=hpc.head
 have c1:cellAt h2 sb (sp+r*2+1)=some (.pointer (some ⟨s.mb,0,none⟩)):=hpc.tail.head
 have hsr:ρ1 sb=2:=(x1.rs sb (by rw [hsv'];rfl)).1
 have hFx:∀ k,FR ρ1 h2 k→k≠s.xb:=fun k hk e=>by subst e;have:=hk.1;omega
 have hFm:∀ k,FR ρ1 h2 k→k≠s.mb:=fun k hk e=>by subst e;have:=hk.1;omega
 have hxm:s.xb≠s.mb:=fun e=>by rw [e] at pr1;omega
 have hpx:sb≠s.xb:=fun e=>by rw [e] at hsr;omega
 have aft:∀ v h',AfterP (FR ρ1 h2) h2 s v h'→StepEnd base h wb c v h':=fun v h' ⟨hv,hf,s',e1,e2,hp'⟩=>by
  refine ⟨hv,hx01.up.trans (hf.mono fun k _ e=>?_),_,_,(x1.setP hgs hf e1 e2 hp').more (by omega)⟩
  rcases e with e | e
  ·subst e;exact pb1
  ·subst e;exact pb2
 have hnd:∀ v h',HandEnd base wb (c+1) h2 v h'→StepEnd base h wb c v h':=fun v h' ⟨hv,hf,ρ',w',x'⟩=>⟨hv,hx01.up.trans hf,ρ',w',x'.more (by omega)⟩
 have hne:∀ (q:Nat) (cc:List Value) (e:TypeId),Blk h2 q cc e→cc.length≠6→h.size≠q:=fun q cc e hb hl he=>by
  subst he
  have h9:=Option.some.inj (hb1.symm.trans hb)
  injection h9 with h10
  have:=congrArg Array.size h10
  simp [OpD.cells] at this
  omega
 have nw:¬ (wb=s.xb∨wb=s.mb):=fun e=>by
  have:=x1.wr
  rcases e with e | e<;>(rw [e] at this;omega)
 have no:¬ (h.size=s.xb∨h.size=s.mb):=fun e=>by
  rcases e with e | e
  ·exact hne _ _ _ pok.x (by simp) e
  ·exact hne _ _ _ pok.m (by simp) e
 refine zgo ?_
 by_cases k2:o.kind=2
 ·have hd:decide (o.kind=2)=true:=decide_eq_true k2
  rw [hd]
  refine zgo ?_
  refine WO.call rfl rfl rfl rfl plain_applied rfl (applied_ret sb (sp+r*2) s o.s _ c0 c1 pok hFx hFm hxm hpx x1.tab (by omega)) fun v3 h3 ha3=>?_
  obtain ⟨b3,hb3⟩:∃ b,v3 = .bool b:=⟨_,ha3.1⟩
  subst hb3
  refine zgo ?_
  exact Runs.ret func31 (ret1 results31 rfl) (aft _ _ ha3)
 have d2:decide (o.kind=2)=false:=decide_eq_false k2
 rw [d2]
 refine zgo ?_
 by_cases k3:o.kind=3
 ·have hd:decide (o.kind=3)=true:=decide_eq_true k3
  rw [hd]
  refine zgo ?_
  refine Runs.cond_dec rfl (fun htp=>?_) (fun htp=>?_)
  rotate_left
  ·refine zgo ?_
   exact Runs.ret func31 (ret1 results31 rfl) stay
  have htp':0<w1.texts.length:=by omega
  obtain ⟨bt,pt,ct,htv',_,hcst⟩:=x1.t.rd.pos htp'
  have hadt:adt=some ⟨bt,pt,none⟩∧capt=ct:=by rw [htv'] at htv;cases htv;exact ⟨rfl,rfl⟩
  obtain ⟨e1,e2⟩:=hadt
  subst e1 e2
  refine zgo ?_
  refine Runs.drawn (m:=17) (fun h'=>Fr (fun k=>k=s.xb∨k=s.mb) h2 h') (fun _=>false) mixed rfl ?_
  refine zp 0 (Fr.refl _ _) ?_
  refine zp 1 (Fr.refl _ _) ?_
  refine zp 2 (Fr.refl _ _) ?_
  refine zp 3 (Fr.refl _ _) ?_
  refine zl 4 (fun _ hS=>(hS.cell nw q1)) (Fr.refl _ _) ?_
  refine zp 5 (Fr.refl _ _) ?_
  refine zl 6 (fun _ hS=>(hS.cell no o2)) (Fr.refl _ _) ?_
  refine zp 7 (Fr.refl _ _) ?_
  refine zp 8 (Fr.refl _ _) ?_
  refine zp 9 (Fr.refl _ _) ?_
  refine zl 10 (fun _ hS=>(hS.cell nw q1)) (Fr.refl _ _) ?_
  refine zp 11 (Fr.refl _ _) ?_
  refine WF.call 12 (by kernel_rfl) rfl rfl rfl rfl rfl plain_pick rfl (pick_ret o.b w1.texts.length _ hok.b htp' (by omega)) fun v3 h3 ⟨hh3,r3,hr3,hv3⟩=>⟨.inr (by rw [hh3];exact Fr.refl _ _),?_⟩
  subst hh3 hv3
  have hgt:w1.texts[r3]? = some w1.texts[r3]:=List.getElem?_eq_getElem hr3
  have htl:=x1.tl w1.texts[r3] (List.getElem_mem hr3)
  generalize w1.texts[r3]=t at *
  have ctx:cellAt h3 bt (pt+r3*1)=some (.string (str t)):=by rw [Nat.mul_one];exact hcst r3 _ (strs_get hgt)
  refine WF.ex 13 (by kernel_rfl) rfl rfl rfl rfl ((ov_indexAddr tab_ok rfl rfl rfl rfl rfl rfl hr3).ex ⟨.inr (Fr.refl _ _),?_⟩)
  refine WF.ex 14 (by kernel_rfl) rfl rfl rfl rfl ((ov_load tab_ok rfl rfl rfl rfl ctx).ex ⟨.inr (Fr.refl _ _),?_⟩)
  refine WF.call 15 (by kernel_rfl) rfl rfl rfl rfl rfl plain_applied rfl (applied_ret sb (sp+r*2) s t _ c0 c1 pok hFx hFm hxm hpx x1.tab (by omega)) fun v4 h4 ha4=>⟨.inr ha4.2.1,?_⟩
  obtain ⟨b4,hb4⟩:∃ b,v4 = .bool b:=⟨_,ha4.1⟩
  subst hb4
  refine zx 16 ha4.2.1 ?_
  refine zd ?_
  refine zgo ?_
  exact Runs.ret func31 (ret1 results31 rfl) (aft _ _ ha4)
 have d3:decide (o.kind=3)=false:=decide_eq_false k3
 rw [d3]
 refine zgo ?_
 by_cases k4:o.kind=4
 ·have hd:decide (o.kind=4)=true:=decide_eq_true k4
  rw [hd]
  refine zgo ?_
  refine WO.call rfl rfl rfl rfl plain_unapplied rfl (unapplied_ret sb (sp+r*2) s o.b _ c0 c1 pok hFx hFm hxm hpx) fun v3 h3 ha3=>?_
  obtain ⟨b3,hb3⟩:∃ b,v3 = .bool b:=⟨_,ha3.1⟩
  subst hb3
  refine zgo ?_
  exact Runs.ret func31 (ret1 results31 rfl) (aft _ _ ha3)
 have d4:decide (o.kind=4)=false:=decide_eq_false k4
 rw [d4]
 refine zgo ?_
 by_cases k5:o.kind=5
 ·have hd:decide (o.kind=5)=true:=decide_eq_true k5
  rw [hd]
  refine zgo ?_
  refine Runs.drawn (m:=16) (fun h'=>Fr (fun k=>k=s.xb∨k=s.mb) h2 h') (fun _=>false) mixed rfl ?_
  refine zp 0 (Fr.refl _ _) ?_
  refine zp 1 (Fr.refl _ _) ?_
  refine zp 2 (Fr.refl _ _) ?_
  refine zp 3 (Fr.refl _ _) ?_
  refine zl 4 (fun _ hS=>(hS.cell nw q0)) (Fr.refl _ _) ?_
  refine zp 5 (Fr.refl _ _) ?_
  refine zl 6 (fun _ hS=>(hS.cell no o2)) (Fr.refl _ _) ?_
  refine zp 7 (Fr.refl _ _) ?_
  refine zp 8 (Fr.refl _ _) ?_
  refine zp 9 (Fr.refl _ _) ?_
  refine zl 10 (fun _ hS=>(hS.cell nw q0)) (Fr.refl _ _) ?_
  refine zp 11 (Fr.refl _ _) ?_
  refine WF.call 12 (by kernel_rfl) rfl rfl rfl rfl rfl plain_pick rfl (pick_ret o.b w1.S.length _ hok.b hpos (by omega)) fun v3 h3 ⟨hh3,r3,hr3,hv3⟩=>⟨.inr (by rw [hh3];exact Fr.refl _ _),?_⟩
  subst hh3 hv3
  have hgt:w1.S[r3]? = some w1.S[r3]:=List.getElem?_eq_getElem hr3
  generalize w1.S[r3]=t at *
  obtain ⟨qok,qr1,qr2,_,_⟩:=x1.p r3 t hgt
  have hqc:=pairC_get hcells hgt
  have hst':s=t∨(t.xb≠s.xb∧t.mb≠s.mb):=by
   by_cases e:r=r3
   ·subst e;exact .inl (Option.some.inj (hgs.symm.trans hgt))
   ·exact .inr ⟨fun e'=>by rw [e'] at qr1;omega,fun e'=>by rw [e'] at qr2;omega⟩
  refine WF.ex 13 (by kernel_rfl) rfl rfl rfl rfl ((ov_indexAddr tab_ok rfl rfl rfl rfl rfl rfl hr3).ex ⟨.inr (Fr.refl _ _),?_⟩)
  refine WF.call 14 (by kernel_rfl) rfl rfl rfl rfl rfl plain_pulled rfl (pulled_ret sb (sp+r*2) (sp+r3*2) s t _ c0 c1 hqc.head hqc.tail.head pok qok hst' hFx hFm hxm (fun e'=>by rw [e'] at qr2;omega) (fun e'=>by rw [e'] at qr1;omega) hpx (fun e=>by rw [e] at hsr;omega) x1.tab) fun v4 h4 ha4=>⟨.inr ha4.2.1,?_⟩
  obtain ⟨b4,hb4⟩:∃ b,v4 = .bool b:=⟨_,ha4.1⟩
  subst hb4
  refine zx 15 ha4.2.1 ?_
  refine zd ?_
  refine zgo ?_
  exact Runs.ret func31 (ret1 results31 rfl) (aft _ _ ha4)
 have d5:decide (o.kind=5)=false:=decide_eq_false k5
 rw [d5]
 refine zgo ?_
 by_cases k6:o.kind=6
 ·have hd:decide (o.kind=6)=true:=decide_eq_true k6
  rw [hd]
  refine zgo ?_
  refine WO.call rfl rfl rfl rfl plain_shown rfl (shown_ret x1 (by omega) sb (sp+r*2) r s hgs c0 c1) fun v3 h3 ha3=>?_
  obtain ⟨b3,hb3⟩:∃ b,v3 = .bool b:=⟨_,ha3.1⟩
  subst hb3
  refine zgo ?_
  exact Runs.ret func31 (ret1 results31 rfl) (hnd _ _ ha3)
 have d6:decide (o.kind=6)=false:=decide_eq_false k6
 rw [d6]
 refine zgo ?_
 by_cases k7:o.kind=7
 ·have hd:decide (o.kind=7)=true:=decide_eq_true k7
  rw [hd]
  refine zgo ?_
  refine WO.call rfl rfl rfl rfl plain_logged rfl (logged_ret x1 (by omega) sb (sp+r*2) r s hgs c0 c1) fun v3 h3 ha3=>?_
  obtain ⟨b3,hb3⟩:∃ b,v3 = .bool b:=⟨_,ha3.1⟩
  subst hb3
  refine zgo ?_
  exact Runs.ret func31 (ret1 results31 rfl) (hnd _ _ ha3)
 have d7:decide (o.kind=7)=false:=decide_eq_false k7
 rw [d7]
 refine zgo ?_
 by_cases k8:o.kind=8
 ·have hd:decide (o.kind=8)=true:=decide_eq_true k8
  rw [hd]
  refine zgo ?_
  refine WO.call rfl rfl rfl rfl plain_ptext rfl (ptext_ret sb (sp+r*2) s o.b _ c0 c1 pok x1.tab) fun v3 h3 ⟨hx3,t,et,htx,hv3⟩=>?_
  subst hv3
  have htl:t.length≤1100000:=by
   rcases htx with ⟨p,hp,_,e,_⟩ | ⟨_,e,_⟩
   ·rw [e]
    have hpo:=pok.inv.ok hp
    have:=text_len hpo
    omega
   ·rw [e];simp
  have x3:=x1.ex hx3
  have hz3:=hx3.size
  have htlt:∀ k,w1.tv.ownBlock=some k→base≤k∧k≠wb:=fun k hk=>by
   obtain ⟨r1,r2,r3⟩:=x1.rt k hk
   exact ⟨r2,fun e=>by subst e;have:=x1.wr;omega⟩
  generalize ext ρ1 h2.size 0=ρ3 at x3
  have hb3:=x3.blk
  have q3:=hx3.xc q1
  have htown:=x3.t
  rw [htv] at htown
  refine zgo ?_
  refine zh (one_str t) htown ?_
  intro v4 h4 p1 p2 p3
  rw [← htv] at p2 p3
  obtain ⟨ad4,cap4,hv4⟩:=p1.rd.form
  subst hv4
  have hb4:=hb3.fr p2 (fun e=>(htlt _ e).2 rfl)
  refine zgo ?_
  refine zt (one_slice _ _ _) hb4 fun h5 hb5 hx5 hs5=>?_
  refine zgo ?_
  have hz4:=p2.size
  have p1':Own h4 9 1 (.slice ad4 (w1.texts.length+1) cap4) (w1.texts++[t]).length (strs (w1.texts++[t])):=by
   rw [strs_append,List.length_append];exact p1
  have hfr:Fr (fun k=>k=wb∨w1.tv.ownBlock=some k) h3 h5:=(p2.mono fun k _ e=>.inr e).trans (hx5.mono fun k _ e=>.inl e)
  have hnw:∀ k,Value.ownBlock (.slice ad4 (w1.texts.length+1) cap4)=some k→¬ k=wb:=fun k hk e=>by
   rcases p3 k hk with e' | e'
   ·exact (htlt k e').2 e
   ·omega
  refine Runs.ret func31 (ret1 results31 rfl) ⟨rfl,(hx01.trans hx3).up.trans (hfr.mono fun k _ e=>?_),_,_,(x3.setT hfr (fun k e=>e) hb5 (p1'.fr hx5 hnw) (x3.rt.moved p3 (Fr.refl (fun _=>False) h3) (fun k hk=>by have:=p1.lt k hk;omega) x3.bl) (by simp;omega) (fun t' ht'=>?_)).more (by omega)⟩
  ·rcases e with e | e
   ·subst e;exact x1.wbase
   ·exact (htlt k e).1
  ·rcases List.mem_append.1 ht' with e | e
   ·exact x1.tl t' e
   ·simp at e;rw [e];exact htl
 have d8:decide (o.kind=8)=false:=decide_eq_false k8
 rw [d8]
 refine zgo ?_
 by_cases k16:o.kind=16
 ·have hd:decide (o.kind=16)=true:=decide_eq_true k16
  rw [hd]
  refine zgo ?_
  refine WO.call rfl rfl rfl rfl plain_credited rfl (credited_ret x1 (by omega) sb (sp+r*2) r s o.b hgs c0 c1) fun v3 h3 ha3=>?_
  obtain ⟨b3,hb3⟩:∃ b,v3 = .bool b:=⟨_,ha3.1⟩
  subst hb3
  refine zgo ?_
  exact Runs.ret func31 (ret1 results31 rfl) (hnd _ _ ha3)
 have d16:decide (o.kind=16)=false:=decide_eq_false k16
 rw [d16]
 refine zgo ?_
 by_cases k17:o.kind=17
 ·have hd:decide (o.kind=17)=true:=decide_eq_true k17
  rw [hd]
  refine zgo ?_
  refine WO.call rfl rfl rfl rfl plain_xBundle rfl (xBundle_ret itoaOK s.xb s.l s.lv _ x1.tab pok.x pok.xs pok.inv) fun va ha ⟨hxa,hva⟩=>?_
  subst hva
  have ca:=hxa.xc c1
  refine zgo ?_
  refine WO.call rfl rfl rfl rfl plain_mBundle rfl (mBundle_ret s.mb s.b s.bs s.ps _ (pok.m.ext hxa) (pok.sa.ext hxa) pok.inv) fun v3 h3 ⟨hxb,hv3⟩=>?_
  subst hv3
  have hx3:=hxa.trans hxb
  have htl:(bundleS s.ps).length≤1100000:=by
   have:=(bun_ok pok.inv s.ps.length (Nat.le_refl _)).tl
   have:=pok.inv.len
   unfold bundleS;omega
  rw [show bundleS (List.map PD3.p s.l)=bundleS s.ps from rfl]
  generalize bundleS s.ps=t at *
  have hdt:decide (t=t)=true:=by simp
  have x3:=x1.ex hx3
  have hz3:=hx3.size
  have htlt:∀ k,w1.tv.ownBlock=some k→base≤k∧k≠wb:=fun k hk=>by
   obtain ⟨r1,r2,r3⟩:=x1.rt k hk
   exact ⟨r2,fun e=>by subst e;have:=x1.wr;omega⟩
  generalize ext ρ1 h2.size 0=ρ3 at x3
  have hb3:=x3.blk
  have q3:=hx3.xc q1
  have htown:=x3.t
  rw [htv] at htown
  refine zgo ?_
  refine zh (one_str t) htown ?_
  intro v4 h4 p1 p2 p3
  rw [← htv] at p2 p3
  obtain ⟨ad4,cap4,hv4⟩:=p1.rd.form
  subst hv4
  have hb4:=hb3.fr p2 (fun e=>(htlt _ e).2 rfl)
  refine zgo ?_
  refine zt (one_slice _ _ _) hb4 fun h5 hb5 hx5 hs5=>?_
  refine zgo ?_
  rw [hdt]
  have hz4:=p2.size
  have p1':Own h4 9 1 (.slice ad4 (w1.texts.length+1) cap4) (w1.texts++[t]).length (strs (w1.texts++[t])):=by
   rw [strs_append,List.length_append];exact p1
  have hfr:Fr (fun k=>k=wb∨w1.tv.ownBlock=some k) h3 h5:=(p2.mono fun k _ e=>.inr e).trans (hx5.mono fun k _ e=>.inl e)
  have hnw:∀ k,Value.ownBlock (.slice ad4 (w1.texts.length+1) cap4)=some k→¬ k=wb:=fun k hk e=>by
   rcases p3 k hk with e' | e'
   ·exact (htlt k e').2 e
   ·omega
  refine Runs.ret func31 (ret1 results31 rfl) ⟨rfl,(hx01.trans hx3).up.trans (hfr.mono fun k _ e=>?_),_,_,(x3.setT hfr (fun k e=>e) hb5 (p1'.fr hx5 hnw) (x3.rt.moved p3 (Fr.refl (fun _=>False) h3) (fun k hk=>by have:=p1.lt k hk;omega) x3.bl) (by simp;omega) (fun t' ht'=>?_)).more (by omega)⟩
  ·rcases e with e | e
   ·subst e;exact x1.wbase
   ·exact (htlt k e).1
  ·rcases List.mem_append.1 ht' with e | e
   ·exact x1.tl t' e
   ·simp at e;rw [e];exact htl
 have d17:decide (o.kind=17)=false:=decide_eq_false k17
 rw [d17]
 refine zgo ?_
 by_cases k11:o.kind=11
 ·have hd:decide (o.kind=11)=true:=decide_eq_true k11
  rw [hd]
  refine zgo ?_
  refine WO.call rfl rfl rfl rfl plain_alive rfl (alive_ret sb (sp+r*2) s _ c1 pok) fun v3 h3 ⟨hx3,out,ho3,hl3,hm3,hsh⟩=>?_
  have hb3:=hblk.ext hx3
  have hz3:=hx3.size
  obtain ⟨ad3,cap3,hv3⟩:=ho3.rd.form
  subst hv3
  refine zgo ?_
  refine zt (one_slice _ _ _) hb3 fun h4 hb4 hx4 hs4=>?_
  refine zgo ?_
  have hfr:Fr (fun k=>k=wb∨w1.fv.ownBlock=some k) h2 h4:=hx3.up.trans (hx4.mono fun k _ e=>.inl e)
  have ho4:=ho3.fr hx4 (fun k hk e=>by have:=hm3 k hk;omega)
  refine Runs.ret func31 (ret1 results31 rfl) ⟨rfl,(hx01.trans hx3).up.trans (hx4.mono fun k _ e=>by subst e;exact x1.wbase),_,_,(x1.setF hfr (fun k e=>e) hb4 ⟨ho4.rd,.inl ho4,fun t ht=>by have:=hsh t ht;omega⟩ (fun k hk=>⟨ext_ge (hm3 k hk),by have:=hm3 k hk;have:=x1.bl;omega,ho4.lt k hk⟩) (by omega)).more (by omega)⟩
 have d11:decide (o.kind=11)=false:=decide_eq_false k11
 rw [d11]
 refine zgo ?_
 by_cases k14:o.kind=14
 ·have hd:decide (o.kind=14)=true:=decide_eq_true k14
  rw [hd]
  refine zgo ?_
  have hlo:¬ (h.size=wb∨w1.lv.ownBlock=some h.size):=fun e=>by
   rcases e with e | e
   ·exact hne _ _ _ x1.blk (by simp) e
   ·rcases x1.g.l.2 with ⟨hv,_⟩ | ⟨g,cap,cur,hv,hg,_⟩
    ·rw [hv] at e;simp [Value.ownBlock] at e
    ·rw [hv] at e
     have e':g=h.size:=by simpa [Value.ownBlock] using e
     subst e'
     have h9:=Option.some.inj (hb1.symm.trans hg)
     injection h9 with _ h10
     exact absurd h10 (by decide)
  have hS0:Fr (fun k=>k=wb∨w1.lv.ownBlock=some k) h2 h2∧cellAt h2 wb (0+2)=some w1.fv:=⟨Fr.refl _ _,x1.blk.cell (j:=2) rfl⟩
  refine Runs.drawn (m:=14) (fun h'=>Fr (fun k=>k=wb∨w1.lv.ownBlock=some k) h2 h'∧cellAt h' wb (0+2)=some w1.fv) (fun _=>false) mixed rfl ?_
  refine zp 0 hS0 ?_
  refine zp 1 hS0 ?_
  refine zp 2 hS0 ?_
  refine zl 3 (fun _ hS=>(Fr.cell hS.1 hlo o2)) hS0 ?_
  refine zp 4 hS0 ?_
  refine zp 5 hS0 ?_
  refine zp 6 hS0 ?_
  refine zl 7 (fun _ hS=>hS.2) hS0 ?_
  refine WF.call 8 (by kernel_rfl) rfl rfl rfl rfl rfl plain_recorded rfl (recorded_ret x1 (by omega) sb (sp+r*2) r s o.b hgs c0 c1 w1.file w1.fv x1.f.1 (by have:=x1.cf;omega) x1.f.2.2) fun v3 h3 ⟨t,hv3,htl',hf3,hc3,ρ3,w3,x3⟩=>⟨.inr ⟨hf3,hc3⟩,?_⟩
  subst hv3
  refine zp 9 ⟨hf3,hc3⟩ ?_
  refine zp 10 ⟨hf3,hc3⟩ ?_
  refine zp 11 ⟨hf3,hc3⟩ ?_
  refine zp 12 ⟨hf3,hc3⟩ ?_
  refine zp 13 ⟨hf3,hc3⟩ ?_
  refine zd ?_
  have htl:t.length≤1100000:=by omega
  have htlt:∀ k,w3.tv.ownBlock=some k→base≤k∧k≠wb:=fun k hk=>by
   obtain ⟨r1,r2,r3⟩:=x3.rt k hk
   exact ⟨r2,fun e=>by subst e;have:=x3.wr;omega⟩
  have hb3:=x3.blk
  have htown:=x3.t
  have hct3:=x3.ct
  have q3:=hb3.cell (j:=1) rfl
  obtain ⟨ad3,cap3,htv3⟩:=htown.rd.form
  rw [htv3] at htown q3
  refine zgo ?_
  refine zh (one_str t) htown ?_
  intro v4 h4 p1 p2 p3
  rw [← htv3] at p2 p3
  obtain ⟨ad4,cap4,hv4⟩:=p1.rd.form
  subst hv4
  have hb4:=hb3.fr p2 (fun e=>(htlt _ e).2 rfl)
  refine zgo ?_
  refine zt (one_slice _ _ _) hb4 fun h5 hb5 hx5 hs5=>?_
  refine zgo ?_
  have hz4:=p2.size
  have p1':Own h4 9 1 (.slice ad4 (w3.texts.length+1) cap4) (w3.texts++[t]).length (strs (w3.texts++[t])):=by
   rw [strs_append,List.length_append];exact p1
  have hfr:Fr (fun k=>k=wb∨w3.tv.ownBlock=some k) h3 h5:=(p2.mono fun k _ e=>.inr e).trans (hx5.mono fun k _ e=>.inl e)
  have hnw:∀ k,Value.ownBlock (.slice ad4 (w3.texts.length+1) cap4)=some k→¬ k=wb:=fun k hk e=>by
   have hwl:=hb3.lt
   rcases p3 k hk with e' | e'
   ·exact (htlt k e').2 e
   ·omega
  refine Runs.ret func31 (ret1 results31 rfl) ⟨rfl,(hx01.up.trans (hf3.mono fun k _ e=>?_)).trans (hfr.mono fun k _ e=>?_),_,_,(x3.setT hfr (fun k e=>e) hb5 (p1'.fr hx5 hnw) (x3.rt.moved p3 (Fr.refl (fun _=>False) h3) (fun k hk=>by have:=p1.lt k hk;omega) x3.bl) (by simp;omega) (fun t' ht'=>?_)).more (by omega)⟩
  ·rcases e with e | e
   ·subst e;exact x1.wbase
   ·obtain ⟨_,e2,_⟩:=x1.g.rl k e;exact e2
  ·rcases e with e | e
   ·subst e;exact x1.wbase
   ·exact (htlt k e).1
  ·rcases List.mem_append.1 ht' with e | e
   ·exact x3.tl t' e
   ·simp at e;rw [e];exact htl
 have d14:decide (o.kind=14)=false:=decide_eq_false k14
 rw [d14]
 refine zgo ?_
 exact Runs.ret func31 (ret1 results31 rfl) stay
theorem plain_UpTo:Plain Tryz.prog 16:=⟨_,func16,by decide +kernel,by rfl⟩
theorem Fr.base {h h':Heap} (f:Fr (fun k=>h.size≤k) h h'):Ext h h':=f.mono fun k hk e=>by omega
structure UX where
 (i:Nat) (ρ:Nat→Nat) (w:WS1)
theorem upTo_ret (only:Int) (l:List OpD) (v:Value) (h:Heap) (hr:Rd h 6 v l.length (opsC l)) (hok:∀ o∈l,OpD.ok o) (hw:l.length+weight l≤1048576) (htab:Tab10 h) :
  Ret Tryz.prog 16 #[v,.int .i64 only] h fun r h'=>Ext h h'∧r = .int .i64 (-1):=by
 obtain ⟨ad,cap,hv⟩:=hr.form
 subst hv
 refine Ret.of_body func16 rfl ntmps16 rfl rfl ?_
 have htl:=htab.lt
 refine zgo ?_
 refine zb fun h1 hb1 hx1 hs1=>?_
 have x1:WI h.size h1 h.size (fun k=>if k=h.size then 1 else 0) 0 ⟨[],[],[],.slice none 0 0,.slice none 0 0,.slice none 0 0,.slice none 0 0,0,[],.slice none 0 0,0,[]⟩:=by
  refine ⟨hb1,if_pos rfl,Nat.le_refl _,Own.nil _ _ _,fun k hk=>?_,Own.nil _ _ _,fun k hk=>?_,Fl.nil _,fun k hk=>?_,Own.nil _ _ _,fun k hk=>?_,fun i s hi=>by simp at hi,htab.fr hx1 (by simp),if_neg (by omega),Nat.le_refl _,Nat.le_refl _,by simp,Nat.le_refl _,by simp,⟨Own.nil _ _ _,fun k hk=>?_,fun k v hk=>?_,fun k v hk=>?_⟩,Nat.le_refl _⟩<;>simp [Value.ownBlock] at hk
 refine zgo ?_
 refine Runs.loop (X:=UX) (fun x=>[(0,.slice ad l.length cap),(1,.int .i64 only),(5,.pointer (some ⟨h.size,0,none⟩)),(10,.int .i64 (l.length:Int)),(11,.int .i64 (x.i:Int))])
  (fun x h'=>x.i≤l.length∧Ext h h'∧WI h.size h' h.size x.ρ (3*x.i) x.w) (fun x=>l.length-x.i) ⟨0,_,_⟩ ⟨rfl,rfl,rfl,rfl,rfl,trivial⟩ ⟨Nat.zero_le _,hx1,x1⟩ ?_
 rintro ⟨i,ρ,w⟩ h2 ⟨hi,hx2,x2⟩ ih
 dsimp only at hi hx2 x2 ih ⊢
 refine zgo ?_
 refine Runs.cond_dec rfl (fun hlt=>?_) (fun hge=>?_)
 rotate_left
 ·refine zgo ?_
  exact Runs.ret func16 (ret1 results16 rfl) ⟨hx2,rfl⟩
 have hlt':i<l.length:=by omega
 have hget:l[i]? = some l[i]:=List.getElem?_eq_getElem hlt'
 have hmem:l[i]∈l:=List.getElem_mem hlt'
 have hok':=hok _ hmem
 have hwt:=weight_mem hmem
 generalize l[i]=o at *
 obtain ⟨b0,p0,cap0,hv,_,hcs⟩:=(hr.ext hx2).pos (by omega)
 cases hv
 have hoc:=opsC_get hcs hget
 have o0:cellAt h2 b0 (p0+i*6+0)=some (.int .i64 o.kind):=hoc.head
 refine zgo ?_
 by_cases ho:only=0
 ·have d0:decide (only=0)=true:=decide_eq_true ho
  rw [d0]
  refine zgo ?_
  refine WO.call rfl rfl rfl rfl plain_step rfl (step_ret h.size _ h.size ρ (3*i) w x2 o hok' (by omega) (by omega)) fun v5 h5 ⟨hv5,hf5,ρ5,w5,x5⟩=>?_
  subst hv5
  have hz2:=hx2.size
  have hx5:Ext h h5:=hx2.trans_new (hf5.mono fun k _ e=>.inr e)
  refine zgo ?_
  rw [d0]
  refine zgo ?_
  refine WO.call rfl rfl rfl rfl plain_looks rfl (looks_ret x5 (by omega)) fun v6 h6 ⟨hx6,hv6⟩=>?_
  subst hv6
  refine zgo ?_
  exact ih ⟨i+1,ρ5,w5⟩ _ _ (by dsimp only;omega) ⟨rfl,rfl,rfl,rfl,rfl,trivial⟩ ⟨hlt',hx5.trans hx6,(x5.exR hx6 fun k _=>rfl).more (by dsimp only;omega)⟩
 have d0:decide (only=0)=false:=decide_eq_false ho
 rw [d0]
 refine zgo ?_
 refine WO.call rfl rfl rfl rfl plain_stage rfl (stage_ret o.kind _) fun v3 h3 ⟨hh3,hv3⟩=>?_
 subst hh3 hv3
 refine zgo ?_
 refine WO.call rfl rfl rfl rfl plain_built rfl (built_ret only _) fun v4 h4 ⟨hh4,hv4⟩=>?_
 subst hh4 hv4
 generalize (if only = -1 then 2 else stageS only)=B
 refine zgo ?_
 refine Runs.cond_dec rfl (fun hbig=>?_) (fun hbig=>?_)
 ·refine zgo ?_
  exact ih ⟨i+1,ρ,w⟩ _ _ (by dsimp only;omega) ⟨rfl,rfl,rfl,rfl,rfl,trivial⟩ ⟨hlt',hx2,x2.more (by dsimp only;omega)⟩
 refine zgo ?_
 refine WO.call rfl rfl rfl rfl plain_step rfl (step_ret h.size _ h.size ρ (3*i) w x2 o hok' (by omega) (by omega)) fun v5 h5 ⟨hv5,hf5,ρ5,w5,x5⟩=>?_
 subst hv5
 have hz2:=hx2.size
 have hx5:Ext h h5:=hx2.trans_new (hf5.mono fun k _ e=>.inr e)
 refine zgo ?_
 rw [d0]
 refine zgo ?_
 by_cases hm:only = -1
 ·have dm:decide (only = -1)=true:=decide_eq_true hm
  rw [dm]
  refine zgo ?_
  refine WO.call rfl rfl rfl rfl plain_looks rfl (looks_ret x5 (by omega)) fun v6 h6 ⟨hx6,hv6⟩=>?_
  subst hv6
  refine zgo ?_
  exact ih ⟨i+1,ρ5,w5⟩ _ _ (by dsimp only;omega) ⟨rfl,rfl,rfl,rfl,rfl,trivial⟩ ⟨hlt',hx5.trans hx6,(x5.exR hx6 fun k _=>rfl).more (by dsimp only;omega)⟩
 have dm:decide (only = -1)=false:=decide_eq_false hm
 rw [dm]
 refine zgo ?_
 exact ih ⟨i+1,ρ5,w5⟩ _ _ (by dsimp only;omega) ⟨rfl,rfl,rfl,rfl,rfl,trivial⟩ ⟨hlt',hx5,x5.more (by dsimp only;omega)⟩
end Go.Proofs.YtlaffgagmncgjaaGreatDoor
