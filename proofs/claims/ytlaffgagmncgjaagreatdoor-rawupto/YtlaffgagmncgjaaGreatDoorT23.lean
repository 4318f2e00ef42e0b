import Derived.Test.YtlaffgagmncgjaaGreatDoorT21
set_option maxRecDepth 20000
set_option maxHeartbeats 3200000
namespace Go.Proofs.YtlaffgagmncgjaaGreatDoor
open Tryz Go Go.Pat Go.Proofs
theorem plain114:Plain Tryz.prog 133:=⟨_,func133,by decide +kernel,by rfl⟩
theorem MG.ext {h h':Heap} {b sb:Nat} {al:List LineD} {ld:List (List Bool)} {fx:List Bool} {bl:List Int} (x:MG h b sb al ld fx bl) (f:Ext h h'):MG h' b sb al ld fx bl:=by
 obtain ⟨alv,ldv,fxv,blv,hc,h1,h2,h3,h4⟩:=x.out
 exact ⟨⟨alv,ldv,fxv,blv,f.xcs hc,h1.ext f,h2.ext f,h3.ext f,h4.ext f⟩,x.sq,x.fxl,x.bll⟩
def bndS (ld:List (List Bool)) (bl:List Int) (a b:Nat):Bool:=decide (bl.getD a 0=bl.getD b 0)&&(getB ld a b||getB ld b a)
def Conn (n:Nat) (ld:List (List Bool)) (bl:List Int) (i k:Nat):Prop:=∀ S:Nat→Prop,S i→(∀ a b:Nat,S a→b<n→bndS ld bl a b=true→S b)→S k
theorem Conn.refl {n:Nat} {ld:List (List Bool)} {bl:List Int} {i:Nat}:Conn n ld bl i i:=fun _ h _=>h
theorem Conn.step {n:Nat} {ld:List (List Bool)} {bl:List Int} {i a b:Nat} (h1:Conn n ld bl i a) (h2:b<n) (h3:bndS ld bl a b=true):Conn n ld bl i b:=fun S r s=>s a b (h1 S r s) h2 h3
structure IsStrand (n:Nat) (ld:List (List Bool)) (bl:List Int) (i r:Nat):Prop where
 conn:Conn n ld bl i r
 least:∀ k,Conn n ld bl i k→r≤k
def falses:List Bool→Nat
 | []=>0
 | b::l=>(if b then 0 else 1)+falses l
theorem falses_set:∀ {l:List Bool} {b:Nat},l[b]? = some false→falses (l.set b true)<falses l
 | [],b,h=>by simp at h
 | x::l,0,h=>by simp at h;subst h;simp [falses]
 | x::l,b+1,h=>by
  simp at h
  have:=falses_set (l:=l) h
  simp [falses];exact this
def clo (n:Nat) (ld:List (List Bool)) (bl:List Int) (l:List Bool) (a:Nat):Prop:=∀ b,b<n→l[a]? = some true→bndS ld bl a b=true→l[b]? = some true
theorem clo_all {n:Nat} {ld:List (List Bool)} {bl:List Int} {l:List Bool} {i:Nat} (hc:∀ a<n,clo n ld bl l a) (hl:l.length=n) (hi:l[i]? = some true) {k:Nat} (h:Conn n ld bl i k):l[k]? = some true:=by
 refine h (fun k=>l[k]? = some true) hi fun a b ih hb hbd=>?_
 have:=(List.getElem?_eq_some_iff.1 ih).1
 exact hc _ (by omega) _ hb ih hbd
structure MX where
 (l:List Bool) (more:Bool)
structure MAX where
 (a:Nat) (l:List Bool) (more:Bool)
theorem MG.bl {h:Heap} {b sb:Nat} {al:List LineD} {ld:List (List Bool)} {fx:List Bool} {bl:List Int} (x:MG h b sb al ld fx bl) {j:Nat} (hj:j<al.length):bl[j]? = some (bl.getD j 0):=by
 rw [List.getD_eq_getElem?_getD,List.getElem?_eq_getElem (by rw [x.bll];exact hj)];rfl
theorem intsI_get {l:List Int} {i:Nat} {x:Int} (h:l[i]? = some x):(intsI l)[i]? = some (.int .i64 x):=by simp [intsI,h]
theorem strand_ret (mb sb i:Nat) (al:List LineD) (ld:List (List Bool)) (fx:List Bool) (bl:List Int) (h:Heap) (hg:MG h mb sb al ld fx bl) (hi:i<al.length) (hl:al.length≤100000) :
  Ret Tryz.prog 133 #[.pointer (some ⟨mb,0,none⟩),.int .i64 (i:Int)] h fun v h'=>Ext h h'∧∃ r:Nat,v = .int .i64 (r:Int)∧r<al.length∧IsStrand al.length ld bl i r:=by
 refine Ret.of_body func133 rfl ntmps133 rfl rfl ?_
 have hbl:=fun j hj=>MG.bl hg (j:=j) hj
 obtain ⟨alv,ldv,fxv,blv,hc,har,hmat,hfr,hbr⟩:=hg.out
 obtain ⟨ada,capa,hva⟩:=har.form
 subst hva
 have sq:=hg.sq
 have f1:=hc.tail.head
 have f2:=hc.tail.tail.head
 have f4:=hc.tail.tail.tail.tail.head
 refine zgo ?_
 refine WO.make tab_ok rfl rfl rfl rfl rfl rfl rfl rfl rfl rfl (by omega) fun h1 hb1 hx1 hs1=>?_
 refine zgo ?_
 refine WO.put1 tab_ok rfl rfl rfl rfl rfl rfl rfl (one_bool _) hb1 (by simp;omega) fun h2 hb2 hx2 hs2=>?_
 have hb2':Blk h2 h.size (bools ((List.replicate al.length false).set i true)) 4:=by
  rw [Nat.zero_add,Nat.mul_one] at hb2
  have:bools ((List.replicate al.length false).set i true)=(List.replicate al.length (.bool false)).set i (.bool true):=by simp [bools,List.map_set]
  rw [this];exact hb2
 have hx02:Ext h h2:=hx1.trans_new (hx2.mono fun k _ e=>.inr (by omega))
 clear hb1 hb2
 refine zgo ?_
 refine Runs.loop (X:=MX) (fun x=>[(0,.pointer (some ⟨mb,0,none⟩)),(1,.int .i64 (i:Int)),(6,.slice (some ⟨h.size,0,none⟩) al.length al.length),(7,.bool x.more)])
  (fun x h'=>x.l.length=al.length∧Ext h h'∧Blk h' h.size (bools x.l) 4∧x.l[i]? = some true∧(∀ k,x.l[k]? = some true→Conn al.length ld bl i k)∧(x.more=false→∀ a<al.length,clo al.length ld bl x.l a))
  (fun x=>2*falses x.l+if x.more then 1 else 0) ⟨_,true⟩ ⟨rfl,rfl,rfl,rfl,trivial⟩ ⟨by simp,hx02,hb2',by simp [hi],fun k hk=>?_,fun e=>by simp at e⟩ ?_
 ·by_cases e:i=k
  ·subst e;exact .refl
  ·rw [List.getElem?_set_ne e] at hk
   simp [List.getElem?_replicate] at hk
 rintro ⟨l0,more⟩ h3 ⟨hll,hx3,hb3,hli,hcn,hcl⟩ ih
 dsimp only at hll hx3 hb3 hli hcn hcl ih ⊢
 cases more
 ·
  have hcl':=hcl rfl
  refine zgo ?_
  refine Runs.loop (X:=Nat) (fun k=>[(1,.int .i64 (i:Int)),(6,.slice (some ⟨h.size,0,none⟩) al.length al.length),(96,.int .i64 (al.length:Int)),(97,.int .i64 (k:Int))])
   (fun k h'=>h3=h'∧k≤al.length∧∀ j<k,l0[j]? = some false) (fun k=>al.length-k) 0 ⟨rfl,rfl,rfl,rfl,trivial⟩ ⟨rfl,Nat.zero_le _,fun j hj=>absurd hj (Nat.not_lt_zero _)⟩ ?_
  rintro k _ ⟨rfl,hk,hno⟩ ih2
  refine zgo ?_
  refine Runs.cond_dec rfl (fun hlt=>?_) (fun hge=>?_)
  ·have hlt':k<al.length:=by omega
   have hgk:l0[k]? = some l0[k]:=List.getElem?_eq_getElem (by omega)
   generalize l0[k]=xk at *
   have c1:cellAt h3 h.size (0+k*1)=some (.bool xk):=by rw [Nat.zero_add,Nat.mul_one];exact hb3.cell (bools_get hgk)
   refine zgo ?_
   refine Runs.cond rfl (fun q1=>?_) (fun q1=>?_)
   ·subst q1
    refine zgo ?_
    refine Runs.ret func133 (ret1 results133 rfl) ⟨hx3,k,rfl,hlt',⟨hcn k hgk,fun j hj=>?_⟩⟩
    have:=clo_all hcl' hll hli hj
    rcases Nat.lt_or_ge j k with e | e
    ·rw [hno j e] at this;cases this
    ·exact e
   ·subst q1
    refine zgo ?_
    refine ih2 (k+1) _ _ (by omega) ⟨rfl,rfl,rfl,rfl,trivial⟩ ⟨rfl,hlt',fun j hj=>?_⟩
    rcases Nat.lt_succ_iff_lt_or_eq.1 hj with e | e
    ·exact hno j e
    ·subst e;exact hgk
  ·have:=hno i (by omega)
   rw [hli] at this;cases this
 ·have g1:=hx3.xc f1
  refine zgo ?_
  refine Runs.loop (X:=MAX) (fun x=>[(0,.pointer (some ⟨mb,0,none⟩)),(1,.int .i64 (i:Int)),(6,.slice (some ⟨h.size,0,none⟩) al.length al.length),(7,.bool x.more),(26,.int .i64 (al.length:Int)),(27,.int .i64 (x.a:Int))])
   (fun x h'=>x.a≤al.length∧x.l.length=al.length∧Ext h h'∧Blk h' h.size (bools x.l) 4∧x.l[i]? = some true∧(∀ k,x.l[k]? = some true→Conn al.length ld bl i k)∧(x.more=true→falses x.l<falses l0)∧(x.more=false→x.l=l0∧∀ a<x.a,clo al.length ld bl l0 a))
   (fun x=>al.length-x.a) ⟨0,l0,false⟩ ⟨rfl,rfl,rfl,rfl,rfl,rfl,trivial⟩ ⟨Nat.zero_le _,hll,hx3,hb3,hli,hcn,fun e=>by simp at e,fun _=>⟨rfl,fun a ha=>absurd ha (Nat.not_lt_zero _)⟩⟩ ?_
  rintro ⟨a,l,more⟩ h4 ⟨ha,hll4,hx4,hb4,hli4,hcn4,hm4,hn4⟩ ih4
  dsimp only at ha hll4 hx4 hb4 hli4 hcn4 hm4 hn4 ih4 ⊢
  refine zgo ?_
  refine Runs.cond_dec rfl (fun hlt=>?_) (fun hge=>?_)
  ·have hlt':a<al.length:=by omega
   have g1:=hx4.xc f1
   refine zgo ?_
   refine Runs.loop (X:=MAX) (fun x=>[(0,.pointer (some ⟨mb,0,none⟩)),(1,.int .i64 (i:Int)),(6,.slice (some ⟨h.size,0,none⟩) al.length al.length),(7,.bool x.more),(26,.int .i64 (al.length:Int)),(27,.int .i64 (a:Int)),(8,.int .i64 (a:Int)),(34,.int .i64 (al.length:Int)),(35,.int .i64 (x.a:Int))])
    (fun x h'=>x.a≤al.length∧x.l.length=al.length∧Ext h h'∧Blk h' h.size (bools x.l) 4∧x.l[i]? = some true∧(∀ k,x.l[k]? = some true→Conn al.length ld bl i k)∧(x.more=true→falses x.l<falses l0)∧(x.more=false→x.l=l0∧(∀ a'<a,clo al.length ld bl l0 a')∧∀ b<x.a,l0[a]? = some true→bndS ld bl a b=true→l0[b]? = some true))
    (fun x=>al.length-x.a) ⟨0,l,more⟩ ⟨rfl,rfl,rfl,rfl,rfl,rfl,rfl,rfl,rfl,trivial⟩ ⟨Nat.zero_le _,hll4,hx4,hb4,hli4,hcn4,hm4,fun e=>⟨(hn4 e).1,(hn4 e).2,fun b hb=>absurd hb (Nat.not_lt_zero _)⟩⟩ ?_
   clear hb4 hli4 hcn4 hm4 hn4 hx4 g1
   rintro ⟨b,l,more⟩ h5 ⟨hb,hll5,hx5,hb5,hli5,hcn5,hm5,hn5⟩ ih5
   dsimp only at hb hll5 hx5 hb5 hli5 hcn5 hm5 hn5 ih5 ⊢
   refine zgo ?_
   refine Runs.cond_dec rfl (fun hltb=>?_) (fun hgeb=>?_)
   ·have hltb':b<al.length:=by omega
    have hga:l[a]? = some l[a]:=List.getElem?_eq_getElem (by omega)
    have hgb:l[b]? = some l[b]:=List.getElem?_eq_getElem (by omega)
    generalize l[a]=xa at *
    generalize l[b]=xb at *
    have c1:cellAt h5 h.size (0+a*1)=some (.bool xa):=by rw [Nat.zero_add,Nat.mul_one];exact hb5.cell (bools_get hga)
    have c2:cellAt h5 h.size (0+b*1)=some (.bool xb):=by rw [Nat.zero_add,Nat.mul_one];exact hb5.cell (bools_get hgb)
    have g2:=hx5.xc f2
    have g4:=hx5.xc f4
    obtain ⟨b1,p1,cap1,hv1,_,c3⟩:=(hbr.ext hx5).cell (intsI_get (hbl a hlt'))
    obtain ⟨b2,p2,cap2,hv2,_,c4⟩:=(hbr.ext hx5).cell (intsI_get (hbl b hltb'))
    rw [hv1] at hv2
    cases hv2
    rw [hv1] at g4
    obtain ⟨b3,p3,cap3,hv3,rb1,rp1,rc1,d1,d2⟩:=(hmat.ext hx5).get sq hlt' hltb'
    obtain ⟨b4,p4,cap4,hv4,rb2,rp2,rc2,d3,d4⟩:=(hmat.ext hx5).get sq hltb' hlt'
    rw [hv3] at hv4
    cases hv4
    rw [hv3] at g2
    have hbll:bl.length=al.length:=hg.bll
    have hbd:bndS ld bl a b=(decide (bl.getD a 0=bl.getD b 0)&&(getB ld a b||getB ld b a)):=rfl
    have skip:(xa=false∨xb=true∨bndS ld bl a b=false)→more=false→l=l0∧(∀ a'<a,clo al.length ld bl l0 a')∧∀ b'<b+1,l0[a]? = some true→bndS ld bl a b'=true→l0[b']? = some true:=fun hsk em=>by
     obtain ⟨e1,e2,e3⟩:=hn5 em
     refine ⟨e1,e2,fun b' hb' ha' hbd'=>?_⟩
     rcases Nat.lt_succ_iff_lt_or_eq.1 hb' with e | e
     ·exact e3 b' e ha' hbd'
     ·subst e
      rw [e1] at hga hgb
      rcases hsk with e | e | e
      ·subst e;rw [hga] at ha';cases ha'
      ·subst e;exact hgb
      ·rw [e] at hbd';cases hbd'
    generalize getB ld a b=v1 at *
    generalize getB ld b a=v2 at *
    refine zgo ?_
    cases xa
    ·refine Runs.still mixed (by kernel_rfl) ?_
     refine zws ?_
     refine zgo ?_
     exact ih5 ⟨b+1,l,more⟩ _ _ (by dsimp only;omega) ⟨rfl,rfl,rfl,rfl,rfl,rfl,rfl,rfl,rfl,trivial⟩ ⟨hltb',hll5,hx5,hb5,hli5,hcn5,hm5,skip (.inl rfl)⟩
    cases xb
    rotate_left
    ·refine Runs.still mixed (by kernel_rfl) ?_
     refine zws ?_
     refine zgo ?_
     exact ih5 ⟨b+1,l,more⟩ _ _ (by dsimp only;omega) ⟨rfl,rfl,rfl,rfl,rfl,rfl,rfl,rfl,rfl,trivial⟩ ⟨hltb',hll5,hx5,hb5,hli5,hcn5,hm5,skip (.inr (.inl rfl))⟩
    by_cases heq:bl.getD a 0=bl.getD b 0
    rotate_left
    ·have hd:decide (bl.getD a 0=bl.getD b 0)=false:=by simpa using heq
     refine Runs.still mixed (by kernel_rfl) ?_
     refine zws ?_
     rw [hd]
     refine zws ?_
     refine zgo ?_
     exact ih5 ⟨b+1,l,more⟩ _ _ (by dsimp only;omega) ⟨rfl,rfl,rfl,rfl,rfl,rfl,rfl,rfl,rfl,trivial⟩ ⟨hltb',hll5,hx5,hb5,hli5,hcn5,hm5,skip (.inr (.inr (by rw [hbd,hd];rfl)))⟩
    have hd:decide (bl.getD a 0=bl.getD b 0)=true:=by simpa using heq
    have put:(v1||v2)=true→∀ h6,Blk h6 h.size ((bools l).set (0+b*1) (.bool true)) 4→Fr (fun k=>k=h.size) h5 h6 →
      b+1≤al.length∧(l.set b true).length=al.length∧Ext h h6∧Blk h6 h.size (bools (l.set b true)) 4∧(l.set b true)[i]? = some true∧(∀ k,(l.set b true)[k]? = some true→Conn al.length ld bl i k)∧(true=true→falses (l.set b true)<falses l0)∧(true=false→l.set b true=l0∧(∀ a'<a,clo al.length ld bl l0 a')∧∀ b'<b+1,l0[a]? = some true→bndS ld bl a b'=true→l0[b']? = some true):=fun hv h6 hb6 hx6=>by
     refine ⟨hltb',by simpa using hll5,hx5.trans_new (hx6.mono fun k _ e=>.inr (by omega)),?_,?_,fun k hk=>?_,fun _=>?_,fun e=>by cases e⟩
     ·rw [Nat.zero_add,Nat.mul_one] at hb6
      have:bools (l.set b true)=(bools l).set b (.bool true):=by simp [bools,List.map_set]
      rw [this];exact hb6
     ·rw [List.getElem?_set];split
      ·rename_i e;subst e;simp;omega
      ·exact hli5
     ·rw [List.getElem?_set] at hk
      split at hk
      ·rename_i e;subst e
       exact .step (hcn5 a hga) hltb' (by rw [hbd,hd,hv];rfl)
      ·exact hcn5 k hk
     ·have:=falses_set hgb
      cases more
      ·rw [(hn5 rfl).1] at this ⊢;exact this
      ·have:=hm5 rfl;omega
    cases v1
    ·cases v2
     ·refine Runs.still mixed (by kernel_rfl) ?_
      refine zws ?_
      rw [hd]
      refine zws ?_
      refine zgo ?_
      exact ih5 ⟨b+1,l,more⟩ _ _ (by dsimp only;omega) ⟨rfl,rfl,rfl,rfl,rfl,rfl,rfl,rfl,rfl,trivial⟩ ⟨hltb',hll5,hx5,hb5,hli5,hcn5,hm5,skip (.inr (.inr (by rw [hbd,hd];rfl)))⟩
     ·refine Runs.still mixed (by kernel_rfl) ?_
      refine zws ?_
      rw [hd]
      refine zws ?_
      refine zgo ?_
      refine WO.put1 tab_ok rfl rfl rfl rfl rfl rfl rfl (one_bool _) hb5 (by simp [bools];omega) fun h6 hb6 hx6 hs6=>?_
      refine zgo ?_
      exact ih5 ⟨b+1,l.set b true,true⟩ _ _ (by dsimp only;omega) ⟨rfl,rfl,rfl,rfl,rfl,rfl,rfl,rfl,rfl,trivial⟩ (put rfl h6 hb6 hx6)
    ·refine Runs.still mixed (by kernel_rfl) ?_
     refine zws ?_
     rw [hd]
     refine zws ?_
     refine zgo ?_
     refine WO.put1 tab_ok rfl rfl rfl rfl rfl rfl rfl (one_bool _) hb5 (by simp [bools];omega) fun h6 hb6 hx6 hs6=>?_
     refine zgo ?_
     exact ih5 ⟨b+1,l.set b true,true⟩ _ _ (by dsimp only;omega) ⟨rfl,rfl,rfl,rfl,rfl,rfl,rfl,rfl,rfl,trivial⟩ (put (by simp) h6 hb6 hx6)
   ·have hbe:b=al.length:=by omega
    subst hbe
    refine zgo ?_
    refine ih4 ⟨a+1,l,more⟩ _ _ (by dsimp only;omega) ⟨rfl,rfl,rfl,rfl,rfl,rfl,trivial⟩ ⟨hlt',hll5,hx5,hb5,hli5,hcn5,hm5,fun em=>?_⟩
    obtain ⟨e1,e2,e3⟩:=hn5 em
    refine ⟨e1,fun a' ha'=>?_⟩
    rcases Nat.lt_succ_iff_lt_or_eq.1 ha' with e | e
    ·exact e2 a' e
    ·subst e;exact fun b hb h1 h2=>e3 b hb h1 h2
  ·have hae:a=al.length:=by omega
   subst hae
   refine zgo ?_
   refine ih ⟨l,more⟩ _ _ ?_ ⟨rfl,rfl,rfl,rfl,trivial⟩ ⟨hll4,hx4,hb4,hli4,hcn4,fun em=>?_⟩
   ·dsimp only
    cases more
    ·rw [(hn4 rfl).1];simp
    ·have:=hm4 rfl
     simp;omega
   ·obtain ⟨e1,e2⟩:=hn4 em
    rw [e1];exact e2
end Go.Proofs.YtlaffgagmncgjaaGreatDoor
