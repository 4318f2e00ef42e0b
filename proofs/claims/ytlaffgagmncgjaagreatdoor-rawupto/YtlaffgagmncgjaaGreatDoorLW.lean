import Derived.Test.YtlaffgagmncgjaaGreatDoorL4
import Derived.Test.YtlaffgagmncgjaaGreatDoorM6
set_option maxRecDepth 20000
set_option maxHeartbeats 3200000
namespace Go.Proofs.YtlaffgagmncgjaaGreatDoor
open Tryz Go Go.Pat Go.Proofs
theorem plain_lmark:Plain Tryz.prog 62:=⟨_,func62,by decide +kernel,by rfl⟩
theorem plain_sameTexts:Plain Tryz.prog 41:=⟨_,func41,by decide +kernel,by rfl⟩
theorem plain_mine:Plain Tryz.prog 42:=⟨_,func42,by decide +kernel,by rfl⟩
theorem plain_mineInts:Plain Tryz.prog 46:=⟨_,func46,by decide +kernel,by rfl⟩
theorem plain_logged:Plain Tryz.prog 21:=⟨_,func21,by decide +kernel,by rfl⟩
theorem plain_shown:Plain Tryz.prog 20:=⟨_,func20,by decide +kernel,by rfl⟩
theorem plain_credited:Plain Tryz.prog 23:=⟨_,func23,by decide +kernel,by rfl⟩
theorem plain_looks:Plain Tryz.prog 28:=⟨_,func28,by decide +kernel,by rfl⟩
structure MKX where
 (f k:Nat) (t:List UInt8)
theorem lmark_ret (k:Nat) (hk:k≤100000000) (h:Heap):Ret Tryz.prog 62 #[.int .i64 (k:Int)] h fun v h'=>Ext h h'∧v = .string (str (markS k)):=by
 refine Ret.of_body func62 rfl ntmps62 rfl rfl ?_
 refine zgo ?_
 refine Runs.loop (X:=MKX) (fun x=>[(0,.int .i64 (x.k:Int)),(3,.string (str x.t))])
  (fun x h'=>Ext h h'∧x.k<x.f∧markGo x.f x.k x.t=markS k∧x.t.length+x.f≤k+5∧x.k≤k) (fun x=>x.f) ⟨k+1,k,[109,105,110,101]⟩ ⟨rfl,rfl,trivial⟩ ⟨Fr.refl _ _,Nat.lt_succ_self _,rfl,by simp;omega,Nat.le_refl _⟩ ?_
 rintro ⟨f,q,t⟩ h1 ⟨hx1,hlt,hgo,hl,hq⟩ ih
 dsimp only at hlt hgo hl hq ih ⊢
 cases f with
 | zero=>omega
 | succ f =>
 refine zgo ?_
 refine Runs.cond_dec rfl (fun hpos=>?_) (fun hz=>?_)
 rotate_left
 ·have e:q=0:=by omega
  subst e
  refine zgo ?_
  refine Runs.ret func62 (ret1 results62 rfl) ⟨hx1,?_⟩
  rw [← hgo]
  simp [markGo]
 have hne:q≠0:=by omega
 rw [markGo,if_neg hne] at hgo
 refine zgo ?_
 refine WO.val (ov_rem rfl rfl rfl (by omega) (by omega)) rfl rfl rfl ?_
 refine WO.val (ov_add rfl rfl rfl (in_i64 (by omega) (by omega))) rfl rfl rfl ?_
 refine WO.val (ov_conv tab_ok rfl rfl rfl rfl (in_u8 (by omega) (by omega))) rfl rfl rfl ?_
 refine WO.ex rfl rfl rfl (ox_build1 tab_ok rfl rfl rfl rfl rfl rfl rfl rfl ?_)
 have hdig:(UInt8.ofNat (97+q % 26)).toNat=97+q % 26:=by rw [UInt8.toNat_ofNat'];omega
 refine WO.val (ov_bstr (l:=[UInt8.ofNat (97+q % 26)]) tab_ok rfl rfl rfl rfl rfl ?_) rfl rfl rfl ?_
 ·have hc:=cells_push_new (h:=h1) [Value.int .u8 (97+(q:Int) % 26)] 5 (0,0)
  have e:(([UInt8.ofNat (97+q % 26)]:List UInt8).map fun (q:UInt8)=>Value.int .u8 (q.toNat:Int))=[Value.int .u8 (97+(q:Int) % 26)]:=by
   simp only [List.map_cons,List.map_nil,hdig]
   congr 2
  rw [e]
  exact hc
 generalize hh2:(h1.push (.cells ([Value.int .u8 (97+(q:Int) % 26)]:List Value).toArray 5 (0,0)))=h2
 have hx2:Ext h1 h2:=by rw [← hh2];exact Fr.push _ _ _
 clear hh2
 refine zgo ?_
 refine WO.val (ov_quo rfl rfl rfl (by omega) (by omega) (in_i64 (by omega) (by omega))) rfl rfl rfl ?_
 refine zgo ?_
 have e26:(q:Int) / 26=((q / 26:Nat):Int):=by omega
 rw [e26]
 exact ih ⟨f,q / 26,t++[UInt8.ofNat (97+q % 26)]⟩ _ _ (by dsimp only;omega) ⟨rfl,rfl,trivial⟩ ⟨hx1.trans hx2,by dsimp only;omega,hgo,by dsimp only;simp;omega,by dsimp only;omega⟩
theorem sameTexts_ret (l m:List (List UInt8)) (v u:Value) (h:Heap) (hv:Rd h 1 v l.length (strs l)) (hu:Rd h 1 u m.length (strs m)) (hl:l.length≤16777216) (hm:m.length≤16777216) :
  Ret Tryz.prog 41 #[v,u] h fun r h'=>h'=h∧r = .bool (decide (l=m)):=by
 obtain ⟨ad,cap,e⟩:=hv.form
 obtain ⟨ad2,cap2,e2⟩:=hu.form
 subst e e2
 refine Ret.of_body func41 rfl ntmps41 rfl rfl ?_
 refine zgo ?_
 refine Runs.cond_ndec rfl (fun q1=>?_) (fun q1=>?_)
 ·refine zgo ?_
  refine Runs.ret func41 (ret1 results41 rfl) ⟨rfl,?_⟩
  have:¬ l=m:=fun e=>q1 (by rw [e])
  simp [this]
 ·have hlm:l.length=m.length:=by omega
  refine zgo ?_
  refine Runs.loop (X:=Nat) (fun i=>[(0,.slice ad l.length cap),(1,.slice ad2 m.length cap2),(12,.int .i64 (l.length:Int)),(13,.int .i64 (i:Int))])
   (fun i h'=>h=h'∧i≤l.length∧l.take i=m.take i) (fun i=>l.length-i) 0 ⟨rfl,rfl,rfl,rfl,trivial⟩ ⟨rfl,Nat.zero_le _,rfl⟩ ?_
  rintro i _ ⟨rfl,hi,heq⟩ ih
  refine zgo ?_
  refine Runs.cond_dec rfl (fun hlt=>?_) (fun hge=>?_)
  ·have hlt':i<l.length:=by omega
   have hltm:i<m.length:=by omega
   have hget:l[i]? = some l[i]:=List.getElem?_eq_getElem hlt'
   have hgetm:m[i]? = some m[i]:=List.getElem?_eq_getElem hltm
   have hsn:=List.take_succ_eq_append_getElem hlt'
   have hsm:=List.take_succ_eq_append_getElem hltm
   generalize hx:l[i]=x at *
   generalize hy:m[i]=y at *
   obtain ⟨b0,p0,cap0,e0,_,hcell⟩:=hv.cell (strs_get hget)
   cases e0
   obtain ⟨b1,p1,cap1,e1,_,hcell1⟩:=hu.cell (strs_get hgetm)
   cases e1
   refine zgo ?_
   refine Runs.still mixed (by kernel_rfl) ?_
   refine zws ?_
   refine Runs.cond_ndec rfl (fun hne=>?_) (fun he=>?_)
   ·refine zgo ?_
    refine Runs.ret func41 (ret1 results41 rfl) ⟨rfl,?_⟩
    have:¬ l=m:=fun e=>by
     subst e
     rw [hget] at hgetm
     cases hgetm
     exact hne rfl
    simp [this]
   ·refine zgo ?_
    refine ih (i+1) _ _ (by omega) ⟨rfl,rfl,rfl,rfl,trivial⟩ ⟨rfl,hlt',?_⟩
    rw [hsn,hsm,heq,he]
  ·refine zgo ?_
   refine Runs.ret func41 (ret1 results41 rfl) ⟨rfl,?_⟩
   have:l=m:=by
    rw [List.take_of_length_le (by omega),List.take_of_length_le (by omega)] at heq
    exact heq
   simp [this]
section
variable {base wb c:Nat} {ρ:Nat→Nat} {w:WS1} {h:Heap}
theorem WI.exR {h':Heap} {ρ':Nat→Nat} (x:WI base h wb ρ c w) (f:Ext h h') (hρ:∀ k,k<h.size→ρ' k=ρ k):WI base h' wb ρ' c w:=by
 have k:=x.keep (ρ':=ρ') f (fun _=>False) (fun _ _ e=>e) (fun e=>e) hρ
 exact ⟨k.blk (fun e=>e),k.wr,x.wbase,k.s (fun e=>e),k.rs,k.t (fun e=>e),k.rt,k.f (fun e=>e),k.rf,k.i (fun e=>e),k.ri,fun i s hi=>k.p i s hi (fun e=>e) (fun e=>e),k.tab,k.r0,x.cs,x.ct,x.cf,x.ci,x.tl,k.g (fun e=>e) (fun e=>e) (fun e=>e),x.cl⟩
def rolM (ρ:Nat→Nat) (n g a b:Nat) (k:Nat):Nat:=if k=g then a else ext ρ n b k
theorem set_replicate (n i:Nat) (x:Value) (l:List Value) (hl:l.length=n) (hi:i<n) (hp:∀ j,j<i→l[j]? = some x):∀ j,j<i+1→(l.set i x)[j]? = some x:=fun j hj=>by
 rw [List.getElem?_set]
 by_cases e:i=j
 ·subst e;rw [if_pos rfl,if_pos (by omega)]
 ·rw [if_neg e];exact hp j (by omega)
def Mined (base wb c:Nat) (ρ:Nat→Nat) (w:WS1) (h:Heap) (vb:Option Nat) (h':Heap):Prop :=
 ∃ ρ' w',WI base h' wb ρ' (c+1) w'∧(∀ k,k<h.size→ρ k=9→vb≠some k→ρ' k=9)∧(∀ k,k<base→ρ' k=ρ k)∧w'.S=w.S
theorem mine_ret (x:WI base h wb ρ c w) (v:Value) (n:Nat) (xs:List Value) (ho:Own h 9 1 v n xs) (hr:∀ k,v.ownBlock=some k→ρ k=9∧base≤k) (hc:c≤4000000) :
  Ret Tryz.prog 42 #[.pointer (some ⟨wb,0,none⟩),v] h fun _ h'=>(Fr (fun k=>k=wb∨v.ownBlock=some k∨w.lv.ownBlock=some k) h h'∧cellAt h' wb 2=some w.fv)∧Mined base wb c ρ w h v.ownBlock h':=by
 have hml:=x.cl
 have hb:=x.blk
 rcases Own.blk ho with ⟨hv,_⟩ | ⟨g,cap,cs,hv,hbg,hcs,hn,hcap⟩
 ·subst hv
  refine Ret.of_body func42 rfl ntmps42 rfl rfl ?_
  refine zgo ?_
  exact Runs.ret func42 (ret0 results42) ⟨⟨Fr.refl _ _,x.blk.cell (j:=2) rfl⟩,ρ,w,x.more (by omega),fun k _ e _=>e,fun _ _=>rfl,rfl⟩
 ·subst hv
  obtain ⟨hg9,hgb⟩:=hr g rfl
  have hgl:=hbg.lt
  have hgw:g≠wb:=fun e=>by rw [e,x.wr] at hg9;omega
  have hgi:w.lv.ownBlock≠some g:=fun e=>by have:=(x.g.rl g e).1;omega
  have hlw:∀ k,w.lv.ownBlock=some k→k≠wb:=fun k hk e=>by have:=(x.g.rl k hk).1;rw [e,x.wr] at this;omega
  obtain ⟨adl,capl,hlv⟩:=x.g.l.rd.form
  have hcap':cap≤9223372036854775807:=hcap
  refine Ret.of_body func42 rfl ntmps42 rfl rfl ?_
  refine zgo ?_
  refine WO.val (ov_cap tab_ok rfl rfl rfl) rfl rfl rfl ?_
  refine WO.val (ov_slice_hi tab_ok rfl rfl rfl rfl rfl rfl (Nat.le_refl _)) rfl rfl rfl ?_
  refine zgo ?_
  refine Runs.loop (X:=Nat) (fun i=>[(0,.pointer (some ⟨wb,0,none⟩)),(1,.slice (some ⟨g,0,none⟩) cap cap),(13,.int .i64 (cap:Int)),(14,.int .i64 (i:Int))])
   (fun i h'=>i≤cap∧Fr (fun k=>k=g) h h'∧∃ c',c'.length=cap∧Blk h' g c' 9∧∀ j,j<i→c'[j]? = some (.string (str (markS w.ml)))) (fun i=>cap-i) 0 ⟨rfl,rfl,rfl,rfl,trivial⟩ ⟨Nat.zero_le _,Fr.refl _ _,cs,hcs,hbg,by omega⟩ ?_
  rintro i h1 ⟨hi1,hf1,c',hc',hbg1,hall⟩ ih
  have hb1:=hb.fr hf1 (fun e=>hgw e.symm)
  have w3:=hb1.cell (j:=3) rfl
  rw [hlv] at w3
  refine zgo ?_
  refine Runs.cond_dec rfl (fun hlt=>?_) (fun hge=>?_)
  ·have hlt':i<cap:=by omega
   refine zgo ?_
   refine WO.call rfl rfl rfl rfl plain_lmark rfl (lmark_ret w.ml (by omega) _) fun v2 h2 ⟨hx2,hv2⟩=>?_
   subst hv2
   refine zgo ?_
   refine WO.put1 tab_ok rfl rfl rfl rfl rfl rfl rfl (one_str _) (hbg1.ext hx2) (by omega) fun h3 hb3 hx3 hs3=>?_
   rw [Nat.zero_add,Nat.mul_one] at hb3
   refine zgo ?_
   exact ih (i+1) _ _ (by omega) ⟨rfl,rfl,rfl,rfl,trivial⟩ ⟨hlt',(hf1.ex hx2).trans hx3,_,by simpa using hc',hb3,set_replicate cap i _ c' hc' hlt' hall⟩
  ·have hrep:c'=List.replicate cap (.string (str (markS w.ml))):=by
    apply List.ext_getElem?
    intro j
    by_cases hj:j<cap
    ·rw [hall j (by omega)];simp [hj]
    ·rw [List.getElem?_eq_none (by omega)];simp [hj]
   subst hrep
   have hl2:=x.g.l.fr hf1 (fun k hk e=>hgi (e ▸ hk))
   rw [hlv] at hl2
   refine zgo ?_
   refine zh (one_slice _ _ _) hl2 ?_
   intro v3 h3 o1 o2 o3
   rw [← hlv] at o2 o3
   have hb3:=hb1.fr o2 (fun e=>hlw _ e rfl)
   obtain ⟨ad3,cap3,hv3⟩:=o1.rd.form
   subst hv3
   refine zgo ?_
   refine zt (one_slice _ _ _) hb3 fun h4 hb4 hx4 hs4=>?_
   refine zgo ?_
   have hz1:=hf1.size
   have hz3:=o2.size
   have hwl:=hb.lt
   have hbl:=x.bl
   have hfr:Fr (fun k=>k=wb∨Value.ownBlock (.slice (some ⟨g,0,none⟩) n cap)=some k∨w.lv.ownBlock=some k) h h4:=((hf1.mono fun k _ e=>.inr (.inl (by rw [e];rfl))).trans (o2.mono fun k _ e=>.inr (.inr e))).trans (hx4.mono fun k _ e=>.inl e)
   have hroles:∀ k,k<h.size→ρ k≠9→rolM ρ h.size g 6 8 k=ρ k:=fun k hk h9=>by unfold rolM;rw [if_neg (fun e=>h9 (by rw [e];exact hg9)),ext_lt hk]
   have kp:=x.keep9 (ρ':=rolM ρ h.size g 6 8) hfr (fun r=>r=1∨r=9∨r=8) (fun k _ e=>by
    rcases e with e | e | e
    ·rw [e];exact .inl x.wr
    ·exact .inr (.inl (hr k e).1)
    ·exact .inr (.inr (x.g.rl k e).1)) (by omega) hroles
   have hnw:∀ k,Value.ownBlock (.slice ad3 (w.ml+1) cap3)=some k→¬ k=wb:=fun k hk e=>by
    rcases o3 k hk with e' | e'
    ·exact hlw k e' e
    ·omega
   refine Runs.fall func42 (ret0 results42) ⟨⟨hfr,hb4.cell (j:=2) rfl⟩,rolM ρ h.size g 6 8,{ w with lv:=.slice ad3 (w.ml+1) cap3,ml:=w.ml+1,lvs:=w.lvs++[.slice (some ⟨g,0,none⟩) cap cap] },⟨hb4,kp.wr,x.wbase,kp.s (by omega),kp.rs,kp.t (by omega),kp.rt,kp.f (by omega),kp.rf,kp.i (by omega),kp.ri,fun i s hi=>kp.p i s hi (by omega) (by omega),kp.tab,kp.r0,by have:=x.cs;dsimp only;omega,by have:=x.ct;dsimp only;omega,by have:=x.cf;dsimp only;omega,by have:=x.ci;dsimp only;omega,x.tl,⟨o1.fr hx4 hnw,fun k hk=>?_,fun k u hk=>?_,fun k u hk=>?_⟩,by dsimp only;omega⟩,fun k hk h9 hne=>?_,fun k hk=>?_,rfl⟩
   ·have hkl:=o1.lt k hk
    rcases o3 k hk with e' | e'
    ·obtain ⟨r1,r2,r3⟩:=x.g.rl k e'
     exact ⟨by rw [hroles k r3 (by omega)];exact r1,r2,by omega⟩
    ·refine ⟨?_,by omega,by omega⟩
     unfold rolM
     rw [if_neg (by omega),ext_ge (by omega)]
   ·dsimp only at hk
    have hll:w.lvs.length=w.ml:=by have:=x.g.l.1;simpa using this
    rcases Nat.lt_or_ge k w.lvs.length with e | e
    ·rw [List.getElem?_append_left e] at hk
     exact (x.g.gl k u hk).keep hfr (fun q hq hs e9=>by
      rcases hs with hs | hs | hs
      ·rw [hs,x.wr] at e9;omega
      ·have:=(hr q hs).1;omega
      ·have:=(x.g.rl q hs).1;omega) (fun q hq e9=>by rw [hroles q hq (by omega)];exact e9)
    ·have hkl:k<w.lvs.length+1:=by have:=(List.getElem?_eq_some_iff.1 hk).1;simpa using this
     have hke:k=w.ml:=by omega
     rw [List.getElem?_append_right e,show k-w.lvs.length=0 by omega] at hk
     simp at hk
     subst hk
     refine ⟨g,cap,rfl,?_,by unfold rolM;rw [if_pos rfl],hgb,hcap'⟩
     rw [hke]
     exact (hbg1.fr o2 fun e'=>hgi e').fr hx4 hgw
   ·exact (x.g.gi k u hk).keep hfr (fun q hq hs e9=>by
     rcases hs with hs | hs | hs
     ·rw [hs,x.wr] at e9;omega
     ·have:=(hr q hs).1;omega
     ·have:=(x.g.rl q hs).1;omega) (fun q hq e9=>by rw [hroles q hq (by omega)];exact e9)
   ·unfold rolM
    rw [if_neg (fun e=>hne (by rw [e];rfl)),ext_lt hk];exact h9
   ·have:=x.bl
    unfold rolM
    rw [if_neg (by omega),ext_lt (by omega)]
theorem mineInts_ret (x:WI base h wb ρ c w) (v:Value) (n:Nat) (xs:List Value) (ho:Own h 3 1 v n xs) (hr:∀ k,v.ownBlock=some k→ρ k=9∧base≤k) (hc:c≤4000000) :
  Ret Tryz.prog 46 #[.pointer (some ⟨wb,0,none⟩),v] h fun _ h'=>Fr (fun k=>k=wb∨v.ownBlock=some k∨w.iv.ownBlock=some k) h h'∧Mined base wb c ρ w h v.ownBlock h':=by
 have hml:=x.ci
 have hb:=x.blk
 rcases Own.blk ho with ⟨hv,_⟩ | ⟨g,cap,cs,hv,hbg,hcs,hn,hcap⟩
 ·subst hv
  refine Ret.of_body func46 rfl ntmps46 rfl rfl ?_
  refine zgo ?_
  exact Runs.ret func46 (ret0 results46) ⟨Fr.refl _ _,ρ,w,x.more (by omega),fun k _ e _=>e,fun _ _=>rfl,rfl⟩
 ·subst hv
  obtain ⟨hg9,hgb⟩:=hr g rfl
  have hgl:=hbg.lt
  have hgw:g≠wb:=fun e=>by rw [e,x.wr] at hg9;omega
  have hgi:w.iv.ownBlock≠some g:=fun e=>by have:=(x.ri g e).1;omega
  have hlw:∀ k,w.iv.ownBlock=some k→k≠wb:=fun k hk e=>by have:=(x.ri k hk).1;rw [e,x.wr] at this;omega
  obtain ⟨adl,capl,hlv⟩:=x.i.rd.form
  have hcap':cap≤9223372036854775807:=hcap
  refine Ret.of_body func46 rfl ntmps46 rfl rfl ?_
  refine zgo ?_
  refine WO.val (ov_cap tab_ok rfl rfl rfl) rfl rfl rfl ?_
  refine WO.val (ov_slice_hi tab_ok rfl rfl rfl rfl rfl rfl (Nat.le_refl _)) rfl rfl rfl ?_
  refine zgo ?_
  refine Runs.loop (X:=Nat) (fun i=>[(0,.pointer (some ⟨wb,0,none⟩)),(1,.slice (some ⟨g,0,none⟩) cap cap),(13,.int .i64 (cap:Int)),(14,.int .i64 (i:Int))])
   (fun i h'=>i≤cap∧Fr (fun k=>k=g) h h'∧∃ c',c'.length=cap∧Blk h' g c' 3∧∀ j,j<i→c'[j]? = some (.int .i64 (-7-(w.m:Int)))) (fun i=>cap-i) 0 ⟨rfl,rfl,rfl,rfl,trivial⟩ ⟨Nat.zero_le _,Fr.refl _ _,cs,hcs,hbg,by omega⟩ ?_
  rintro i h1 ⟨hi1,hf1,c',hc',hbg1,hall⟩ ih
  have hb1:=hb.fr hf1 (fun e=>hgw e.symm)
  have w4:=hb1.cell (j:=4) rfl
  rw [hlv] at w4
  refine zgo ?_
  refine Runs.cond_dec rfl (fun hlt=>?_) (fun hge=>?_)
  ·have hlt':i<cap:=by omega
   refine zgo ?_
   refine WO.put1 tab_ok rfl rfl rfl rfl rfl rfl rfl (one_int _) hbg1 (by omega) fun h3 hb3 hx3 hs3=>?_
   rw [Nat.zero_add,Nat.mul_one] at hb3
   refine zgo ?_
   exact ih (i+1) _ _ (by omega) ⟨rfl,rfl,rfl,rfl,trivial⟩ ⟨hlt',hf1.trans hx3,_,by simpa using hc',hb3,set_replicate cap i _ c' hc' hlt' hall⟩
  ·have hrep:c'=List.replicate cap (.int .i64 (-7-(w.m:Int))):=by
    apply List.ext_getElem?
    intro j
    by_cases hj:j<cap
    ·rw [hall j (by omega)];simp [hj]
    ·rw [List.getElem?_eq_none (by omega)];simp [hj]
   subst hrep
   have hl2:=x.i.fr hf1 (fun k hk e=>hgi (e ▸ hk))
   rw [hlv] at hl2
   refine zgo ?_
   refine zh (one_slice _ _ _) hl2 ?_
   intro v3 h3 o1 o2 o3
   rw [← hlv] at o2 o3
   have hb3:=hb1.fr o2 (fun e=>hlw _ e rfl)
   obtain ⟨ad3,cap3,hv3⟩:=o1.rd.form
   subst hv3
   refine zgo ?_
   refine zt (one_slice _ _ _) hb3 fun h4 hb4 hx4 hs4=>?_
   refine zgo ?_
   have hz1:=hf1.size
   have hz3:=o2.size
   have hwl:=hb.lt
   have hbl:=x.bl
   have hfr:Fr (fun k=>k=wb∨Value.ownBlock (.slice (some ⟨g,0,none⟩) n cap)=some k∨w.iv.ownBlock=some k) h h4:=((hf1.mono fun k _ e=>.inr (.inl (by rw [e];rfl))).trans (o2.mono fun k _ e=>.inr (.inr e))).trans (hx4.mono fun k _ e=>.inl e)
   have hroles:∀ k,k<h.size→ρ k≠9→rolM ρ h.size g 7 5 k=ρ k:=fun k hk h9=>by unfold rolM;rw [if_neg (fun e=>h9 (by rw [e];exact hg9)),ext_lt hk]
   have kp:=x.keep9 (ρ':=rolM ρ h.size g 7 5) hfr (fun r=>r=1∨r=9∨r=5) (fun k _ e=>by
    rcases e with e | e | e
    ·rw [e];exact .inl x.wr
    ·exact .inr (.inl (hr k e).1)
    ·exact .inr (.inr (x.ri k e).1)) (by omega) hroles
   have hnw:∀ k,Value.ownBlock (.slice ad3 (w.m+1) cap3)=some k→¬ k=wb:=fun k hk e=>by
    rcases o3 k hk with e' | e'
    ·exact hlw k e' e
    ·omega
   have hgd:=kp.g (by omega) (by omega) (by omega)
   refine Runs.fall func46 (ret0 results46) ⟨hfr,rolM ρ h.size g 7 5,{ w with iv:=.slice ad3 (w.m+1) cap3,m:=w.m+1,ivs:=w.ivs++[.slice (some ⟨g,0,none⟩) cap cap] },⟨hb4,kp.wr,x.wbase,kp.s (by omega),kp.rs,kp.t (by omega),kp.rt,kp.f (by omega),kp.rf,o1.fr hx4 hnw,fun k hk=>?_,fun i s hi=>kp.p i s hi (by omega) (by omega),kp.tab,kp.r0,by have:=x.cs;dsimp only;omega,by have:=x.ct;dsimp only;omega,by have:=x.cf;dsimp only;omega,by dsimp only;omega,x.tl,⟨hgd.l,hgd.rl,hgd.gl,fun k u hk=>?_⟩,by have:=x.cl;dsimp only;omega⟩,fun k hk h9 hne=>?_,fun k hk=>?_,rfl⟩
   ·have hkl:=o1.lt k hk
    rcases o3 k hk with e' | e'
    ·obtain ⟨r1,r2,r3⟩:=x.ri k e'
     exact ⟨by rw [hroles k r3 (by omega)];exact r1,r2,by omega⟩
    ·refine ⟨?_,by omega,by omega⟩
     unfold rolM
     rw [if_neg (by omega),ext_ge (by omega)]
   ·dsimp only at hk
    have hll:w.ivs.length=w.m:=by have:=x.i.1;simpa using this
    rcases Nat.lt_or_ge k w.ivs.length with e | e
    ·rw [List.getElem?_append_left e] at hk
     exact hgd.gi k u hk
    ·have hkl:k<w.ivs.length+1:=by have:=(List.getElem?_eq_some_iff.1 hk).1;simpa using this
     have hke:k=w.m:=by omega
     rw [List.getElem?_append_right e,show k-w.ivs.length=0 by omega] at hk
     simp at hk
     subst hk
     refine ⟨g,cap,rfl,?_,by unfold rolM;rw [if_pos rfl],hgb,hcap'⟩
     rw [hke]
     exact (hbg1.fr o2 fun e'=>hgi e').fr hx4 hgw
   ·unfold rolM
    rw [if_neg (fun e=>hne (by rw [e];rfl)),ext_lt hk];exact h9
   ·have:=x.bl
    unfold rolM
    rw [if_neg (by omega),ext_lt (by omega)]
end
end Go.Proofs.YtlaffgagmncgjaaGreatDoor
namespace Go.Proofs.YtlaffgagmncgjaaGreatDoor
open Tryz Go Go.Pat Go.Proofs
def role9 (ρ:Nat→Nat) (n:Nat) (v u:Value) (k:Nat):Nat:=if k<n then ρ k else if v.ownBlock=some k∨u.ownBlock=some k then 9 else 0
theorem role9_lt {ρ:Nat→Nat} {n:Nat} {v u:Value} {k:Nat} (h:k<n):role9 ρ n v u k=ρ k:=if_pos h
theorem role9_l {ρ:Nat→Nat} {n:Nat} {v u:Value} {k:Nat} (h:n≤k) (e:v.ownBlock=some k):role9 ρ n v u k=9:=by unfold role9;rw [if_neg (by omega),if_pos (.inl e)]
theorem role9_r {ρ:Nat→Nat} {n:Nat} {v u:Value} {k:Nat} (h:n≤k) (e:u.ownBlock=some k):role9 ρ n v u k=9:=by unfold role9;rw [if_neg (by omega),if_pos (.inr e)]
def HandEnd (base wb c:Nat) (ρ:Nat→Nat) (w:WS1) (h:Heap) (v:Value) (h':Heap):Prop:=v = .bool true∧Fr (fun k=>base≤k) h h'∧∃ ρ' w',WI base h' wb ρ' (c+2) w'∧(∀ k,k<base→ρ' k=ρ k)∧w'.S=w.S
section
variable {base wb c:Nat} {ρ:Nat→Nat} {w:WS1} {h:Heap}
theorem logged_ret (x:WI base h wb ρ c w) (hc:c≤3900000) (pb po:Nat) (s:SP) {Fp:Nat→Prop} (hp:PairOK Fp h s) (c0:cellAt h pb (po+0)=some (.pointer (some ⟨s.xb,0,none⟩))) (c1:cellAt h pb (po+1)=some (.pointer (some ⟨s.mb,0,none⟩))) :
  Ret Tryz.prog 21 #[.pointer (some ⟨wb,0,none⟩),.pointer (some ⟨pb,po,none⟩)] h (HandEnd base wb c ρ w h):=by
 refine Ret.of_body func21 rfl ntmps21 rfl rfl ?_
 have hll:s.l.length≤1000:=by have:=hp.inv.len;simp [SP.ps] at this;omega
 have hbs:s.bs.length=s.ps.length:=by obtain ⟨_,_,_,e,_⟩:=hp.sa;exact e.1
 have hpl:=hp.inv.len
 have hil:(idsS s.ps).length≤20:=by simp [idsS];omega
 refine zgo ?_
 refine WO.call rfl rfl rfl rfl plain_xLog rfl (xLog_ret s.xb s.l s.lv _ hp.x hp.xs hll) fun v1 h1 ⟨hx1,ho1,hm1⟩=>?_
 have d1:=hx1.xc c1
 refine zgo ?_
 refine WO.call rfl rfl rfl rfl plain_mLog rfl (mLog_ret s.mb s.b s.bs s.ps _ (hp.m.ext hx1) (hp.sa.ext hx1) (by omega)) fun v2 h2 ⟨hx2,ho2,hm2⟩=>?_
 have ho1':=ho1.fr hx2 (by simp)
 refine zgo ?_
 refine WO.call rfl rfl rfl rfl plain42 rfl (sameInts_ret (idsS s.ps) (idsS s.ps) v1 v2 _ ho1'.rd ho2.rd (by omega) (by omega)) fun v3 h3 ⟨hh3,hv3⟩=>?_
 subst hh3 hv3
 have hx02:=hx1.trans hx2
 have hbl:=x.bl
 have hvn:∀ k,v1.ownBlock=some k→h.size≤k:=fun k hk=>by
  rcases hm1 k hk with e | e
  ·simp [Value.ownBlock] at e
  ·exact e
 have x3:=x.exR (ρ':=role9 ρ h.size v1 v1) hx02 fun k hk=>role9_lt hk
 refine zgo ?_
 refine WO.call rfl rfl rfl rfl plain_mineInts rfl (mineInts_ret x3 v1 _ _ ho1' (fun k hk=>⟨role9_l (hvn k hk) hk,by have:=hvn k hk;omega⟩) (by omega)) fun v4 h4 ⟨hf4,ρ4,w4,x4,_,hlo4,hS4⟩=>?_
 refine zgo ?_
 refine Runs.ret func21 (ret1 results21 rfl) ⟨by simp,hx02.up.trans (hf4.mono fun k _ e=>?_),ρ4,w4,x4.more (by omega),fun k hk=>by rw [hlo4 k hk,role9_lt (by omega)],hS4⟩
 rcases e with e | e | e
 ·subst e;exact x.wbase
 ·have:=hvn k e;omega
 ·exact (x.ri k e).2.1
theorem shown_ret (x:WI base h wb ρ c w) (hc:c≤3900000) (pb po:Nat) (s:SP) {Fp:Nat→Prop} (hp:PairOK Fp h s) (hFp:∀ k,Fp k→k<h.size) (c0:cellAt h pb (po+0)=some (.pointer (some ⟨s.xb,0,none⟩))) (c1:cellAt h pb (po+1)=some (.pointer (some ⟨s.mb,0,none⟩))) :
  Ret Tryz.prog 20 #[.pointer (some ⟨wb,0,none⟩),.pointer (some ⟨pb,po,none⟩)] h (HandEnd base wb c ρ w h):=by
 refine Ret.of_body func20 rfl ntmps20 rfl rfl ?_
 have hbl:=x.bl
 have hF:∀ (h':Heap),Ext h h'→∀ k,Fp k→k<h'.size:=fun h' hx k hk=>by have:=hFp k hk;have:=hx.size;omega
 obtain ⟨st,hst⟩:=strand_ex (alS s.ps).length (leadS s.ps) (blkS s.ps)
 obtain ⟨orp,hor⟩:=orphan_ex s.ps (alS s.ps)
 have hgood:=hp.inv.good
 have hclo:=hp.inv.closed
 have h90:=hp.inv.lines
 refine zgo ?_
 refine WO.call rfl rfl rfl rfl plain_xShow rfl (xShow_ret s.xb s.l s.lv _ hp.x hp.xs (hF h (Fr.refl _ _)) hp.inv) fun v1 h1 ⟨hx1,sd1,or1,hn1,ho1,hm1⟩=>?_
 have hx01:=hx1
 have d1:=hx01.xc c1
 refine zgo ?_
 refine WO.call rfl rfl rfl rfl plain_mShow rfl (mShow_ret s.mb s.b s.bs s.ps st orp _ (hp.m.ext hx01) (hp.sa.ext hx01) hgood hclo hst hor) fun v2 h2 ⟨hx2,ho2,hm2⟩=>?_
 have hx02:=hx01.trans hx2
 have d2:=hx02.xc c0
 refine zgo ?_
 refine WO.call rfl rfl rfl rfl plain_xClean rfl (xClean_ret s.xb s.l s.lv _ (hp.x.ext hx02) (hp.xs.ext hx02) (hF h2 hx02) hp.inv) fun v3 h3 ⟨hx3,sd3,or3,hn3,hv3⟩=>?_
 subst hv3
 have hx03:=hx02.trans hx3
 have d3:=hx03.xc c1
 refine zgo ?_
 refine WO.call rfl rfl rfl rfl plain_mClean rfl (mClean_ret (hp.m.ext hx03) (hp.sa.ext hx03) hgood hclo hst hor) fun v4 h4 ⟨hx4,hv4⟩=>?_
 subst hv4
 have hx04:=hx03.trans hx4
 have d4:=hx04.xc c0
 refine zgo ?_
 refine WO.call rfl rfl rfl rfl plain_xFile rfl (xFile_ret s.xb s.l s.lv _ (hp.x.ext hx04) (hp.xs.ext hx04) (hF h4 hx04) hp.inv) fun v5 h5 ⟨hx5,sd5,or5,hn5,hP5⟩=>?_
 have hx05:=hx04.trans hx5
 have d5:=hx05.xc c1
 have hc3:cleanS (shL s.ps st orp)=blankX s.ps or3 (ordX s.ps sd3):=clean_same hst hor hn3
 have hc5:cleanS (shL s.ps st orp)=blankX s.ps or5 (ordX s.ps sd5):=clean_same hst hor hn5
 have hs1:showFull s.ps st orp=showW (itemsX s.ps sd1 or1):=show_same hst hor hn1
 have hlen1:(showFull s.ps st orp).length≤270:=by
  have g1:=showTo_len (alS s.ps) ((opOf s.ps st orp).to (alS s.ps).length) (alS s.ps).length
  have g2:=alS_len s.ps
  unfold showFull;omega
 have e3:(blankX (s.l.map PD3.p) or3 (ordX (s.l.map PD3.p) sd3))=cleanS (shL s.ps st orp):=hc3.symm
 rw [e3]
 have files:∃ (f5:Value) (e5:Int) (ls:List (List UInt8)),v5 = .tuple #[f5,.int .i64 e5]∧Own h5 9 1 f5 ls.length (strs ls)∧ls.length≤1000∧(∀ k,f5.ownBlock=some k→h4.size≤k)∧∀ v6 h6,FileM (shL s.ps st orp) (alS s.ps) v6 h6→∃ f6,v6 = .tuple #[f6,.int .i64 e5]∧Own h6 9 1 f6 ls.length (strs ls):=by
  rcases hP5 with ⟨hb,hv⟩ | ⟨hb,f5,hv,hof,hmf⟩
  ·refine ⟨.slice none 0 0,10,[],hv,Own.nil _ _ _,by simp,fun k hk=>by simp [Value.ownBlock] at hk,fun v6 h6 hM=>?_⟩
   rcases hM with ⟨_,hv6⟩ | ⟨hb6,_⟩
   ·exact ⟨_,hv6,Own.nil _ _ _⟩
   ·rw [hc5] at hb6
    have:blankX s.ps or5 (ordX s.ps sd5)=false:=hb
    rw [this] at hb6;cases hb6
  ·have hfs:(shL s.ps st orp).map (textAt (alS s.ps))=fileX s.ps (ordX s.ps sd5):=file_same hst hn5
   refine ⟨f5,0,fileX s.ps (ordX s.ps sd5),hv,hof,?_,hmf,fun v6 h6 hM=>?_⟩
   ·have:=ordX_length s.ps sd5
    have h9:nX s.ps≤90:=h90
    simp [fileX];omega
   ·rcases hM with ⟨hb6,_⟩ | ⟨_,f6,hv6,ho6⟩
    ·rw [hc5] at hb6
     have:blankX s.ps or5 (ordX s.ps sd5)=true:=hb
     rw [this] at hb6;cases hb6
    ·exact ⟨f6,hv6,by rw [← hfs];exact ho6⟩
 obtain ⟨f5,ec,ls,hv5,hof5,hls,hmf5,hmate⟩:=files
 subst hv5
 refine zgo ?_
 refine WO.call rfl rfl rfl rfl plain_mFile rfl (mFile_ret (hp.m.ext hx05) (hp.sa.ext hx05) hgood hclo hst hor) fun v6 h6 ⟨hx6,hM6⟩=>?_
 obtain ⟨f6,hv6,hof6⟩:=hmate v6 h6 hM6
 subst hv6
 have hx06:=hx05.trans hx6
 have ho1':Own h6 9 1 v1 (showFull s.ps st orp).length (strs (showFull s.ps st orp)):=by
  rw [hs1];exact ho1.fr (hx2.trans (hx3.trans (hx4.trans (hx5.trans hx6)))) (by simp)
 have ho2':=ho2.fr (hx3.trans (hx4.trans (hx5.trans hx6))) (by simp)
 have hof5':=hof5.fr hx6 (by simp)
 refine zgo ?_
 refine WO.call rfl rfl rfl rfl plain_sameTexts rfl (sameTexts_ret (showFull s.ps st orp) (showFull s.ps st orp) v1 v2 _ ho1'.rd ho2'.rd (by omega) (by omega)) fun v7 h7 ⟨hh7,hv7⟩=>?_
 subst hh7 hv7
 rw [decide_eq_true rfl]
 refine zgo ?_
 refine WO.val (ov_beql tab_ok rfl rfl rfl rfl) rfl rfl rfl ?_
 have hbb:(cleanS (shL s.ps st orp) == cleanS (shL s.ps st orp))=true:=by simp
 rw [hbb]
 have hee:decide (ec=ec)=true:=decide_eq_true rfl
 refine zgo ?_
 rw [hee]
 refine zgo ?_
 refine WO.call rfl rfl rfl rfl plain_sameTexts rfl (sameTexts_ret ls ls f5 f6 _ hof5'.rd hof6.rd (by omega) (by omega)) fun v8 h8 ⟨hh8,hv8⟩=>?_
 subst hh8 hv8
 rw [decide_eq_true rfl]
 have hz1:=hx1.size
 have hz2:=hx2.size
 have hz3:=hx3.size
 have hz4:=hx4.size
 have hl1:∀ k,v1.ownBlock=some k→k<h1.size:=ho1.lt
 have x8:=x.exR (ρ':=role9 ρ h.size v1 f5) hx06 fun k hk=>role9_lt hk
 refine zgo ?_
 refine WO.call rfl rfl rfl rfl plain_mine rfl (mine_ret x8 v1 _ _ ho1' (fun k hk=>⟨role9_l (hm1 k hk) hk,by have:=hm1 k hk;omega⟩) (by omega)) fun v9 h9 ⟨⟨hf9,_⟩,ρ9,w9,x9,hr9,hlo9,hS9⟩=>?_
 have h5b:∀ k,f5.ownBlock=some k→v1.ownBlock≠some k:=fun k hk e=>by have:=hmf5 k hk;have:=hl1 k e;omega
 have hof9:Own h9 9 1 f5 ls.length (strs ls):=hof5'.fr hf9 fun k hk e=>by
  have hk4:=hmf5 k hk
  rcases e with e | e | e
  ·have:=x.blk.lt;omega
  ·exact h5b k hk e
  ·have:=x.g.l.lt k e;omega
 refine zgo ?_
 refine WO.call rfl rfl rfl rfl plain_mine rfl (mine_ret x9 f5 _ _ hof9 (fun k hk=>⟨hr9 k (hof5'.lt k hk) (role9_r (by have:=hmf5 k hk;omega) hk) (h5b k hk),by have:=hmf5 k hk;omega⟩) (by omega)) fun v10 h10 ⟨⟨hf10,_⟩,ρ10,w10,x10,_,hlo10,hS10⟩=>?_
 refine zgo ?_
 refine Runs.ret func20 (ret1 results20 rfl) ⟨rfl,(hx06.up.trans (hf9.mono fun k _ e=>?_)).trans (hf10.mono fun k _ e=>?_),ρ10,w10,x10.more (by omega),fun k hk=>by rw [hlo10 k hk,hlo9 k hk,role9_lt (by omega)],by rw [hS10,hS9]⟩
 ·rcases e with e | e | e
  ·subst e;exact x.wbase
  ·have:=hm1 k e;omega
  ·exact (x.g.rl k e).2.1
 ·rcases e with e | e | e
  ·subst e;exact x.wbase
  ·have:=hmf5 k e;omega
  ·exact (x9.g.rl k e).2.1
theorem credited_ret (x:WI base h wb ρ c w) (hc:c≤3900000) (pb po:Nat) (s:SP) (q:Int) {Fp:Nat→Prop} (hp:PairOK Fp h s) (hFp:∀ k,Fp k→k<h.size) (c0:cellAt h pb (po+0)=some (.pointer (some ⟨s.xb,0,none⟩))) (c1:cellAt h pb (po+1)=some (.pointer (some ⟨s.mb,0,none⟩))) :
  Ret Tryz.prog 23 #[.pointer (some ⟨wb,0,none⟩),.pointer (some ⟨pb,po,none⟩),.int .i64 q] h (HandEnd base wb c ρ w h):=by
 refine Ret.of_body func23 rfl ntmps23 rfl rfl ?_
 have hbl:=x.bl
 have hF:∀ (h':Heap),Ext h h'→∀ k,Fp k→k<h'.size:=fun h' hx k hk=>by have:=hFp k hk;have:=hx.size;omega
 obtain ⟨st,hst⟩:=strand_ex (alS s.ps).length (leadS s.ps) (blkS s.ps)
 obtain ⟨orp,hor⟩:=orphan_ex s.ps (alS s.ps)
 have hgood:=hp.inv.good
 have hclo:=hp.inv.closed
 have h90:=hp.inv.lines
 have h20:=hp.inv.len
 refine zgo ?_
 refine WO.call rfl rfl rfl rfl plain_xCredit rfl (xCredit_ret s.xb s.l s.lv _ hp.x hp.xs (hF h (Fr.refl _ _)) hp.inv) fun v1 h1 ⟨hx1,sd1,or1,hn1,ho1,hm1⟩=>?_
 have d1:=hx1.xc c1
 refine zgo ?_
 refine WO.call rfl rfl rfl rfl plain_mCredit rfl (mCredit_ret (hp.m.ext hx1) (hp.sa.ext hx1) hgood hclo hst hor) fun v2 h2 ⟨hx2,ho2⟩=>?_
 have hx02:=hx1.trans hx2
 have d2:=hx02.xc c0
 refine zgo ?_
 refine WO.call rfl rfl rfl rfl plain_xPast rfl (xPast_ret s.xb s.l s.lv q _ (hp.x.ext hx02) (hp.xs.ext hx02) hp.inv) fun v3 h3 ⟨hx3,hP3⟩=>?_
 have hx03:=hx02.trans hx3
 have d3:=hx03.xc c1
 have hcs:(shL s.ps st orp).map (nameAt (alS s.ps))=credX s.ps (ordX s.ps sd1):=cred_same hst hn1
 have hcl:(credX s.ps (ordX s.ps sd1)).length≤1000:=by
  have:=ordX_length s.ps sd1
  have h9:nX s.ps≤90:=h90
  simp [credX];omega
 rw [hcs] at ho2
 have pasts:∃ (f3:Value) (e3:Int) (ls:List Nat),v3 = .tuple #[f3,.int .i64 e3]∧Own h3 3 1 f3 ls.length (ints ls)∧ls.length≤1000∧(∀ k,f3.ownBlock=some k→h2.size≤k)∧∀ v4 h4,PastM s.ps q v4 h4→∃ f4,v4 = .tuple #[f4,.int .i64 e3]∧Own h4 3 1 f4 ls.length (ints ls):=by
  rcases hP3 with ⟨hno,hv⟩ | ⟨p,hpm,hpq,f3,f,hv,hf,hof,hmf⟩
  ·refine ⟨.slice none 0 0,8,[],hv,Own.nil _ _ _,by simp,fun k hk=>by simp [Value.ownBlock] at hk,fun v4 h4 hM=>?_⟩
   rcases hM with ⟨_,hv4⟩ | ⟨p,hpm,hpq,_⟩
   ·exact ⟨_,hv4,Own.nil _ _ _⟩
   ·exact absurd hpq (hno p hpm)
  ·refine ⟨f3,0,(idsS s.ps).filter f,hv,hof,?_,hmf,fun v4 h4 hM=>?_⟩
   ·refine Nat.le_trans (List.length_filter_le _ _) ?_
    simp [idsS];omega
   ·rcases hM with ⟨hno,_⟩ | ⟨p',hpm',hpq',f4,g,hv4,hg,hog⟩
    ·exact absurd hpq (hno p hpm)
    ·have:p'=p:=ids_inj hp.inv.nodup hpm' hpm (by omega)
     subst this
     have hsame:(idsS s.ps).filter f=(idsS s.ps).filter g:=past_same hp.inv.nodup hp.inv.acyc hpm hf hg
     exact ⟨f4,hv4,by rw [hsame];exact hog⟩
 obtain ⟨f3,ec,ls,hv3,hof3,hls,hmf3,hmate⟩:=pasts
 subst hv3
 refine zgo ?_
 refine WO.call rfl rfl rfl rfl plain_mPast rfl (mPast_ret q (hp.m.ext hx03) (hp.sa.ext hx03) hgood hclo) fun v4 h4 ⟨hx4,hM4⟩=>?_
 obtain ⟨f4,hv4,hof4⟩:=hmate v4 h4 hM4
 subst hv4
 have hx04:=hx03.trans hx4
 have ho1':Own h4 3 1 v1 (credX s.ps (ordX s.ps sd1)).length (ints (credX s.ps (ordX s.ps sd1))):=ho1.fr (hx2.trans (hx3.trans hx4)) (by simp)
 have ho2':=ho2.fr (hx3.trans hx4) (by simp)
 have hof3':=hof3.fr hx4 (by simp)
 refine zgo ?_
 refine WO.call rfl rfl rfl rfl plain42 rfl (sameInts_ret _ _ v1 v2 _ ho1'.rd ho2'.rd (by omega) (by omega)) fun v7 h7 ⟨hh7,hv7⟩=>?_
 subst hh7 hv7
 rw [decide_eq_true rfl]
 refine zgo ?_
 refine WO.call rfl rfl rfl rfl plain42 rfl (sameInts_ret ls ls f3 f4 _ hof3'.rd hof4.rd (by omega) (by omega)) fun v8 h8 ⟨hh8,hv8⟩=>?_
 subst hh8 hv8
 rw [decide_eq_true rfl]
 have hee:decide (ec=ec)=true:=decide_eq_true rfl
 refine zgo ?_
 rw [hee]
 have hz1:=hx1.size
 have hz2:=hx2.size
 have hl1:∀ k,v1.ownBlock=some k→k<h1.size:=ho1.lt
 have x8:=x.exR (ρ':=role9 ρ h.size v1 f3) hx04 fun k hk=>role9_lt hk
 refine zgo ?_
 refine WO.call rfl rfl rfl rfl plain_mineInts rfl (mineInts_ret x8 v1 _ _ ho1' (fun k hk=>⟨role9_l (hm1 k hk) hk,by have:=hm1 k hk;omega⟩) (by omega)) fun v9 h9 ⟨hf9,ρ9,w9,x9,hr9,hlo9,hS9⟩=>?_
 have h5b:∀ k,f3.ownBlock=some k→v1.ownBlock≠some k:=fun k hk e=>by have:=hmf3 k hk;have:=hl1 k e;omega
 have hof9:Own h9 3 1 f3 ls.length (ints ls):=hof3'.fr hf9 fun k hk e=>by
  have hk4:=hmf3 k hk
  rcases e with e | e | e
  ·have:=x.blk.lt;omega
  ·exact h5b k hk e
  ·have:=x.i.lt k e;omega
 refine zgo ?_
 refine WO.call rfl rfl rfl rfl plain_mineInts rfl (mineInts_ret x9 f3 _ _ hof9 (fun k hk=>⟨hr9 k (hof3'.lt k hk) (role9_r (by have:=hmf3 k hk;omega) hk) (h5b k hk),by have:=hmf3 k hk;omega⟩) (by omega)) fun v10 h10 ⟨hf10,ρ10,w10,x10,_,hlo10,hS10⟩=>?_
 refine zgo ?_
 refine Runs.ret func23 (ret1 results23 rfl) ⟨rfl,(hx04.up.trans (hf9.mono fun k _ e=>?_)).trans (hf10.mono fun k _ e=>?_),ρ10,w10,x10.more (by omega),fun k hk=>by rw [hlo10 k hk,hlo9 k hk,role9_lt (by omega)],by rw [hS10,hS9]⟩
 ·rcases e with e | e | e
  ·subst e;exact x.wbase
  ·have:=hm1 k e;omega
  ·exact (x.ri k e).2.1
 ·rcases e with e | e | e
  ·subst e;exact x.wbase
  ·have:=hmf3 k e;omega
  ·exact (x9.ri k e).2.1
theorem looks_ret (x:WI base h wb ρ c w) (hc:c≤4000000):Ret Tryz.prog 28 #[.pointer (some ⟨wb,0,none⟩)] h fun v h'=>Ext h h'∧v = .bool true:=by
 refine Ret.of_body func28 rfl ntmps28 rfl rfl ?_
 have w3:=x.blk.cell (j:=3) rfl
 obtain ⟨ad,cap,hlv⟩:=x.g.l.rd.form
 have hrl:=x.g.l.rd
 rw [hlv] at w3 hrl
 have hcl:=x.cl
 have hci:=x.ci
 have hll:w.lvs.length=w.ml:=by have:=x.g.l.1;simpa using this
 have hil:w.ivs.length=w.m:=by have:=x.i.1;simpa using this
 refine zgo ?_
 refine Runs.loop (X:=Nat) (fun k=>[(0,.pointer (some ⟨wb,0,none⟩)),(14,.slice ad w.ml cap),(15,.int .i64 (w.ml:Int)),(16,.int .i64 (k:Int))])
  (fun k h'=>Ext h h'∧k≤w.ml) (fun k=>w.ml-k) 0 ⟨rfl,rfl,rfl,rfl,trivial⟩ ⟨Fr.refl _ _,Nat.zero_le _⟩ ?_
 rintro k h1 ⟨hx1,hk⟩ ih
 refine zgo ?_
 refine Runs.cond_dec rfl (fun hlt=>?_) (fun hge=>?_)
 ·have hlt':k<w.ml:=by omega
  have hgk:w.lvs[k]? = some w.lvs[k]:=List.getElem?_eq_getElem (by omega)
  have hfull:=x.g.gl k _ hgk
  generalize w.lvs[k]'(by omega)=u at *
  obtain ⟨g,cp,hu,hbg,_,_,hcp⟩:=hfull
  subst hu
  have hbg1:=hbg.ext hx1
  obtain ⟨b0,p0,cap0,hv0,_,hcell⟩:=(hrl.ext hx1).cell hgk
  cases hv0
  refine zgo ?_
  refine Runs.loop (X:=Nat) (fun j=>[(0,.pointer (some ⟨wb,0,none⟩)),(14,.slice (some ⟨b0,p0,none⟩) w.ml cap),(15,.int .i64 (w.ml:Int)),(16,.int .i64 (k:Int)),(3,.int .i64 (k:Int)),(21,.slice (some ⟨g,0,none⟩) cp cp),(22,.int .i64 (cp:Int)),(23,.int .i64 (j:Int))])
   (fun j h'=>Ext h h'∧j≤cp) (fun j=>cp-j) 0 ⟨rfl,rfl,rfl,rfl,rfl,rfl,rfl,rfl,trivial⟩ ⟨hx1,Nat.zero_le _⟩ ?_
  rintro j h2 ⟨hx2,hj⟩ ih2
  refine zgo ?_
  refine Runs.cond_dec rfl (fun hlt2=>?_) (fun hge2=>?_)
  ·have hltj:j<cp:=by omega
   have hcj:cellAt h2 g (0+j*1)=some (.string (str (markS k))):=by
    rw [Nat.zero_add,Nat.mul_one]
    exact (hbg.ext hx2).cell (by simp [hltj])
   refine zgo ?_
   refine WO.call rfl rfl rfl rfl plain_lmark rfl (lmark_ret k (by omega) _) fun v3 h3 ⟨hx3,hv3⟩=>?_
   subst hv3
   have hd:decide (markS k=markS k)=true:=decide_eq_true rfl
   refine zgo ?_
   rw [hd]
   refine zgo ?_
   exact ih2 (j+1) _ _ (by omega) ⟨rfl,rfl,rfl,rfl,rfl,rfl,rfl,rfl,trivial⟩ ⟨hx2.trans hx3,hltj⟩
  ·refine zgo ?_
   exact ih (k+1) _ _ (by omega) ⟨rfl,rfl,rfl,rfl,trivial⟩ ⟨hx2,hlt'⟩
 clear ih
 have w4:=hx1.xc (x.blk.cell (j:=4) rfl)
 obtain ⟨adi,capi,hiv⟩:=x.i.rd.form
 have hri:=x.i.rd
 rw [hiv] at w4 hri
 refine zgo ?_
 refine Runs.loop (X:=Nat) (fun k=>[(36,.slice adi w.m capi),(37,.int .i64 (w.m:Int)),(38,.int .i64 (k:Int))])
  (fun k h'=>h1=h'∧k≤w.m) (fun k=>w.m-k) 0 ⟨rfl,rfl,rfl,trivial⟩ ⟨rfl,Nat.zero_le _⟩ ?_
 rintro k _ ⟨rfl,hk⟩ ih
 refine zgo ?_
 refine Runs.cond_dec rfl (fun hlt=>?_) (fun hge=>?_)
 ·have hlt':k<w.m:=by omega
  have hgk:w.ivs[k]? = some w.ivs[k]:=List.getElem?_eq_getElem (by omega)
  have hfull:=x.g.gi k _ hgk
  generalize w.ivs[k]'(by omega)=u at *
  obtain ⟨g,cp,hu,hbg,_,_,hcp⟩:=hfull
  subst hu
  have hbg1:=hbg.ext hx1
  obtain ⟨b0,p0,cap0,hv0,_,hcell⟩:=(hri.ext hx1).cell hgk
  cases hv0
  refine zgo ?_
  refine Runs.loop (X:=Nat) (fun j=>[(36,.slice (some ⟨b0,p0,none⟩) w.m capi),(37,.int .i64 (w.m:Int)),(38,.int .i64 (k:Int)),(7,.int .i64 (k:Int)),(43,.slice (some ⟨g,0,none⟩) cp cp),(44,.int .i64 (cp:Int)),(45,.int .i64 (j:Int))])
   (fun j h'=>h1=h'∧j≤cp) (fun j=>cp-j) 0 ⟨rfl,rfl,rfl,rfl,rfl,rfl,rfl,trivial⟩ ⟨rfl,Nat.zero_le _⟩ ?_
  rintro j _ ⟨rfl,hj⟩ ih2
  refine zgo ?_
  refine Runs.cond_dec rfl (fun hlt2=>?_) (fun hge2=>?_)
  ·have hltj:j<cp:=by omega
   have hcj:cellAt h1 g (0+j*1)=some (.int .i64 (-7-(k:Int))):=by
    rw [Nat.zero_add,Nat.mul_one]
    exact hbg1.cell (by simp [hltj])
   have hd:decide (-7-(k:Int) = -7-(k:Int))=true:=decide_eq_true rfl
   refine zgo ?_
   rw [hd]
   refine zgo ?_
   exact ih2 (j+1) _ _ (by omega) ⟨rfl,rfl,rfl,rfl,rfl,rfl,rfl,trivial⟩ ⟨rfl,hltj⟩
  ·refine zgo ?_
   exact ih (k+1) _ _ (by omega) ⟨rfl,rfl,rfl,trivial⟩ ⟨rfl,hlt'⟩
 ·refine zgo ?_
  exact Runs.ret func28 (ret1 results28 rfl) ⟨hx1,rfl⟩
end
end Go.Proofs.YtlaffgagmncgjaaGreatDoor
