import Derived.Test.YtlaffgagmncgjaaGreatDoorS1
import Derived.Test.YtlaffgagmncgjaaGreatDoorM1
import Derived.Test.YtlaffgagmncgjaaGreatDoorL2
set_option maxRecDepth 20000
set_option maxHeartbeats 3200000
namespace Go.Proofs.YtlaffgagmncgjaaGreatDoor
open Tryz Go Go.Pat Go.Proofs
def readyS (D:List Nat) (p:PatchD):Bool:=!D.contains p.id&&p.needs.all fun n=>D.contains n
def nextS (ps:List PatchD) (D:List Nat):Option PatchD:=ps.find? (readyS D)
structure BN where
 (D:List Nat) (T:List UInt8)
def bunStep (ps:List PatchD) (s:BN):BN:=match nextS ps s.D with
 | some p=>⟨s.D++[p.id],s.T++textS p⟩
 | none=>s
def bunTo (ps:List PatchD):Nat→BN
 | 0=>⟨[],[]⟩
 | k+1=>bunStep ps (bunTo ps k)
def bundleS (ps:List PatchD):List UInt8:=(bunTo ps ps.length).T
theorem text_1400 {ps:List PatchD} (h:Inv ps) {p:PatchD} (hp:p∈ps):(textS p).length≤1400:=by
 obtain ⟨t,ht,_⟩:=h.fine p hp
 rw [parse_text ht]
 unfold parseS at ht
 split at ht
 ·cases ht
 ·omega
theorem next_ex {ps:List PatchD} (hinv:Inv ps) {D:List Nat} (hl:D.length<ps.length):∃ p,nextS ps D=some p:=by
 have hund:∃ p∈ps,p.id∉D:=by
  apply Classical.byContradiction
  intro hno
  have:=nodup_len (m:=D) hinv.nodup fun x hx=>by
   obtain ⟨p,hp,e⟩:=List.mem_map.1 hx
   apply Classical.byContradiction
   intro hx'
   exact hno ⟨p,hp,by rw [e];exact hx'⟩
  simp at this
  omega
 have dec:∀ p,∃ f:Nat→Bool,∀ x,f x=true↔Past1 ps p x:=fun p=>⟨fun x=>@decide (Past1 ps p x) (Classical.propDecidable _),fun x=>by rw [@decide_eq_true_iff _ (Classical.propDecidable _)]⟩
 have hf:=Classical.axiomOfChoice dec
 obtain ⟨f,hf⟩:=hf
 have key:∀ m p,((ps.map PatchD.id).filter (f p)).length≤m→p∈ps→p.id∉D→∃ q∈ps,readyS D q=true:=by
  intro m
  induction m with
  | zero =>
   intro p hm hp hpd
   refine ⟨p,hp,?_⟩
   unfold readyS
   simp only [Bool.and_eq_true,Bool.not_eq_true',List.all_eq_true]
   refine ⟨by simpa using hpd,fun n hn'=>?_⟩
   exfalso
   have hni:=hinv.needs p hp n hn'
   have:n∈(ps.map PatchD.id).filter (f p):=List.mem_filter.2 ⟨hni,(hf p n).2 ⟨n,hn',.refl⟩⟩
   have:=List.length_pos_of_mem this
   omega
  | succ m ih =>
   intro p hm hp hpd
   by_cases hall:∀ n∈p.needs,n∈D
   ·refine ⟨p,hp,?_⟩
    unfold readyS
    simp only [Bool.and_eq_true,Bool.not_eq_true',List.all_eq_true]
    exact ⟨by simpa using hpd,fun n hn'=>by simpa using hall n hn'⟩
   ·simp only [Classical.not_forall] at hall
    obtain ⟨n,hn',hnd⟩:=hall
    obtain ⟨q,hq,e⟩:=List.mem_map.1 (hinv.needs p hp n hn')
    refine ih q ?_ hq (by rw [e];exact hnd)
    have hlt:=filter_lt (p:=f q) (q:=f p) (ps.map PatchD.id) (fun x _ hx=>by
     obtain ⟨k,hk,hr⟩:=(hf q x).1 hx
     refine (hf p x).2 ⟨n,hn',?_⟩
     exact fun S r s=>hr S (s n k q r hq e hk) s) q.id (List.mem_map.2 ⟨q,hq,rfl⟩) ((hf p q.id).2 ⟨n,hn',by rw [e];exact .refl⟩) (by
     cases h:f q q.id
     ·rfl
     ·exact absurd ((hf q q.id).1 h) (hinv.acyc q hq))
    omega
 obtain ⟨p,hp,hpd⟩:=hund
 obtain ⟨q,hq,hr⟩:=key _ p (Nat.le_refl _) hp hpd
 cases h:nextS ps D with
 | some r=>exact ⟨r,rfl⟩
 | none =>
  unfold nextS at h
  rw [List.find?_eq_none] at h
  exact absurd hr (h q hq)
theorem next_some {ps:List PatchD} {D:List Nat} {p:PatchD} (h:nextS ps D=some p):p∈ps∧p.id∉D∧∀ n∈p.needs,n∈D:=by
 unfold nextS at h
 refine ⟨List.mem_of_find?_eq_some h,?_⟩
 have:=List.find?_some h
 unfold readyS at this
 simp only [Bool.and_eq_true,Bool.not_eq_true',List.all_eq_true] at this
 exact ⟨by simpa using this.1,fun n hn=>by simpa using this.2 n hn⟩
structure BunOK (ps:List PatchD) (k:Nat):Prop where
 len:(bunTo ps k).D.length=k
 nodup:(bunTo ps k).D.Nodup
 sub:∀ n∈(bunTo ps k).D,n∈ps.map PatchD.id
 tl:(bunTo ps k).T.length≤1400*k
theorem bun_step {ps:List PatchD} {k:Nat} {p:PatchD} (h:nextS ps (bunTo ps k).D=some p):bunTo ps (k+1)=⟨(bunTo ps k).D++[p.id],(bunTo ps k).T++textS p⟩:=by
 show bunStep ps (bunTo ps k)=_
 unfold bunStep;rw [h]
theorem bun_ok {ps:List PatchD} (hinv:Inv ps):∀ k,k≤ps.length→BunOK ps k:=by
 intro k
 induction k with
 | zero=>intro _;exact ⟨rfl,by simp [bunTo],by simp [bunTo],by simp [bunTo]⟩
 | succ k ih =>
  intro hk
  have i:=ih (by omega)
  obtain ⟨p,hp⟩:=next_ex hinv (D:=(bunTo ps k).D) (by rw [i.len];omega)
  obtain ⟨h1,h2,_⟩:=next_some hp
  have e:=bun_step hp
  refine ⟨by rw [e];simp [i.len],?_,?_,?_⟩
  ·rw [e]
   show ((bunTo ps k).D++[p.id]).Nodup
   rw [List.nodup_append]
   exact ⟨i.nodup,by simp,fun x hx y hy e'=>by simp at hy;subst hy;subst e';exact h2 hx⟩
  ·rw [e]
   intro n hn
   rcases List.mem_append.1 hn with e' | e'
   ·exact i.sub n e'
   ·simp at e';subst e';exact List.mem_map.2 ⟨p,h1,rfl⟩
  ·rw [e]
   have:=text_1400 hinv h1
   have:=i.tl
   simp only [List.length_append];omega
theorem bun_end {ps:List PatchD} (hinv:Inv ps):nextS ps (bunTo ps ps.length).D=none:=by
 have i:=bun_ok hinv ps.length (Nat.le_refl _)
 cases h:nextS ps (bunTo ps ps.length).D with
 | none=>rfl
 | some p =>
  obtain ⟨h1,h2,_⟩:=next_some h
  exfalso
  have:=nodup_len (l:=p.id::(bunTo ps ps.length).D) (m:=ps.map PatchD.id) (by simp [h2,i.nodup]) fun x hx=>by
   rcases List.mem_cons.1 hx with e | e
   ·rw [e];exact List.mem_map.2 ⟨p,h1,rfl⟩
   ·exact i.sub x e
  simp [i.len] at this
  omega
theorem plain_hasAll:Plain Tryz.prog 141:=⟨_,func141,by decide +kernel,by rfl⟩
theorem plain_bnext:Plain Tryz.prog 94:=⟨_,func94,by decide +kernel,by rfl⟩
theorem plain_bWrite:Plain Tryz.prog 57:=⟨_,func57,by decide +kernel,by rfl⟩
theorem plain_xBundle:Plain Tryz.prog 25:=⟨_,func25,by decide +kernel,by rfl⟩
theorem hasAll_ret (D N:List Nat) (dv nv:Value) (h:Heap) (hd:Rd h 1 dv D.length (ints D)) (hn:Rd h 1 nv N.length (ints N)) (hdl:D.length≤1000000) (hnl:N.length≤1000000) :
  Ret Tryz.prog 141 #[dv,nv] h fun v h'=>h'=h∧v = .bool (N.all fun n=>D.contains n):=by
 refine Ret.of_body func141 rfl ntmps141 rfl rfl ?_
 obtain ⟨ad,cap,hv⟩:=hn.form
 subst hv
 refine zgo ?_
 refine Runs.loop (X:=Nat) (fun i=>[(0,dv),(1,.slice ad N.length cap),(5,.int .i64 (i:Int))])
  (fun i h'=>h=h'∧i≤N.length∧∀ n∈N.take i,D.contains n=true) (fun i=>N.length-i) 0 ⟨rfl,rfl,rfl,trivial⟩ ⟨rfl,Nat.zero_le _,by simp⟩ ?_
 rintro i _ ⟨rfl,hi,hall⟩ ih
 refine zgo ?_
 refine Runs.cond_dec rfl (fun hlt=>?_) (fun hge=>?_)
 rotate_left
 ·rw [List.take_of_length_le (by omega)] at hall
  refine zgo ?_
  refine Runs.ret func141 (ret1 results141 rfl) ⟨rfl,?_⟩
  congr 1;symm
  exact List.all_eq_true.2 hall
 have hlt':i<N.length:=by omega
 have hget:N[i]? = some N[i]:=List.getElem?_eq_getElem hlt'
 have hmem:N[i]∈N:=List.getElem_mem hlt'
 have hsn:N.take (i+1)=N.take i++[N[i]]:=List.take_succ_eq_append_getElem hlt'
 generalize N[i]=n at *
 obtain ⟨b0,p0,cap0,hv0,_,hcell⟩:=hn.cell (ints_get hget)
 cases hv0
 refine zgo ?_
 refine WO.call rfl rfl rfl rfl plain_Has rfl (Has_ret D dv (n:Int) _ hd hdl) fun v3 h3 ⟨hh3,hv3⟩=>?_
 subst hh3 hv3
 rw [hasI_nat]
 cases hc:D.contains n
 ·refine zgo ?_
  refine Runs.ret func141 (ret1 results141 rfl) ⟨rfl,?_⟩
  congr 1;symm
  exact List.all_eq_false.2 ⟨n,hmem,by rw [hc];simp⟩
 ·refine zgo ?_
  refine ih (i+1) _ _ (by omega) ⟨rfl,rfl,rfl,trivial⟩ ⟨rfl,hlt',fun z hz=>?_⟩
  rw [hsn] at hz
  rcases List.mem_append.1 hz with e | e
  ·exact hall z e
  ·simp at e;subst e;exact hc
def nextX (l:List PD3) (D:List Nat):Option PD3:=l.find? fun y=>readyS D y.p
theorem nextX_map (l:List PD3) (D:List Nat):nextS (l.map PD3.p) D=(nextX l D).map PD3.p:=by
 unfold nextS nextX
 rw [List.find?_map];rfl
theorem bnext_ret {F:Nat→Prop} (l:List PD3) (lv:Value) (D:List Nat) (dv:Value) (h:Heap) (hs:XS F h lv l) (hd:Rd h 1 dv D.length (ints D)) (hl:l.length≤1000) (hdl:D.length≤1000000) (hnl:∀ y∈l,y.p.needs.length≤1000) :
  Ret Tryz.prog 94 #[lv,dv] h fun v h'=>Ext h h'∧found (nextX l D) v:=by
 obtain ⟨ad,cap,hv⟩:=hs.rd.form
 subst hv
 refine Ret.of_body func94 rfl ntmps94 rfl rfl ?_
 refine zgo ?_
 refine WO.alloc tab_ok rfl rfl rfl rfl rfl rfl fun h1 hb1 hx1 hs1=>?_
 refine zgo ?_
 refine Runs.loop (X:=Nat) (fun i=>[(0,.slice ad l.length cap),(1,dv),(4,.pointer (some ⟨h.size,0,none⟩)),(6,.int .i64 (i:Int))])
  (fun i h'=>Ext h1 h'∧i≤l.length∧∀ y∈l.take i,readyS D y.p=false) (fun i=>l.length-i) 0 ⟨rfl,rfl,rfl,rfl,trivial⟩ ⟨Fr.refl _ _,Nat.zero_le _,by simp⟩ ?_
 rintro i h2 ⟨hx2,hi,hno⟩ ih
 have hx02:=hx1.trans hx2
 have hb2:=hb1.ext hx2
 have hz1:=hx1.size
 refine zgo ?_
 refine Runs.cond_dec rfl (fun hlt=>?_) (fun hge=>?_)
 rotate_left
 ·rw [List.take_of_length_le (by omega)] at hno
  refine zgo ?_
  refine zt (one3 _ _ _ _ _ _ _) hb2 fun h3 hb3 hx3 hs3=>?_
  refine zgo ?_
  refine Runs.ret func94 (retc tab_ok results94 rfl rfl rfl rfl rfl hb3.cells) ⟨Fr.wr hx02 hx3 (Nat.le_refl _),?_⟩
  have:nextX l D=none:=by
   unfold nextX
   rw [List.find?_eq_none]
   intro y hy;simp [hno y hy]
  rw [this]
  rfl
 have hlt':i<l.length:=by omega
 have hget:l[i]? = some l[i]:=List.getElem?_eq_getElem hlt'
 have hmem:l[i]∈l:=List.getElem_mem hlt'
 have htk:l.take (i+1)=l.take i++[l[i]]:=List.take_succ_eq_append_getElem hlt'
 generalize l[i]=y at *
 obtain ⟨b0,p0,cap0,hv,hc,hpv⟩:=(hs.ext hx02).get hget
 cases hv
 have next:readyS D y.p=false→∀ z∈l.take (i+1),readyS D z.p=false:=fun hr z hz=>by
  rw [htk] at hz
  rcases List.mem_append.1 hz with e | e
  ·exact hno z e
  ·simp at e;subst e;exact hr
 refine zgo ?_
 refine zv hpv.one fun h3 hb3 hx3 hs3=>?_
 have hx03:=hx02.trans hx3
 have g0:=hb3.cell (j:=0) rfl
 have g1:=hb3.cell (j:=1) rfl
 refine zgo ?_
 refine WO.call rfl rfl rfl rfl plain_Has rfl (Has_ret D dv (y.p.id:Int) _ (hd.ext hx03) hdl) fun v4 h4 ⟨hh4,hv4⟩=>?_
 subst hh4 hv4
 rw [hasI_nat]
 cases hD:D.contains y.p.id
 rotate_left
 ·refine zgo ?_
  exact ih (i+1) _ _ (by omega) ⟨rfl,rfl,rfl,rfl,trivial⟩ ⟨hx2.trans hx3,hlt',next (by unfold readyS;rw [hD];rfl)⟩
 refine zgo ?_
 refine WO.call rfl rfl rfl rfl plain_hasAll rfl (hasAll_ret D y.p.needs dv y.nv _ (hd.ext hx03) (hpv.needs.ext hx3) hdl (by have:=hnl y hmem;omega)) fun v5 h5 ⟨hh5,hv5⟩=>?_
 subst hh5 hv5
 cases hA:y.p.needs.all fun n=>D.contains n
 ·refine zgo ?_
  exact ih (i+1) _ _ (by omega) ⟨rfl,rfl,rfl,rfl,trivial⟩ ⟨hx2.trans hx3,hlt',next (by unfold readyS;rw [hA];simp)⟩
 ·have k3:Cells h5 h2.size 0 y.cells:=hb3.cells
  have hb5:=hb2.ext hx3
  refine zgo ?_
  refine zt hpv.one hb5 fun h6 hb6 hx6 hs6=>?_
  refine zgo ?_
  refine Runs.ret func94 (retc tab_ok results94 rfl rfl rfl rfl rfl hb6.cells) ⟨Fr.wr hx03 hx6 (Nat.le_refl _),?_⟩
  rw [show nextX l D=some y from find_first hget (by unfold readyS;rw [hD,hA];rfl) hno]
  rfl
theorem bWrite_ret {T:Heap→Prop} (hI:ItoaOK T) {F:Nat→Prop} (l:List PD3) (lv:Value) (h:Heap) (ht:T h) (hs:XS F h lv l) (hinv:Inv (l.map PD3.p)) :
  Ret Tryz.prog 57 #[lv] h fun v h'=>Ext h h'∧v = .string (str (bundleS (l.map PD3.p))):=by
 refine Ret.of_body func57 rfl ntmps57 rfl rfl ?_
 have hll:l.length≤20:=by have:=hinv.len;simpa using this
 have hnl:∀ y∈l,y.p.needs.length≤1000:=fun y hy=>by have:=(hinv.ok (List.mem_map.2 ⟨y,hy,rfl⟩)).nlen;omega
 have hpl:(l.map PD3.p).length=l.length:=List.length_map ..
 refine zgo ?_
 refine Runs.loop (X:=IV) (fun u=>[(0,lv),(3,.string (str (bunTo (l.map PD3.p) u.i).T)),(4,u.v)])
  (fun u h'=>u.i≤l.length∧Ext h h'∧Own h' 3 1 u.v (bunTo (l.map PD3.p) u.i).D.length (ints (bunTo (l.map PD3.p) u.i).D)∧(∀ k,u.v.ownBlock=some k→h.size≤k)) (fun u=>l.length-u.i) ⟨0,.slice none 0 0⟩ ⟨rfl,rfl,rfl,trivial⟩ ⟨Nat.zero_le _,Fr.refl _ _,Own.nil _ _ _,fun k hk=>by simp [Value.ownBlock] at hk⟩ ?_
 rintro ⟨i,v⟩ h1 ⟨hi,hx1,ho1,hm1⟩ ih
 dsimp only at hi hx1 ho1 hm1 ih ⊢
 have hok:=bun_ok hinv i (by omega)
 have hDl:=hok.len
 have hTl:=hok.tl
 have hz1:=hx1.size
 refine zgo ?_
 refine WO.call rfl rfl rfl rfl plain_bnext rfl (bnext_ret l lv (bunTo (l.map PD3.p) i).D v _ (hs.ext hx1) ho1.rd (by omega) (by omega) hnl) fun v2 h2 ⟨hx2,hf2⟩=>?_
 have hx02:=hx1.trans hx2
 cases hN:nextX l (bunTo (l.map PD3.p) i).D with
 | none =>
  rw [hN] at hf2
  have hf3:v2 = .tuple #[.agg #[.int .i64 0,.slice none 0 0,.slice none 0 0],.bool false]:=hf2
  subst hf3
  have hie:i=l.length:=by
   apply Classical.byContradiction
   intro hne
   obtain ⟨p,hp⟩:=next_ex hinv (D:=(bunTo (l.map PD3.p) i).D) (by rw [hok.len];omega)
   rw [nextX_map,hN] at hp
   cases hp
  subst hie
  refine zgo ?_
  refine zv (one3 _ _ _ _ _ _ _) fun h3 hb3 hx3 hs3=>?_
  refine zgo ?_
  refine Runs.ret func57 (ret1 results57 rfl) ⟨hx02.trans hx3,?_⟩
  unfold bundleS
  rw [hpl]
 | some y =>
  rw [hN] at hf2
  have hf3:v2 = .tuple #[.agg y.cells.toArray,.bool true]:=hf2
  subst hf3
  have hnS:nextS (l.map PD3.p) (bunTo (l.map PD3.p) i).D=some y.p:=by rw [nextX_map,hN];rfl
  obtain ⟨hyp,hyd,_⟩:=next_some hnS
  have hym:y∈l:=List.mem_of_find?_eq_some hN
  have hst:=bun_step hnS
  have hlt:i<l.length:=by
   apply Classical.byContradiction
   intro hge
   have hie:i=(l.map PD3.p).length:=by omega
   have:=bun_end hinv
   rw [← hie,hnS] at this
   cases this
  have hpy:=hs.pv y hym
  have htl:=text_1400 hinv hyp
  refine zgo ?_
  refine zv hpy.one fun h3 hb3 hx3 hs3=>?_
  have hx03:=hx02.trans hx3
  have k3:Cells h3 h2.size 0 y.cells:=hb3.cells
  refine zgo ?_
  refine WO.call rfl rfl rfl rfl plain_Write rfl (Write_ret hI y _ (hI.1 _ _ ht hx03) (hpy.ext hx03) (hinv.ok hyp) (hinv.kind hyp)) fun v4 h4 ⟨hx4,hv4⟩=>?_
  subst hv4
  have g4:=hx4.xc (hb3.cell (j:=0) rfl)
  have hz2:=hx2.size
  have hz3:=hx3.size
  have hz4:=hx4.size
  have ho4:=ho1.fr (hx2.trans (hx3.trans hx4)) (by simp)
  refine zgo ?_
  refine zh (one_int _) ho4 ?_
  intro v5 h5 o1 o2 o3
  refine zgo ?_
  refine ih ⟨i+1,v5⟩ _ _ (by dsimp only;omega) ⟨rfl,by dsimp only;rw [hst];rfl,rfl,trivial⟩ ⟨hlt,(hx03.trans hx4).trans_new (o2.mono fun k _ e=>.inr (hm1 k e)),?_,fun k hk=>?_⟩
  ·dsimp only
   rw [hst]
   dsimp only
   rw [ints_append,List.length_append]
   exact o1
  ·rcases o3 k hk with e | e
   ·exact hm1 k e
   ·omega
theorem xBundle_ret {T:Heap→Prop} (hI:ItoaOK T) {F:Nat→Prop} (xb:Nat) (l:List PD3) (lv:Value) (h:Heap) (ht:T h) (hb:Blk h xb [lv] 55) (hs:XS F h lv l) (hinv:Inv (l.map PD3.p)) :
  Ret Tryz.prog 25 #[.pointer (some ⟨xb,0,none⟩)] h fun v h'=>Ext h h'∧v = .string (str (bundleS (l.map PD3.p))):=by
 refine Ret.of_body func25 rfl ntmps25 rfl rfl ?_
 have x0:=hb.cell (j:=0) rfl
 refine zgo ?_
 refine WO.call rfl rfl rfl rfl plain_bWrite rfl (bWrite_ret hI l lv _ ht hs hinv) fun v1 h1 ⟨hx1,hv1⟩=>?_
 subst hv1
 refine zgo ?_
 exact Runs.ret func25 (ret1 results25 rfl) ⟨hx1,rfl⟩
theorem plain_mall:Plain Tryz.prog 54:=⟨_,func54,by decide +kernel,by rfl⟩
theorem plain_mBundle:Plain Tryz.prog 24:=⟨_,func24,by decide +kernel,by rfl⟩
theorem got_iff {bs:List Nat} {ps:List PatchD} {n:Nat} {v:Value} (h:Got bs ps (n:Int) v):(n∈ps.map PatchD.id∧∃ b,v = .pointer (some ⟨b,0,none⟩))∨(n∉ps.map PatchD.id∧v = .pointer none):=by
 rcases h with ⟨i,b,p,_,hp,hn,rfl⟩ | ⟨hno,rfl⟩
 ·exact .inl ⟨List.mem_map.2 ⟨p,List.mem_of_getElem? hp,by omega⟩,b,rfl⟩
 ·refine .inr ⟨fun hm=>?_,rfl⟩
  obtain ⟨p,hp,e⟩:=List.mem_map.1 hm
  exact hno p hp (by omega)
theorem mall_ret {F:Nat→Prop} (b:Nat) (bs:List Nat) (ps:List PatchD) (N:List Nat) (nv:Value) (h:Heap) (hs:SA F h b bs ps) (hn:Rd h 1 nv N.length (ints N)) (hl:bs.length≤1000) (hnl:N.length≤1000000) :
  Ret Tryz.prog 54 #[.pointer (some ⟨b,0,none⟩),nv] h fun v h'=>h'=h∧v = .bool (N.all fun n=>(ps.map PatchD.id).contains n):=by
 refine Ret.of_body func54 rfl ntmps54 rfl rfl ?_
 obtain ⟨ad,cap,hv⟩:=hn.form
 subst hv
 refine zgo ?_
 refine Runs.loop (X:=Nat) (fun i=>[(0,.pointer (some ⟨b,0,none⟩)),(7,.slice ad N.length cap),(8,.int .i64 (N.length:Int)),(9,.int .i64 (i:Int))])
  (fun i h'=>h=h'∧i≤N.length∧∀ n∈N.take i,n∈ps.map PatchD.id) (fun i=>N.length-i) 0 ⟨rfl,rfl,rfl,rfl,trivial⟩ ⟨rfl,Nat.zero_le _,by simp⟩ ?_
 rintro i _ ⟨rfl,hi,hall⟩ ih
 refine zgo ?_
 refine Runs.cond_dec rfl (fun hlt=>?_) (fun hge=>?_)
 rotate_left
 ·rw [List.take_of_length_le (by omega)] at hall
  refine zgo ?_
  refine Runs.ret func54 (ret1 results54 rfl) ⟨rfl,?_⟩
  congr 1;symm
  exact List.all_eq_true.2 fun n hn=>by simpa using hall n hn
 have hlt':i<N.length:=by omega
 have hget:N[i]? = some N[i]:=List.getElem?_eq_getElem hlt'
 have hmem:N[i]∈N:=List.getElem_mem hlt'
 have hsn:N.take (i+1)=N.take i++[N[i]]:=List.take_succ_eq_append_getElem hlt'
 generalize N[i]=n at *
 obtain ⟨b0,p0,cap0,hv0,_,hcell⟩:=hn.cell (ints_get hget)
 cases hv0
 refine zgo ?_
 refine WO.call rfl rfl rfl rfl plain60 rfl (get_ret b bs ps (n:Int) _ hs hl) fun v2 h2 ⟨hh2,hgot⟩=>?_
 subst hh2
 rcases got_iff hgot with ⟨hin,bb,rfl⟩ | ⟨hno,rfl⟩
 ·refine zgo ?_
  refine ih (i+1) _ _ (by omega) ⟨rfl,rfl,rfl,rfl,trivial⟩ ⟨rfl,hlt',fun z hz=>?_⟩
  rw [hsn] at hz
  rcases List.mem_append.1 hz with e | e
  ·exact hall z e
  ·simp at e;subst e;exact hin
 ·refine zgo ?_
  refine Runs.ret func54 (ret1 results54 rfl) ⟨rfl,?_⟩
  congr 1;symm
  exact List.all_eq_false.2 ⟨n,hmem,by simpa using hno⟩
structure MBX where
 (k db:Nat) (dbs:List Nat) (dn:List PatchD)
theorem mBundle_ret {F:Nat→Prop} (bm b:Nat) (bs:List Nat) (ps:List PatchD) (h:Heap) (hb:Blk h bm [.pointer (some ⟨b,0,none⟩)] 61) (hs:SA F h b bs ps) (hinv:Inv ps) :
  Ret Tryz.prog 24 #[.pointer (some ⟨bm,0,none⟩)] h fun v h'=>Ext h h'∧v = .string (str (bundleS ps)):=by
 refine Ret.of_body func24 rfl ntmps24 rfl rfl ?_
 have hpl:=hinv.len
 have m0:=hb.cell (j:=0) rfl
 obtain ⟨lv,hc,hr,hps,_,_⟩:=hs
 have hbp:bs.length=ps.length:=hps.1
 obtain ⟨ad,cap,hlv⟩:=hr.form
 subst hlv
 have s0:=hc.head
 refine zgo ?_
 refine zb fun h1 hb1 hx1 hs1=>?_
 refine zgo ?_
 refine Runs.loop (X:=MBX) (fun u=>[(0,.pointer (some ⟨bm,0,none⟩)),(3,.pointer (some ⟨u.db,0,none⟩)),(4,.string (str (bunTo ps u.k).T))])
  (fun u h'=>u.k≤ps.length∧Ext h h'∧SA (fun k=>F k∨New h h' k) h' u.db u.dbs u.dn∧u.dn.length=u.k∧∀ n,n∈u.dn.map PatchD.id↔n∈(bunTo ps u.k).D) (fun u=>ps.length-u.k) ⟨0,h.size,[],[]⟩ ⟨rfl,rfl,rfl,trivial⟩
  ⟨Nat.zero_le _,hx1,⟨.slice none 0 0,hb1.cells,(Own.nil h1 0 1).rd,PAs.nil _ _,.inr ⟨Nat.le_refl _,hb1.lt⟩,fun k hk=>by simp [Value.ownBlock] at hk⟩,rfl,fun n=>by simp [bunTo]⟩ ?_
 rintro ⟨k,db,dbs,dn⟩ h2 ⟨hk,hx2,hd,hdl,hdi⟩ ih
 dsimp only at hk hx2 hd hdl hdi ih ⊢
 have hok:=bun_ok hinv k hk
 have hTl:=hok.tl
 have hd0:=hd
 obtain ⟨dlv,hdc,hdr,hdps,_,_⟩:=hd0
 have hdbl:dbs.length=dn.length:=hdps.1
 obtain ⟨add,capd,hdlv⟩:=hdr.form
 subst hdlv
 have d0:=hdc.head
 have m2:=hx2.xc m0
 have s2:=hx2.xc s0
 refine zgo ?_
 refine Runs.still mixed (by kernel_rfl) ?_
 refine zws ?_
 refine Runs.cond_dec rfl (fun hlt=>?_) (fun hge=>?_)
 rotate_left
 ·have hke:k=ps.length:=by omega
  subst hke
  refine zgo ?_
  exact Runs.ret func24 (ret1 results24 rfl) ⟨hx2,rfl⟩
 have hklt:k<ps.length:=by omega
 obtain ⟨pn,hpn⟩:=next_ex hinv (D:=(bunTo ps k).D) (by rw [hok.len];omega)
 refine zgo ?_
 refine Runs.loop (X:=Nat) (fun j=>[(0,.pointer (some ⟨bm,0,none⟩)),(3,.pointer (some ⟨db,0,none⟩)),(4,.string (str (bunTo ps k).T)),(29,.slice ad bs.length cap),(30,.int .i64 (bs.length:Int)),(31,.int .i64 (j:Int))])
  (fun j h'=>h2=h'∧j≤bs.length∧∀ p∈ps.take j,readyS (bunTo ps k).D p=false) (fun j=>bs.length-j) 0 ⟨rfl,rfl,rfl,rfl,rfl,rfl,trivial⟩ ⟨rfl,Nat.zero_le _,by simp⟩ ?_
 rintro j _ ⟨rfl,hj,hno⟩ ih2
 refine zgo ?_
 refine Runs.cond_dec rfl (fun hlt2=>?_) (fun hge2=>?_)
 rotate_left
 ·exfalso
  rw [List.take_of_length_le (by omega)] at hno
  have h9:=List.find?_some hpn
  have h8:=hno pn (List.mem_of_find?_eq_some hpn)
  rw [h8] at h9
  cases h9
 have hltj:j<bs.length:=by omega
 have hltp:j<ps.length:=by omega
 have hget:bs[j]? = some bs[j]:=List.getElem?_eq_getElem hltj
 have hgetp:ps[j]? = some ps[j]:=List.getElem?_eq_getElem hltp
 have htk:ps.take (j+1)=ps.take j++[ps[j]]:=List.take_succ_eq_append_getElem hltp
 have hmem:ps[j]∈ps:=List.getElem_mem hltp
 generalize bs[j]=bp at *
 generalize ps[j]=p at *
 have next:readyS (bunTo ps k).D p=false→∀ z∈ps.take (j+1),readyS (bunTo ps k).D z=false:=fun hr z hz=>by
  rw [htk] at hz
  rcases List.mem_append.1 hz with e | e
  ·exact hno z e
  ·simp at e;subst e;exact hr
 have hpa:=(hps.2 j bp p hget hgetp).ext hx2
 have hpa0:=hpa
 obtain ⟨nv,cv,hpc,hpn',_⟩:=hpa0
 obtain ⟨b0,p0,cap0,hv0,_,hcell⟩:=(hr.ext hx2).cell (ptrs_get hget)
 cases hv0
 have g0:cellAt h2 bp (0+0)=some (.int .i64 (p.id:Int)):=hpc.head
 have g1:cellAt h2 bp (0+1)=some nv:=hpc.tail.head
 refine zgo ?_
 refine WO.call rfl rfl rfl rfl plain60 rfl (get_ret db dbs dn (p.id:Int) _ hd (by omega)) fun v3 h3 ⟨hh3,hgot⟩=>?_
 subst hh3
 rcases got_iff hgot with ⟨hin,bb,rfl⟩ | ⟨hout,rfl⟩
 ·have hD:(bunTo ps k).D.contains p.id=true:=by simpa using (hdi p.id).1 hin
  refine zgo ?_
  exact ih2 (j+1) _ _ (by omega) ⟨rfl,rfl,rfl,rfl,rfl,rfl,trivial⟩ ⟨rfl,hltj,next (by unfold readyS;rw [hD];rfl)⟩
 have hD:(bunTo ps k).D.contains p.id=false:=by
  cases hh:(bunTo ps k).D.contains p.id
  ·rfl
  ·exact absurd ((hdi p.id).2 (by simpa using hh)) hout
 refine zgo ?_
 refine WO.call rfl rfl rfl rfl plain_mall rfl (mall_ret db dbs dn p.needs nv _ hd hpn' (by omega) (by have:=(hinv.ok hmem).nlen;omega)) fun v4 h4 ⟨hh4,hv4⟩=>?_
 subst hh4 hv4
 have hall:(p.needs.all fun n=>(dn.map PatchD.id).contains n)=p.needs.all fun n=>(bunTo ps k).D.contains n:=by
  congr 1
  funext n
  rw [Bool.eq_iff_iff,List.contains_iff_mem,List.contains_iff_mem]
  exact hdi n
 rw [hall]
 cases hA:p.needs.all fun n=>(bunTo ps k).D.contains n
 ·refine zgo ?_
  exact ih2 (j+1) _ _ (by omega) ⟨rfl,rfl,rfl,rfl,rfl,rfl,trivial⟩ ⟨rfl,hltj,next (by unfold readyS;rw [hA];simp)⟩
 have hready:nextS ps (bunTo ps k).D=some p:=find_first hgetp (by unfold readyS;rw [hD,hA];rfl) hno
 have hst:=bun_step hready
 have htl:=text_1400 hinv hmem
 refine zgo ?_
 refine WO.call rfl rfl rfl rfl plain62 rfl (with_ret (F:=fun q=>F q∨New h h4 q) db bp dbs dn p _ hd (hpa.mono fun _ e=>.inl e) (by omega)) fun v5 h5 ⟨hx5,b5,bs5,hv5,hs5⟩=>?_
 subst hv5
 refine zgo ?_
 refine WO.call rfl rfl rfl rfl plain63 rfl (text_ret p bp _ (hpa.ext hx5) (hinv.ok hmem)) fun v6 h6 ⟨hx6,hv6⟩=>?_
 subst hv6
 refine zgo ?_
 refine ih ⟨k+1,b5,bs5,withS p dn⟩ _ _ (by dsimp only;omega) ⟨rfl,rfl,by dsimp only;rw [hst];rfl,trivial⟩ ⟨hklt,hx2.trans (hx5.trans hx6),?_,by dsimp only;rw [withS_len];omega,fun n=>?_⟩
 ·dsimp only
  refine (hs5.ext hx6).mono fun q e=>?_
  rcases e with (e | e) | e
  ·exact .inl e
  ·exact .inr (e.up (hx5.trans hx6))
  ·exact .inr ((e.dn hx2).up hx6)
 ·dsimp only
  rw [hst]
  dsimp only
  rw [List.mem_append]
  constructor
  ·intro hm
   obtain ⟨q,hq,e⟩:=List.mem_map.1 hm
   rcases withS_mem.1 hq with e' | e'
   ·subst e';exact .inr (by simp [e])
   ·exact .inl ((hdi n).1 (List.mem_map.2 ⟨q,e',e⟩))
  ·rintro (hm | hm)
   ·obtain ⟨q,hq,e⟩:=List.mem_map.1 ((hdi n).2 hm)
    exact List.mem_map.2 ⟨q,withS_mem.2 (.inr hq),e⟩
   ·simp at hm
    exact List.mem_map.2 ⟨p,withS_mem.2 (.inl rfl),hm.symm⟩
def head6:List UInt8:=[112,97,116,99,104,32]
def cutAt (t:List UInt8) (n:Nat):Bool:=decide (t[n-1]? = some 10)&&decide ((t.drop n).take 6=head6)
structure IsEnd (t:List UInt8) (n:Nat):Prop where
 pos:1≤n
 le:n≤t.length
 no:∀ j,1≤j→j<n→cutAt t j=false
 fin:n=t.length∨cutAt t n=true
def cutN (t:List UInt8):Nat:=((List.range t.length).find? fun n=>decide (1≤n)&&cutAt t n).getD t.length
theorem cutN_eq {t:List UInt8} {n:Nat} (h:IsEnd t n):cutN t=n:=by
 unfold cutN
 by_cases e:n=t.length
 ·have:((List.range t.length).find? fun n=>decide (1≤n)&&cutAt t n)=none:=by
   rw [List.find?_eq_none]
   intro j hj
   have hj':j<t.length:=by simpa using hj
   by_cases h1:1≤j
   ·simp [h.no j h1 (by omega)]
   ·simp [h1]
  rw [this];exact e.symm
 ·have hc:cutAt t n=true:=h.fin.elim (fun e'=>absurd e' e) id
  have hl:=h.le
  have hp:=h.pos
  have:((List.range t.length).find? fun n=>decide (1≤n)&&cutAt t n)=some n:=find_first (i:=n) (by rw [List.getElem?_range (by omega)]) (by simp [hc,hp]) (fun y hy=>by
   rw [List.take_range] at hy
   have hy':y<n:=by have:=List.mem_range.1 hy;omega
   by_cases h1:1≤y
   ·simp [h.no y h1 hy']
   ·simp [h1])
  rw [this];rfl
theorem cutN_pos {t:List UInt8} (h:t≠[]):1≤cutN t:=by
 unfold cutN
 cases hf:(List.range t.length).find? fun n=>decide (1≤n)&&cutAt t n with
 | none=>have:=List.length_pos_iff.2 h;exact this
 | some n =>
  have:=List.find?_some hf
  simp at this
  exact this.1
theorem cutAt_short {t:List UInt8} {n:Nat} (h:t.length<n+6):cutAt t n=false:=by
 unfold cutAt
 rw [Bool.and_eq_false_iff]
 right
 apply decide_eq_false
 intro e
 have:=congrArg List.length e
 simp [head6] at this
 omega
def cutsF:Nat→List UInt8→List (List UInt8)
 | 0,_=>[]
 | f+1,t=>if t=[] then [] else t.take (cutN t)::cutsF f (t.drop (cutN t))
theorem cutsF_nil (f:Nat):cutsF f []=[]:=by
 cases f with
 | zero=>rfl
 | succ f=>unfold cutsF;rw [if_pos rfl]
theorem cutsF_eq:∀ (f g:Nat) (t:List UInt8),t.length≤f→t.length≤g→cutsF f t=cutsF g t:=by
 intro f
 induction f with
 | zero =>
  intro g t h1 _
  have:t=[]:=List.eq_nil_of_length_eq_zero (by omega)
  rw [this,cutsF_nil,cutsF_nil]
 | succ f ih =>
  intro g t h1 h2
  by_cases ht:t=[]
  ·rw [ht,cutsF_nil,cutsF_nil]
  ·have hp:=cutN_pos ht
   have hl:=List.length_pos_iff.2 ht
   cases g with
   | zero=>omega
   | succ g =>
    unfold cutsF
    rw [if_neg ht,if_neg ht,ih g (t.drop (cutN t)) (by rw [List.length_drop];omega) (by rw [List.length_drop];omega)]
def cutsS (t:List UInt8):List (List UInt8):=cutsF t.length t
theorem cuts_nil:cutsS []=[]:=rfl
theorem cuts_cons {t:List UInt8} (h:t≠[]):cutsS t=t.take (cutN t)::cutsS (t.drop (cutN t)):=by
 have hp:=cutN_pos h
 have hl:=List.length_pos_iff.2 h
 unfold cutsS
 cases hn:t.length with
 | zero=>omega
 | succ m =>
  conv=>lhs;unfold cutsF
  rw [if_neg h,cutsF_eq m (t.drop (cutN t)).length _ (by rw [List.length_drop];omega) (Nat.le_refl _)]
def runS:List PatchD→List (List UInt8)→Nat × List PatchD
 | ps,[]=>(0,ps)
 | ps,x::xs=>if (applyS ps x).1=0 then runS (applyS ps x).2 xs else ((applyS ps x).1,[])
theorem run_cons (ps:List PatchD) (x:List UInt8) (xs:List (List UInt8)):runS ps (x::xs)=if (applyS ps x).1=0 then runS (applyS ps x).2 xs else ((applyS ps x).1,[]):=rfl
def loadS (t:List UInt8):Nat × List PatchD:=if 28000<t.length then (1,[]) else runS [] (cutsS t)
def loadedS (t:List UInt8):Nat × List PatchD:=if (loadS t).1=0∧bundleS (loadS t).2≠t then (2,[]) else loadS t
theorem inv_run {xs:List (List UInt8)}:∀ {ps:List PatchD},Inv ps→Inv (runS ps xs).2:=by
 induction xs with
 | nil=>intro ps h;exact h
 | cons x xs ih =>
  intro ps h
  unfold runS
  split
  ·exact ih (inv_apply h x)
  ·exact Inv.nil
theorem inv_load (t:List UInt8):Inv (loadS t).2:=by
 unfold loadS
 split
 ·exact Inv.nil
 ·exact inv_run Inv.nil
theorem inv_loaded (t:List UInt8):Inv (loadedS t).2:=by
 unfold loadedS
 split
 ·exact Inv.nil
 ·exact inv_load t
theorem plain_begins:Plain Tryz.prog 143:=⟨_,func143,by decide +kernel,by rfl⟩
theorem plain_mLoad:Plain Tryz.prog 96:=⟨_,func96,by decide +kernel,by rfl⟩
theorem plain_mLoaded:Plain Tryz.prog 59:=⟨_,func59,by decide +kernel,by rfl⟩
theorem begins_ret (t:List UInt8) (h:Heap) (hl:t.length≤16777216) :
  Ret Tryz.prog 143 #[.string (str t)] h fun v h'=>h'=h∧v = .bool (decide (t.take 6=head6)):=by
 refine Ret.of_body func143 rfl ntmps143 rfl rfl ?_
 refine zgo ?_
 refine WO.split 6 _ rfl (fun q1=>?_) (fun q1=>?_)
 ·have q1':=of_decide_eq_true q1
  refine zgo ?_
  refine WO.val (ov_sslice_hi (j:=6) tab_ok rfl rfl rfl rfl rfl (by omega)) rfl rfl rfl ?_
  refine zgo ?_
  exact Runs.ret func143 (ret1 results143 rfl) ⟨rfl,rfl⟩
 ·have q1':=of_decide_eq_false q1
  refine zgo ?_
  refine Runs.ret func143 (ret1 results143 rfl) ⟨rfl,?_⟩
  congr 1;symm
  apply decide_eq_false
  intro e
  have:=congrArg List.length e
  simp [head6] at this
  omega
theorem u8_ten {c:UInt8}:decide ((c.toNat:Int)=10)=decide (some c=some (10:UInt8)):=by
 rw [Bool.eq_iff_iff,decide_eq_true_iff,decide_eq_true_iff,Option.some.injEq]
 exact ⟨fun e=>UInt8.toNat.inj (by simpa using (show c.toNat=10 by omega)),fun e=>by rw [e];rfl⟩
def LoadM (h:Heap) (r:Nat × List PatchD) (v:Value) (h':Heap):Prop :=
 Ext h h'∧((r.1=0∧∃ mb b bs,v = .tuple #[.pointer (some ⟨mb,0,none⟩),.int .i64 0]∧h.size≤mb∧Blk h' mb [.pointer (some ⟨b,0,none⟩)] 61∧SA (fun k=>New h h' k∧k≠mb) h' b bs r.2)∨(r.1≠0∧v = .tuple #[.pointer none,.int .i64 (r.1:Int)]))
structure MLX where
 (t:List UInt8) (b:Nat) (bs:List Nat) (ps:List PatchD)
theorem mLoad_ret (t0:List UInt8) (h:Heap) (hl:t0.length≤16777216) :
  Ret Tryz.prog 96 #[.string (str t0)] h (LoadM h (loadS t0)):=by
 refine Ret.of_body func96 rfl ntmps96 rfl rfl ?_
 refine zgo ?_
 refine WO.call rfl rfl rfl rfl plain_mNew rfl (mNew_ret _) fun v1 h1 ⟨hx1,hz1,hv1,hb1,hb2⟩=>?_
 subst hv1
 refine zgo ?_
 refine Runs.cond_dec rfl (fun hlong=>?_) (fun hshort=>?_)
 ·refine zgo ?_
  refine Runs.ret func96 (ret2 results96 rfl rfl) ⟨hx1,.inr ?_⟩
  unfold loadS
  rw [if_pos (by omega)]
  exact ⟨by simp,rfl⟩
 have hload:loadS t0=runS [] (cutsS t0):=by unfold loadS;rw [if_neg (by omega)]
 rw [hload]
 refine zgo ?_
 refine Runs.loop (X:=MLX) (fun u=>[(0,.string (str u.t)),(4,.pointer (some ⟨h.size+1,0,none⟩))])
  (fun u h'=>Ext h h'∧u.t.length≤t0.length∧Blk h' (h.size+1) [.pointer (some ⟨u.b,0,none⟩)] 61∧SA (fun k=>New h h' k∧k≠h.size+1) h' u.b u.bs u.ps∧Inv u.ps∧runS u.ps (cutsS u.t)=runS [] (cutsS t0)) (fun u=>u.t.length) ⟨t0,h.size,[],[]⟩ ⟨rfl,rfl,trivial⟩
  ⟨hx1,Nat.le_refl _,hb2,⟨.slice none 0 0,hb1.cells,(Own.nil h1 0 1).rd,PAs.nil _ _,⟨⟨Nat.le_refl _,by dsimp only;omega⟩,by dsimp only;omega⟩,fun k hk=>by simp [Value.ownBlock] at hk⟩,Inv.nil,rfl⟩ ?_
 rintro ⟨t,b,bs,ps⟩ h2 ⟨hx2,htl,hbm,hsa,hinv,hrun⟩ ih
 dsimp only at hx2 htl hbm hsa hinv hrun ih ⊢
 have hz2:=hx2.size
 have hml:=hbm.lt
 refine zgo ?_
 refine Runs.cond_ndec rfl (fun hne=>?_) (fun heq=>?_)
 rotate_left
 ·subst heq
  rw [cuts_nil] at hrun
  refine zgo ?_
  refine Runs.ret func96 (ret2 results96 rfl rfl) ⟨hx2,.inl ?_⟩
  rw [← hrun]
  exact ⟨rfl,h.size+1,b,bs,rfl,by omega,hbm,hsa⟩
 have hpos:=List.length_pos_iff.2 hne
 refine zgo ?_
 refine Runs.loop (X:=Nat) (fun n=>[(0,.string (str t)),(4,.pointer (some ⟨h.size+1,0,none⟩)),(5,.int .i64 ((n+1:Nat):Int))])
  (fun n h'=>h2=h'∧n+1≤t.length∧∀ j,1≤j→j<n+1→cutAt t j=false) (fun n=>t.length-n) 0 ⟨rfl,rfl,rfl,trivial⟩ ⟨rfl,hpos,fun j h1 h2=>by omega⟩ ?_
 rintro n _ ⟨rfl,hn,hall⟩ ih2
 refine zgo ?_
 refine WO.join (fun env' h'=>h2=h'∧∃ b,Sub [(0,.string (str t)),(4,.pointer (some ⟨h.size+1,0,none⟩)),(5,.int .i64 ((n+1:Nat):Int)),(30,.bool b)] env'∧b=(decide (n+1<t.length) && !cutAt t (n+1))) ?_ ?_
 ·refine WO.split 17 _ rfl (fun q1=>?_) (fun q1=>?_)
  ·have q1':=of_decide_eq_true q1
   have hd1:decide (n+1<t.length)=true:=decide_eq_true (by omega)
   have hget:t[n]? = some t[n]:=List.getElem?_eq_getElem (by omega)
   have hcut:cutAt t (n+1)=(decide (some t[n]=some (10:UInt8))&&decide ((t.drop (n+1)).take 6=head6)):=by unfold cutAt;rw [Nat.add_sub_cancel,hget]
   generalize t[n]=c at *
   refine zgo ?_
   rw [show ((n+1:Nat):Int)-1=(n:Int) by omega]
   refine zgo ?_
   rw [u8_ten]
   cases hc:decide (some c=some (10:UInt8))
   ·refine zgo ?_
    exact ⟨rfl,_,⟨rfl,rfl,rfl,rfl,trivial⟩,by rw [hd1,hcut,hc];rfl⟩
   ·refine zgo ?_
    refine WO.call rfl rfl rfl rfl plain_begins rfl (begins_ret (t.drop (n+1)) _ (by simp;omega)) fun v4 h4 ⟨hh4,hv4⟩=>?_
    subst hh4 hv4
    refine zgo ?_
    exact ⟨rfl,_,⟨rfl,rfl,rfl,rfl,trivial⟩,by rw [hd1,hcut,hc];rfl⟩
  ·have q1':=of_decide_eq_false q1
   refine zgo ?_
   exact ⟨rfl,_,⟨rfl,rfl,rfl,rfl,trivial⟩,by rw [decide_eq_false (by omega)];rfl⟩
 rintro env' _ ⟨rfl,b',hsub,hb'⟩
 refine Runs.sub hsub ?_
 refine zgo ?_
 cases hb2:b'
 rotate_left
 ·rw [hb2] at hb'
  have hb3:=hb'.symm
  rw [Bool.and_eq_true,Bool.not_eq_true'] at hb3
  have hlt:=of_decide_eq_true hb3.1
  refine zgo ?_
  refine ih2 (n+1) _ _ (by omega) ⟨rfl,rfl,rfl,trivial⟩ ⟨rfl,by omega,fun j h1 h2=>?_⟩
  rcases Nat.lt_succ_iff_lt_or_eq.1 h2 with e | e
  ·exact hall j h1 e
  ·rw [e];exact hb3.2
 have hend:IsEnd t (n+1):=⟨by omega,hn,hall,by
  rw [hb2] at hb'
  have hb3:=hb'.symm
  rw [Bool.and_eq_false_iff] at hb3
  rcases hb3 with e | e
  ·exact .inl (by have:=of_decide_eq_false e;omega)
  ·exact .inr (by simpa using e)⟩
 have hcn:=cutN_eq hend
 rw [cuts_cons hne,hcn,run_cons] at hrun
 refine zgo ?_
 refine WO.val (ov_sslice_hi (j:=n+1) tab_ok rfl rfl rfl rfl rfl hn) rfl rfl rfl ?_
 refine zgo ?_
 refine WO.call rfl rfl rfl rfl plain_mApply rfl (mApply_ret (F:=fun k=>New h h2 k∧k≠h.size+1) (h.size+1) b bs ps (t.take (n+1)) _ hbm hsa (fun k hk=>hk.2) hinv.good (by simp;omega)) fun v5 h5 ⟨hf5,hv5,b5,bs5,hbm5,hs5⟩=>?_
 subst hv5
 have hx5:Ext h h5:=hx2.wr hf5 (by omega)
 by_cases he:(applyS ps (t.take (n+1))).1=0
 ·rw [if_pos he] at hrun
  rw [he]
  refine zgo ?_
  refine ih ⟨t.drop (n+1),b5,bs5,(applyS ps (t.take (n+1))).2⟩ _ _ (by dsimp only;rw [List.length_drop];omega) ⟨rfl,rfl,trivial⟩ ⟨hx5,by dsimp only;rw [List.length_drop];omega,hbm5,?_,inv_apply hinv _,hrun⟩
  refine hs5.mono fun k e=>?_
  rcases e with e | e
  ·exact ⟨e.1.up hf5,e.2⟩
  ·exact ⟨e.dn hx2,fun e'=>by have:=e.1;omega⟩
 ·rw [if_neg he] at hrun
  have hd:decide (((applyS ps (t.take (n+1))).1:Int)=0)=false:=decide_eq_false (by omega)
  refine zgo ?_
  rw [hd]
  refine zgo ?_
  refine Runs.ret func96 (ret2 results96 rfl rfl) ⟨hx5,.inr ?_⟩
  rw [← hrun]
  exact ⟨he,rfl⟩
theorem mLoaded_ret (t:List UInt8) (h:Heap) (hl:t.length≤16777216) :
  Ret Tryz.prog 59 #[.string (str t)] h (LoadM h (loadedS t)):=by
 refine Ret.of_body func59 rfl ntmps59 rfl rfl ?_
 refine zgo ?_
 refine WO.call rfl rfl rfl rfl plain_mLoad rfl (mLoad_ret t _ hl) fun v1 h1 ⟨hx1,hp1⟩=>?_
 rcases hp1 with ⟨h0,mb,b,bs,rfl,hmb,hbm,hsa⟩ | ⟨h0,rfl⟩
 ·refine zgo ?_
  refine WO.call rfl rfl rfl rfl plain_mBundle rfl (mBundle_ret mb b bs (loadS t).2 _ hbm hsa (inv_load t)) fun v2 h2 ⟨hx2,hv2⟩=>?_
  subst hv2
  refine zgo ?_
  refine Runs.cond_ndec rfl (fun hne=>?_) (fun heq=>?_)
  ·refine zgo ?_
   refine Runs.ret func59 (ret2 results59 rfl rfl) ⟨hx1.trans hx2,.inr ?_⟩
   unfold loadedS
   rw [if_pos ⟨h0,hne⟩]
   exact ⟨by simp,rfl⟩
  ·refine zgo ?_
   refine Runs.ret func59 (ret2 results59 rfl rfl) ⟨hx1.trans hx2,.inl ?_⟩
   unfold loadedS
   rw [if_neg (fun e=>e.2 heq)]
   exact ⟨h0,mb,b,bs,rfl,hmb,hbm.ext hx2,(hsa.ext hx2).mono fun k e=>⟨e.1.up hx2,e.2⟩⟩
 ·have hd:decide (((loadS t).1:Int)=0)=false:=decide_eq_false (by omega)
  refine zgo ?_
  rw [hd]
  refine zgo ?_
  refine Runs.ret func59 (ret2 results59 rfl rfl) ⟨hx1,.inr ?_⟩
  unfold loadedS
  rw [if_neg (fun e=>h0 e.1)]
  exact ⟨h0,rfl⟩
theorem plain_bend:Plain Tryz.prog 142:=⟨_,func142,by decide +kernel,by rfl⟩
theorem plain_bCut:Plain Tryz.prog 95:=⟨_,func95,by decide +kernel,by rfl⟩
theorem plain_xLoad:Plain Tryz.prog 58:=⟨_,func58,by decide +kernel,by rfl⟩
theorem bend_ret (t:List UInt8) (a:Nat) (h:Heap) (hl:t.length≤16777216) (ha:a<t.length) :
  Ret Tryz.prog 142 #[.string (str t),.int .i64 (a:Int)] h fun v h'=>h'=h∧v = .int .i64 ((a+cutN (t.drop a):Nat):Int):=by
 refine Ret.of_body func142 rfl ntmps142 rfl rfl ?_
 refine zgo ?_
 refine Runs.loop (X:=Nat) (fun n=>[(0,.string (str t)),(5,.int .i64 ((a+n+1:Nat):Int))])
  (fun n h'=>h=h'∧a+n+1≤t.length∧∀ j,1≤j→j<n+1→cutAt (t.drop a) j=false) (fun n=>t.length-n) 0 ⟨rfl,rfl,trivial⟩ ⟨rfl,by omega,fun j h1 h2=>by omega⟩ ?_
 rintro n _ ⟨rfl,hn,hall⟩ ih
 refine zgo ?_
 refine Runs.cond_dec rfl (fun hlt=>?_) (fun hge=>?_)
 rotate_left
 ·have hend:IsEnd (t.drop a) (t.drop a).length:=⟨by simp;omega,Nat.le_refl _,fun j h1 h2=>by
   by_cases h3:j<n+1
   ·exact hall j h1 h3
   ·exact cutAt_short (by rw [List.length_drop];omega),.inl rfl⟩
  have hcn:=cutN_eq hend
  refine zgo ?_
  refine Runs.ret func142 (ret1 results142 rfl) ⟨rfl,?_⟩
  rw [hcn,List.length_drop,show a+(t.length-a)=t.length by omega]
 have hget:t[a+n]? = some t[a+n]:=List.getElem?_eq_getElem (by omega)
 have hcut:cutAt (t.drop a) (n+1)=(decide (some t[a+n]=some (10:UInt8))&&decide ((t.take (a+n+1+6)).drop (a+n+1)=head6)):=by
  unfold cutAt
  rw [Nat.add_sub_cancel,List.getElem?_drop,hget,List.drop_drop,List.drop_take,show a+n+1+6-(a+n+1)=6 by omega,Nat.add_assoc]
 generalize t[a+n]=c at *
 refine zgo ?_
 rw [show ((a+n+1:Nat):Int)-1=((a+n:Nat):Int) by omega]
 refine zgo ?_
 rw [u8_ten]
 cases hc:decide (some c=some (10:UInt8))
 ·rw [hc] at hcut
  refine zgo ?_
  refine ih (n+1) _ _ (by omega) ⟨rfl,rfl,trivial⟩ ⟨rfl,by omega,fun j h1 h2=>?_⟩
  rcases Nat.lt_succ_iff_lt_or_eq.1 h2 with e | e
  ·exact hall j h1 e
  ·rw [e,hcut];rfl
 ·rw [hc] at hcut
  refine zgo ?_
  refine WO.val (ov_sslice (i:=a+n+1) (j:=a+n+1+6) tab_ok rfl rfl rfl rfl rfl rfl rfl (by omega) (by omega)) rfl rfl rfl ?_
  refine zgo ?_
  refine Runs.cond_dec rfl (fun heq=>?_) (fun hne=>?_)
  ·have hend:IsEnd (t.drop a) (n+1):=⟨by omega,by rw [List.length_drop];omega,hall,.inr (by rw [hcut,decide_eq_true (show _=head6 from heq)];rfl)⟩
   have hcn:=cutN_eq hend
   refine zgo ?_
   refine Runs.ret func142 (ret1 results142 rfl) ⟨rfl,?_⟩
   rw [hcn,Nat.add_assoc]
  ·refine zgo ?_
   refine ih (n+1) _ _ (by omega) ⟨rfl,rfl,trivial⟩ ⟨rfl,by omega,fun j h1 h2=>?_⟩
   rcases Nat.lt_succ_iff_lt_or_eq.1 h2 with e | e
   ·exact hall j h1 e
   ·rw [e,hcut,decide_eq_false (show ¬ _=head6 from hne)];rfl
theorem cutN_le {t:List UInt8}:cutN t≤t.length:=by
 unfold cutN
 cases hf:(List.range t.length).find? fun n=>decide (1≤n)&&cutAt t n with
 | none=>exact Nat.le_refl _
 | some n =>
  have:=List.mem_range.1 (List.mem_of_find?_eq_some hf)
  exact Nat.le_of_lt this
structure CutX where
 (a:Nat) (v:Value) (P:List (List UInt8))
theorem bCut_ret (t:List UInt8) (h:Heap) (hl:t.length≤16777216) :
  Ret Tryz.prog 95 #[.string (str t)] h fun v h'=>Ext h h'∧Own h' 9 1 v (cutsS t).length (strs (cutsS t))∧(∀ k,v.ownBlock=some k→h.size≤k)∧(cutsS t).length≤t.length∧∀ x∈cutsS t,x.length≤t.length:=by
 refine Ret.of_body func95 rfl ntmps95 rfl rfl ?_
 refine zgo ?_
 refine Runs.loop (X:=CutX) (fun u=>[(0,.string (str t)),(3,u.v),(4,.int .i64 (u.a:Int))])
  (fun u h'=>u.a≤t.length∧Ext h h'∧Own h' 9 1 u.v u.P.length (strs u.P)∧(∀ k,u.v.ownBlock=some k→h.size≤k)∧u.P.length≤u.a∧(∀ x∈u.P,x.length≤t.length)∧u.P++cutsS (t.drop u.a)=cutsS t) (fun u=>t.length-u.a) ⟨0,.slice none 0 0,[]⟩ ⟨rfl,rfl,rfl,trivial⟩ ⟨Nat.zero_le _,Fr.refl _ _,Own.nil _ _ _,fun k hk=>by simp [Value.ownBlock] at hk,Nat.le_refl _,by simp,rfl⟩ ?_
 rintro ⟨a,v,P⟩ h1 ⟨ha,hx1,ho1,hm1,hpl,hxl,hcut⟩ ih
 dsimp only at ha hx1 ho1 hm1 hpl hxl hcut ih ⊢
 have hz1:=hx1.size
 obtain ⟨ad,cap,hv⟩:=ho1.rd.form
 subst hv
 refine zgo ?_
 refine Runs.cond_dec rfl (fun hlt=>?_) (fun hge=>?_)
 rotate_left
 ·have hd:t.drop a=[]:=List.drop_eq_nil_of_le (by omega)
  rw [hd,cuts_nil,List.append_nil] at hcut
  subst hcut
  refine zgo ?_
  exact Runs.ret func95 (ret1 results95 rfl) ⟨hx1,ho1,hm1,by omega,hxl⟩
 have hne:t.drop a≠[]:=fun e=>by have:=congrArg List.length e;simp at this;omega
 have hcp:=cutN_pos hne
 have hcl:=cutN_le (t:=t.drop a)
 rw [List.length_drop] at hcl
 rw [cuts_cons hne,List.drop_drop] at hcut
 refine zgo ?_
 refine WO.call rfl rfl rfl rfl plain_bend rfl (bend_ret t a _ hl (by omega)) fun v2 h2 ⟨hh2,hv2⟩=>?_
 subst hh2 hv2
 generalize cutN (t.drop a)=n at *
 have hsl:(t.take (a+n)).drop a=(t.drop a).take n:=by rw [List.drop_take,show a+n-a=n by omega]
 refine zgo ?_
 rw [hsl]
 refine zh (one_str _) ho1 ?_
 intro v5 h5 o1 o2 o3
 refine zgo ?_
 refine ih ⟨a+n,v5,P++[(t.drop a).take n]⟩ _ _ (by dsimp only;omega) ⟨rfl,rfl,rfl,trivial⟩ ⟨by dsimp only;omega,hx1.trans_new (o2.mono fun k _ e=>.inr (hm1 k e)),?_,fun k hk=>?_,by simp;omega,fun x hx=>?_,by dsimp only;rw [List.append_assoc];exact hcut⟩
 ·dsimp only
  rw [strs_append,List.length_append]
  exact o1
 ·rcases o3 k hk with e | e
  ·exact hm1 k e
  ·omega
 ·rcases List.mem_append.1 hx with e | e
  ·exact hxl x e
  ·simp at e;rw [e];simp;omega
def LoadX (h:Heap) (r:Nat × List PatchD) (v:Value) (h':Heap):Prop :=
 Ext h h'∧((r.1=0∧∃ xb lv l,v = .tuple #[.pointer (some ⟨xb,0,none⟩),.int .i64 0]∧h.size≤xb∧Blk h' xb [lv] 55∧XS (fun k=>New h h' k∧k≠xb) h' lv l∧l.map PD3.p=r.2)∨(r.1≠0∧v = .tuple #[.pointer none,.int .i64 (r.1:Int)]))
structure XLX where
 (i:Nat) (lv:Value) (l:List PD3)
theorem xLoad_ret {T:Heap→Prop} (hI:ItoaOK T) (t:List UInt8) (h:Heap) (ht:T h) (hl:t.length≤16777216) :
  Ret Tryz.prog 58 #[.string (str t)] h (LoadX h (loadedS t)):=by
 refine Ret.of_body func58 rfl ntmps58 rfl rfl ?_
 refine zgo ?_
 refine Runs.cond_dec rfl (fun hlong=>?_) (fun hshort=>?_)
 ·refine zgo ?_
  refine Runs.ret func58 (ret2 results58 rfl rfl) ⟨Fr.refl _ _,.inr ?_⟩
  have:loadS t=(1,[]):=by unfold loadS;rw [if_pos (by omega)]
  unfold loadedS
  rw [this,if_neg (fun e=>by cases e.1)]
  exact ⟨by simp,rfl⟩
 have hload:loadS t=runS [] (cutsS t):=by unfold loadS;rw [if_neg (by omega)]
 refine zgo ?_
 refine WO.call rfl rfl rfl rfl plain_xNew rfl (xNew_ret _) fun v1 h1 ⟨hx1,hz1,hv1,hb1⟩=>?_
 subst hv1
 refine zgo ?_
 refine WO.call rfl rfl rfl rfl plain_bCut rfl (bCut_ret t _ hl) fun v2 h2 ⟨hx2,ho2,hm2,hcl,hcx⟩=>?_
 obtain ⟨ad2,cap2,hv2⟩:=ho2.rd.form
 subst hv2
 have hz2:=hx2.size
 have hr2:=ho2.rd
 generalize cutsS t=C at *
 refine zgo ?_
 refine Runs.loop (X:=XLX) (fun u=>[(0,.string (str t)),(4,.pointer (some ⟨h.size,0,none⟩)),(5,.slice ad2 C.length cap2),(6,.int .i64 (u.i:Int))])
  (fun u h'=>u.i≤C.length∧Ext h h'∧Fr (fun k=>k=h.size) h2 h'∧Blk h' h.size [u.lv] 55∧XS (fun k=>New h h' k∧k≠h.size) h' u.lv u.l∧Inv (u.l.map PD3.p)∧runS (u.l.map PD3.p) (C.drop u.i)=runS [] C) (fun u=>C.length-u.i) ⟨0,.slice none 0 0,[]⟩ ⟨rfl,rfl,rfl,rfl,trivial⟩
  ⟨Nat.zero_le _,hx1.trans hx2,Fr.refl _ _,hb1.ext hx2,⟨(Own.nil h2 0 3).rd,by simp,fun k hk=>by simp [Value.ownBlock] at hk⟩,Inv.nil,rfl⟩ ?_
 rintro ⟨i,lv,l⟩ h3 ⟨hi,hx3,hf3,hb3,hs3,hinv,hrun⟩ ih
 dsimp only at hi hx3 hf3 hb3 hs3 hinv hrun ih ⊢
 have hz3:=hf3.size
 have hr3:=hr2.fr hf3 (fun k hk e=>by have:=hm2 k hk;omega)
 refine zgo ?_
 refine Runs.cond_dec rfl (fun hlt=>?_) (fun hge=>?_)
 ·have hlt':i<C.length:=by omega
  have hget:C[i]? = some C[i]:=List.getElem?_eq_getElem hlt'
  have hxl:=hcx C[i] (List.getElem_mem hlt')
  rw [List.drop_eq_getElem_cons hlt',run_cons] at hrun
  generalize C[i]=c at *
  obtain ⟨b0,p0,cap0,hv0,_,hcell⟩:=hr3.cell (strs_get hget)
  cases hv0
  refine zgo ?_
  refine WO.call rfl rfl rfl rfl plain_xApply rfl (xApply_ret hI (F:=fun k=>New h h3 k∧k≠h.size) h.size l lv c _ (hI.1 _ _ ht hx3) hb3 hs3 (fun k hk=>hk.2) hinv (by omega)) fun v5 h5 ⟨hf5,hv5,lv5,l5,hb5,hs5,hps5⟩=>?_
  subst hv5
  have hx5:Ext h h5:=hx3.wr hf5 (Nat.le_refl _)
  by_cases he:(applyS (l.map PD3.p) c).1=0
  ·rw [if_pos he] at hrun
   rw [he]
   refine zgo ?_
   refine ih ⟨i+1,lv5,l5⟩ _ _ (by dsimp only;omega) ⟨rfl,rfl,rfl,rfl,trivial⟩ ⟨hlt',hx5,hf3.trans hf5,hb5,?_,by dsimp only;rw [hps5];exact inv_apply hinv _,by dsimp only;rw [hps5];exact hrun⟩
   refine hs5.mono fun k e=>?_
   rcases e with e | e
   ·exact ⟨e.1.up hf5,e.2⟩
   ·exact ⟨e.dn hx3,fun e'=>by have:=e.1;omega⟩
  ·rw [if_neg he] at hrun
   have hd:decide (((applyS (l.map PD3.p) c).1:Int)=0)=false:=decide_eq_false (by omega)
   refine zgo ?_
   rw [hd]
   refine zgo ?_
   refine Runs.ret func58 (ret2 results58 rfl rfl) ⟨hx5,.inr ?_⟩
   unfold loadedS
   rw [hload,← hrun,if_neg (fun e=>he e.1)]
   exact ⟨he,rfl⟩
 rw [List.drop_eq_nil_of_le (by omega)] at hrun
 have hld:loadS t=(0,l.map PD3.p):=by rw [hload,← hrun];rfl
 refine zgo ?_
 refine WO.call rfl rfl rfl rfl plain_xBundle rfl (xBundle_ret hI h.size l lv _ (hI.1 _ _ ht hx3) hb3 hs3 hinv) fun v4 h4 ⟨hx4,hv4⟩=>?_
 subst hv4
 refine zgo ?_
 refine Runs.cond_ndec rfl (fun hne=>?_) (fun heq=>?_)
 ·refine zgo ?_
  refine Runs.ret func58 (ret2 results58 rfl rfl) ⟨hx3.trans hx4,.inr ?_⟩
  unfold loadedS
  rw [hld,if_pos ⟨rfl,hne⟩]
  exact ⟨by simp,rfl⟩
 ·refine zgo ?_
  refine Runs.ret func58 (ret2 results58 rfl rfl) ⟨hx3.trans hx4,.inl ?_⟩
  unfold loadedS
  rw [hld,if_neg (fun e=>e.2 heq)]
  exact ⟨rfl,h.size,lv,l,rfl,Nat.le_refl _,hb3.ext hx4,(hs3.ext hx4).mono fun k e=>⟨e.1.up hx4,e.2⟩,rfl⟩
end Go.Proofs.YtlaffgagmncgjaaGreatDoor
