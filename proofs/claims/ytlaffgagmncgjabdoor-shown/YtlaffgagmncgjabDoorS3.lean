import Derived.Test.YtlaffgagmncgjabDoorS1
import Derived.Test.YtlaffgagmncgjabDoorM1
import Derived.Test.YtlaffgagmncgjabDoorL2
set_option maxRecDepth 20000
set_option maxHeartbeats 3200000
namespace Go.Proofs.YtlaffgagmncgjabDoor
open Go Go.Pat Go.Proofs
def readyS (D:List Nat) (p:PatchD):Bool:=!D.contains p.id&&p.needs.all fun n=>D.contains n
def nextS (ps:List PatchD) (D:List Nat):Option PatchD:=ps.find? (readyS D)
structure BN where
 (D:List Nat) (T:List UInt8)
def bunStep (ps:List PatchD) (s:BN):BN:=match nextS ps s.D with
 | some p=>⟨s.D++[p.id],s.T++textS p⟩
 | none=>s
def bunTo (ps:List PatchD):Nat→BN
 | 0=>⟨[],[]⟩
 | k+1=>bunStep ps (bunTo ps k)
def bundleS (ps:List PatchD):List UInt8:=(bunTo ps ps.length).T
theorem text_1400 {ps:List PatchD} (h:Inv ps) {p:PatchD} (hp:p∈ps):(textS p).length≤1400:=by
 obtain ⟨t,ht,_⟩:=h.fine p hp
 rw [parse_text ht]
 unfold parseS at ht
 split at ht
 ·cases ht
 ·omega
theorem next_ex {ps:List PatchD} (hinv:Inv ps) {D:List Nat} (hl:D.length<ps.length):∃ p,nextS ps D=some p:=by
 have hund:∃ p∈ps,p.id∉D:=by
  apply Classical.byContradiction
  intro hno
  have:=nodup_len (m:=D) hinv.nodup fun x hx=>by
   obtain ⟨p,hp,e⟩:=List.mem_map.1 hx
   apply Classical.byContradiction
   intro hx'
   exact hno ⟨p,hp,by rw [e];exact hx'⟩
  simp at this
  omega
 have dec:∀ p,∃ f:Nat→Bool,∀ x,f x=true↔Past1 ps p x:=fun p=>⟨fun x=>@decide (Past1 ps p x) (Classical.propDecidable _),fun x=>by rw [@decide_eq_true_iff _ (Classical.propDecidable _)]⟩
 have hf:=Classical.axiomOfChoice dec
 obtain ⟨f,hf⟩:=hf
 have key:∀ m p,((ps.map PatchD.id).filter (f p)).length≤m→p∈ps→p.id∉D→∃ q∈ps,readyS D q=true:=by
  intro m
  induction m with
  | zero =>
   intro p hm hp hpd
   refine ⟨p,hp,?_⟩
   unfold readyS
   simp only [Bool.and_eq_true,Bool.not_eq_true',List.all_eq_true]
   refine ⟨by simpa using hpd,fun n hn'=>?_⟩
   exfalso
   have hni:=hinv.needs p hp n hn'
   have:n∈(ps.map PatchD.id).filter (f p):=List.mem_filter.2 ⟨hni,(hf p n).2 ⟨n,hn',.refl⟩⟩
   have:=List.length_pos_of_mem this
   omega
  | succ m ih =>
   intro p hm hp hpd
   by_cases hall:∀ n∈p.needs,n∈D
   ·refine ⟨p,hp,?_⟩
    unfold readyS
    simp only [Bool.and_eq_true,Bool.not_eq_true',List.all_eq_true]
    exact ⟨by simpa using hpd,fun n hn'=>by simpa using hall n hn'⟩
   ·simp only [Classical.not_forall] at hall
    obtain ⟨n,hn',hnd⟩:=hall
    obtain ⟨q,hq,e⟩:=List.mem_map.1 (hinv.needs p hp n hn')
    refine ih q ?_ hq (by rw [e];exact hnd)
    have hlt:=filter_lt (p:=f q) (q:=f p) (ps.map PatchD.id) (fun x _ hx=>by
     obtain ⟨k,hk,hr⟩:=(hf q x).1 hx
     refine (hf p x).2 ⟨n,hn',?_⟩
     exact fun S r s=>hr S (s n k q r hq e hk) s) q.id (List.mem_map.2 ⟨q,hq,rfl⟩) ((hf p q.id).2 ⟨n,hn',by rw [e];exact .refl⟩) (by
     cases h:f q q.id
     ·rfl
     ·exact absurd ((hf q q.id).1 h) (hinv.acyc q hq))
    omega
 obtain ⟨p,hp,hpd⟩:=hund
 obtain ⟨q,hq,hr⟩:=key _ p (Nat.le_refl _) hp hpd
 cases h:nextS ps D with
 | some r=>exact ⟨r,rfl⟩
 | none =>
  unfold nextS at h
  rw [List.find?_eq_none] at h
  exact absurd hr (h q hq)
theorem next_some {ps:List PatchD} {D:List Nat} {p:PatchD} (h:nextS ps D=some p):p∈ps∧p.id∉D∧∀ n∈p.needs,n∈D:=by
 unfold nextS at h
 refine ⟨List.mem_of_find?_eq_some h,?_⟩
 have:=List.find?_some h
 unfold readyS at this
 simp only [Bool.and_eq_true,Bool.not_eq_true',List.all_eq_true] at this
 exact ⟨by simpa using this.1,fun n hn=>by simpa using this.2 n hn⟩
structure BunOK (ps:List PatchD) (k:Nat):Prop where
 len:(bunTo ps k).D.length=k
 nodup:(bunTo ps k).D.Nodup
 sub:∀ n∈(bunTo ps k).D,n∈ps.map PatchD.id
 tl:(bunTo ps k).T.length≤1400*k
theorem bun_step {ps:List PatchD} {k:Nat} {p:PatchD} (h:nextS ps (bunTo ps k).D=some p):bunTo ps (k+1)=⟨(bunTo ps k).D++[p.id],(bunTo ps k).T++textS p⟩:=by
 show bunStep ps (bunTo ps k)=_
 unfold bunStep;rw [h]
theorem bun_ok {ps:List PatchD} (hinv:Inv ps):∀ k,k≤ps.length→BunOK ps k:=by
 intro k
 induction k with
 | zero=>intro _;exact ⟨rfl,by simp [bunTo],by simp [bunTo],by simp [bunTo]⟩
 | succ k ih =>
  intro hk
  have i:=ih (by omega)
  obtain ⟨p,hp⟩:=next_ex hinv (D:=(bunTo ps k).D) (by rw [i.len];omega)
  obtain ⟨h1,h2,_⟩:=next_some hp
  have e:=bun_step hp
  refine ⟨by rw [e];simp [i.len],?_,?_,?_⟩
  ·rw [e]
   show ((bunTo ps k).D++[p.id]).Nodup
   rw [List.nodup_append]
   exact ⟨i.nodup,by simp,fun x hx y hy e'=>by simp at hy;subst hy;subst e';exact h2 hx⟩
  ·rw [e]
   intro n hn
   rcases List.mem_append.1 hn with e' | e'
   ·exact i.sub n e'
   ·simp at e';subst e';exact List.mem_map.2 ⟨p,h1,rfl⟩
  ·rw [e]
   have:=text_1400 hinv h1
   have:=i.tl
   simp only [List.length_append];omega
theorem bun_end {ps:List PatchD} (hinv:Inv ps):nextS ps (bunTo ps ps.length).D=none:=by
 have i:=bun_ok hinv ps.length (Nat.le_refl _)
 cases h:nextS ps (bunTo ps ps.length).D with
 | none=>rfl
 | some p =>
  obtain ⟨h1,h2,_⟩:=next_some h
  exfalso
  have:=nodup_len (l:=p.id::(bunTo ps ps.length).D) (m:=ps.map PatchD.id) (by simp [h2,i.nodup]) fun x hx=>by
   rcases List.mem_cons.1 hx with e | e
   ·rw [e];exact List.mem_map.2 ⟨p,h1,rfl⟩
   ·exact i.sub x e
  simp [i.len] at this
  omega
theorem plain_hasAll:Plain Tryd.prog 80:=⟨_,Tryd.func80,by decide +kernel,by rfl⟩
theorem plain_bnext:Plain Tryd.prog 69:=⟨_,Tryd.func69,by decide +kernel,by rfl⟩
theorem plain_bWrite:Plain Tryd.prog 49:=⟨_,Tryd.func49,by decide +kernel,by rfl⟩
theorem plain_xBundle:Plain Tryd.prog 28:=⟨_,Tryd.func28,by decide +kernel,by rfl⟩
theorem hasAll_ret (D N:List Nat) (dv nv:Value) (h:Heap) (hd:Rd h 1 dv D.length (ints D)) (hn:Rd h 1 nv N.length (ints N)) (hdl:D.length≤1000000) (hnl:N.length≤1000000) :
  Ret Tryd.prog 80 #[dv,nv] h fun v h'=>h'=h∧v = .bool (N.all fun n=>D.contains n):=by
 refine Ret.of_body Tryd.func80 rfl Tryd.ntmps80 rfl rfl ?_
 obtain ⟨ad,cap,hv⟩:=hn.form
 subst hv
 refine zgo ?_
 refine Runs.loop (X:=Nat) (fun i=>[(0,dv),(1,.slice ad N.length cap),(5,.int .i64 (i:Int))])
  (fun i h'=>h=h'∧i≤N.length∧∀ n∈N.take i,D.contains n=true) (fun i=>N.length-i) 0 ⟨rfl,rfl,rfl,trivial⟩ ⟨rfl,Nat.zero_le _,by simp⟩ ?_
 rintro i _ ⟨rfl,hi,hall⟩ ih
 refine zgo ?_
 refine Runs.cond_dec rfl (fun hlt=>?_) (fun hge=>?_)
 rotate_left
 ·rw [List.take_of_length_le (by omega)] at hall
  refine zgo ?_
  refine Runs.ret Tryd.func80 (ret1 Tryd.results80 rfl) ⟨rfl,?_⟩
  congr 1;symm
  exact List.all_eq_true.2 hall
 have hlt':i<N.length:=by omega
 have hget:N[i]? = some N[i]:=List.getElem?_eq_getElem hlt'
 have hmem:N[i]∈N:=List.getElem_mem hlt'
 have hsn:N.take (i+1)=N.take i++[N[i]]:=List.take_succ_eq_append_getElem hlt'
 generalize N[i]=n at *
 obtain ⟨b0,p0,cap0,hv0,_,hcell⟩:=hn.cell (ints_get hget)
 cases hv0
 refine zgo ?_
 refine WO.call rfl rfl rfl rfl plain_Has rfl (Has_ret D dv (n:Int) _ hd hdl) fun v3 h3 ⟨hh3,hv3⟩=>?_
 subst hh3 hv3
 rw [hasI_nat]
 cases hc:D.contains n
 ·refine zgo ?_
  refine Runs.ret Tryd.func80 (ret1 Tryd.results80 rfl) ⟨rfl,?_⟩
  congr 1;symm
  exact List.all_eq_false.2 ⟨n,hmem,by rw [hc];simp⟩
 ·refine zgo ?_
  refine ih (i+1) _ _ (by omega) ⟨rfl,rfl,rfl,trivial⟩ ⟨rfl,hlt',fun z hz=>?_⟩
  rw [hsn] at hz
  rcases List.mem_append.1 hz with e | e
  ·exact hall z e
  ·simp at e;subst e;exact hc
def nextX (l:List PD3) (D:List Nat):Option PD3:=l.find? fun y=>readyS D y.p
theorem nextX_map (l:List PD3) (D:List Nat):nextS (l.map PD3.p) D=(nextX l D).map PD3.p:=by
 unfold nextS nextX
 rw [List.find?_map];rfl
theorem bnext_ret {F:Nat→Prop} (l:List PD3) (lv:Value) (D:List Nat) (dv:Value) (h:Heap) (hs:XS F h lv l) (hd:Rd h 1 dv D.length (ints D)) (hl:l.length≤1000) (hdl:D.length≤1000000) (hnl:∀ y∈l,y.p.needs.length≤1000) :
  Ret Tryd.prog 69 #[lv,dv] h fun v h'=>Ext h h'∧found (nextX l D) v:=by
 obtain ⟨ad,cap,hv⟩:=hs.rd.form
 subst hv
 refine Ret.of_body Tryd.func69 rfl Tryd.ntmps69 rfl rfl ?_
 refine zgo ?_
 refine WO.alloc tab_ok rfl rfl rfl rfl rfl rfl fun h1 hb1 hx1 hs1=>?_
 refine zgo ?_
 refine Runs.loop (X:=Nat) (fun i=>[(0,.slice ad l.length cap),(1,dv),(4,.pointer (some ⟨h.size,0,none⟩)),(6,.int .i64 (i:Int))])
  (fun i h'=>Ext h1 h'∧i≤l.length∧∀ y∈l.take i,readyS D y.p=false) (fun i=>l.length-i) 0 ⟨rfl,rfl,rfl,rfl,trivial⟩ ⟨Fr.refl _ _,Nat.zero_le _,by simp⟩ ?_
 rintro i h2 ⟨hx2,hi,hno⟩ ih
 have hx02:=hx1.trans hx2
 have hb2:=hb1.ext hx2
 have hz1:=hx1.size
 refine zgo ?_
 refine Runs.cond_dec rfl (fun hlt=>?_) (fun hge=>?_)
 rotate_left
 ·rw [List.take_of_length_le (by omega)] at hno
  refine zgo ?_
  refine WO.put tab_ok rfl rfl rfl rfl rfl rfl rfl rfl (one3 _ _ _ _ _ _ _) hb2 rfl fun h3 hb3 hx3 hs3=>?_
  refine zgo ?_
  refine Runs.ret Tryd.func69 (retc tab_ok Tryd.results69 rfl rfl rfl rfl rfl hb3.cells) ⟨Fr.wr hx02 hx3 (Nat.le_refl _),?_⟩
  have:nextX l D=none:=by
   unfold nextX
   rw [List.find?_eq_none]
   intro y hy;simp [hno y hy]
  rw [this]
  rfl
 have hlt':i<l.length:=by omega
 have hget:l[i]? = some l[i]:=List.getElem?_eq_getElem hlt'
 have hmem:l[i]∈l:=List.getElem_mem hlt'
 have htk:l.take (i+1)=l.take i++[l[i]]:=List.take_succ_eq_append_getElem hlt'
 generalize l[i]=y at *
 obtain ⟨b0,p0,cap0,hv,hc,hpv⟩:=(hs.ext hx02).get hget
 cases hv
 have next:readyS D y.p=false→∀ z∈l.take (i+1),readyS D z.p=false:=fun hr z hz=>by
  rw [htk] at hz
  rcases List.mem_append.1 hz with e | e
  ·exact hno z e
  ·simp at e;subst e;exact hr
 refine zgo ?_
 refine zv hpv.one fun h3 hb3 hx3 hs3=>?_
 have hx03:=hx02.trans hx3
 have g0:=hb3.cell (j:=0) rfl
 have g1:=hb3.cell (j:=1) rfl
 refine zgo ?_
 refine WO.call rfl rfl rfl rfl plain_Has rfl (Has_ret D dv (y.p.id:Int) _ (hd.ext hx03) hdl) fun v4 h4 ⟨hh4,hv4⟩=>?_
 subst hh4 hv4
 rw [hasI_nat]
 cases hD:D.contains y.p.id
 rotate_left
 ·refine zgo ?_
  exact ih (i+1) _ _ (by omega) ⟨rfl,rfl,rfl,rfl,trivial⟩ ⟨hx2.trans hx3,hlt',next (by unfold readyS;rw [hD];rfl)⟩
 refine zgo ?_
 refine WO.call rfl rfl rfl rfl plain_hasAll rfl (hasAll_ret D y.p.needs dv y.nv _ (hd.ext hx03) (hpv.needs.ext hx3) hdl (by have:=hnl y hmem;omega)) fun v5 h5 ⟨hh5,hv5⟩=>?_
 subst hh5 hv5
 cases hA:y.p.needs.all fun n=>D.contains n
 ·refine zgo ?_
  exact ih (i+1) _ _ (by omega) ⟨rfl,rfl,rfl,rfl,trivial⟩ ⟨hx2.trans hx3,hlt',next (by unfold readyS;rw [hA];simp)⟩
 ·have k3:Cells h5 h2.size 0 y.cells:=hb3.cells
  have hb5:=hb2.ext hx3
  refine zgo ?_
  refine WO.put tab_ok rfl rfl rfl rfl rfl rfl rfl rfl hpv.one hb5 rfl fun h6 hb6 hx6 hs6=>?_
  refine zgo ?_
  refine Runs.ret Tryd.func69 (retc tab_ok Tryd.results69 rfl rfl rfl rfl rfl hb6.cells) ⟨Fr.wr hx03 hx6 (Nat.le_refl _),?_⟩
  rw [show nextX l D=some y from find_first hget (by unfold readyS;rw [hD,hA];rfl) hno]
  rfl
theorem bWrite_ret {T:Heap→Prop} (hI:ItoaOK T) {F:Nat→Prop} (l:List PD3) (lv:Value) (h:Heap) (ht:T h) (hs:XS F h lv l) (hinv:Inv (l.map PD3.p)) :
  Ret Tryd.prog 49 #[lv] h fun v h'=>Ext h h'∧v = .string (str (bundleS (l.map PD3.p))):=by
 refine Ret.of_body Tryd.func49 rfl Tryd.ntmps49 rfl rfl ?_
 have hll:l.length≤20:=by have:=hinv.len;simpa using this
 have hnl:∀ y∈l,y.p.needs.length≤1000:=fun y hy=>by have:=(hinv.ok (List.mem_map.2 ⟨y,hy,rfl⟩)).nlen;omega
 have hpl:(l.map PD3.p).length=l.length:=List.length_map ..
 refine zgo ?_
 refine Runs.loop (X:=IV) (fun u=>[(0,lv),(3,.string (str (bunTo (l.map PD3.p) u.i).T)),(4,u.v)])
  (fun u h'=>u.i≤l.length∧Ext h h'∧Own h' 3 1 u.v (bunTo (l.map PD3.p) u.i).D.length (ints (bunTo (l.map PD3.p) u.i).D)∧(∀ k,u.v.ownBlock=some k→h.size≤k)) (fun u=>l.length-u.i) ⟨0,.slice none 0 0⟩ ⟨rfl,rfl,rfl,trivial⟩ ⟨Nat.zero_le _,Fr.refl _ _,Own.nil _ _ _,fun k hk=>by simp [Value.ownBlock] at hk⟩ ?_
 rintro ⟨i,v⟩ h1 ⟨hi,hx1,ho1,hm1⟩ ih
 dsimp only at hi hx1 ho1 hm1 ih ⊢
 have hok:=bun_ok hinv i (by omega)
 have hDl:=hok.len
 have hTl:=hok.tl
 have hz1:=hx1.size
 refine zgo ?_
 refine WO.call rfl rfl rfl rfl plain_bnext rfl (bnext_ret l lv (bunTo (l.map PD3.p) i).D v _ (hs.ext hx1) ho1.rd (by omega) (by omega) hnl) fun v2 h2 ⟨hx2,hf2⟩=>?_
 have hx02:=hx1.trans hx2
 cases hN:nextX l (bunTo (l.map PD3.p) i).D with
 | none =>
  rw [hN] at hf2
  have hf3:v2 = .tuple #[.agg #[.int .i64 0,.slice none 0 0,.slice none 0 0],.bool false]:=hf2
  subst hf3
  have hie:i=l.length:=by
   apply Classical.byContradiction
   intro hne
   obtain ⟨p,hp⟩:=next_ex hinv (D:=(bunTo (l.map PD3.p) i).D) (by rw [hok.len];omega)
   rw [nextX_map,hN] at hp
   cases hp
  subst hie
  refine zgo ?_
  refine zv (one3 _ _ _ _ _ _ _) fun h3 hb3 hx3 hs3=>?_
  refine zgo ?_
  refine Runs.ret Tryd.func49 (ret1 Tryd.results49 rfl) ⟨hx02.trans hx3,?_⟩
  unfold bundleS
  rw [hpl]
 | some y =>
  rw [hN] at hf2
  have hf3:v2 = .tuple #[.agg y.cells.toArray,.bool true]:=hf2
  subst hf3
  have hnS:nextS (l.map PD3.p) (bunTo (l.map PD3.p) i).D=some y.p:=by rw [nextX_map,hN];rfl
  obtain ⟨hyp,hyd,_⟩:=next_some hnS
  have hym:y∈l:=List.mem_of_find?_eq_some hN
  have hst:=bun_step hnS
  have hlt:i<l.length:=by
   apply Classical.byContradiction
   intro hge
   have hie:i=(l.map PD3.p).length:=by omega
   have:=bun_end hinv
   rw [← hie,hnS] at this
   cases this
  have hpy:=hs.pv y hym
  have htl:=text_1400 hinv hyp
  refine zgo ?_
  refine zv hpy.one fun h3 hb3 hx3 hs3=>?_
  have hx03:=hx02.trans hx3
  have k3:Cells h3 h2.size 0 y.cells:=hb3.cells
  refine zgo ?_
  refine WO.call rfl rfl rfl rfl plain_Write rfl (Write_ret hI y _ (hI.1 _ _ ht hx03) (hpy.ext hx03) (hinv.ok hyp) (hinv.kind hyp)) fun v4 h4 ⟨hx4,hv4⟩=>?_
  subst hv4
  have g4:=hx4.xc (hb3.cell (j:=0) rfl)
  have hz2:=hx2.size
  have hz3:=hx3.size
  have hz4:=hx4.size
  have ho4:=ho1.fr (hx2.trans (hx3.trans hx4)) (by simp)
  refine zgo ?_
  refine zh (one_int _) ho4 ?_
  intro v5 h5 o1 o2 o3
  refine zgo ?_
  refine ih ⟨i+1,v5⟩ _ _ (by dsimp only;omega) ⟨rfl,by dsimp only;rw [hst];rfl,rfl,trivial⟩ ⟨hlt,(hx03.trans hx4).trans_new (o2.mono fun k _ e=>.inr (hm1 k e)),?_,fun k hk=>?_⟩
  ·dsimp only
   rw [hst]
   dsimp only
   rw [ints_append,List.length_append]
   exact o1
  ·rcases o3 k hk with e | e
   ·exact hm1 k e
   ·omega
theorem xBundle_ret {T:Heap→Prop} (hI:ItoaOK T) {F:Nat→Prop} (xb:Nat) (l:List PD3) (lv:Value) (h:Heap) (ht:T h) (hb:Blk h xb [lv] 65) (hs:XS F h lv l) (hinv:Inv (l.map PD3.p)) :
  Ret Tryd.prog 28 #[.pointer (some ⟨xb,0,none⟩)] h fun v h'=>Ext h h'∧v = .string (str (bundleS (l.map PD3.p))):=by
 refine Ret.of_body Tryd.func28 rfl Tryd.ntmps28 rfl rfl ?_
 have x0:=hb.cell (j:=0) rfl
 refine zgo ?_
 refine WO.call rfl rfl rfl rfl plain_bWrite rfl (bWrite_ret hI l lv _ ht hs hinv) fun v1 h1 ⟨hx1,hv1⟩=>?_
 subst hv1
 refine zgo ?_
 exact Runs.ret Tryd.func28 (ret1 Tryd.results28 rfl) ⟨hx1,rfl⟩
theorem got_iff {bs:List Nat} {ps:List PatchD} {n:Nat} {v:Value} (h:Got bs ps (n:Int) v):(n∈ps.map PatchD.id∧∃ b,v = .pointer (some ⟨b,0,none⟩))∨(n∉ps.map PatchD.id∧v = .pointer none):=by
 rcases h with ⟨i,b,p,_,hp,hn,rfl⟩ | ⟨hno,rfl⟩
 ·exact .inl ⟨List.mem_map.2 ⟨p,List.mem_of_getElem? hp,by omega⟩,b,rfl⟩
 ·refine .inr ⟨fun hm=>?_,rfl⟩
  obtain ⟨p,hp,e⟩:=List.mem_map.1 hm
  exact hno p hp (by omega)
structure MBX where
 (k db:Nat) (dbs:List Nat) (dn:List PatchD)
def head6:List UInt8:=[112,97,116,99,104,32]
def cutAt (t:List UInt8) (n:Nat):Bool:=decide (t[n-1]? = some 10)&&decide ((t.drop n).take 6=head6)
structure IsEnd (t:List UInt8) (n:Nat):Prop where
 pos:1≤n
 le:n≤t.length
 no:∀ j,1≤j→j<n→cutAt t j=false
 fin:n=t.length∨cutAt t n=true
def cutN (t:List UInt8):Nat:=((List.range t.length).find? fun n=>decide (1≤n)&&cutAt t n).getD t.length
theorem cutN_eq {t:List UInt8} {n:Nat} (h:IsEnd t n):cutN t=n:=by
 unfold cutN
 by_cases e:n=t.length
 ·have:((List.range t.length).find? fun n=>decide (1≤n)&&cutAt t n)=none:=by
   rw [List.find?_eq_none]
   intro j hj
   have hj':j<t.length:=by simpa using hj
   by_cases h1:1≤j
   ·simp [h.no j h1 (by omega)]
   ·simp [h1]
  rw [this];exact e.symm
 ·have hc:cutAt t n=true:=h.fin.elim (fun e'=>absurd e' e) id
  have hl:=h.le
  have hp:=h.pos
  have:((List.range t.length).find? fun n=>decide (1≤n)&&cutAt t n)=some n:=find_first (i:=n) (by rw [List.getElem?_range (by omega)]) (by simp [hc,hp]) (fun y hy=>by
   rw [List.take_range] at hy
   have hy':y<n:=by have:=List.mem_range.1 hy;omega
   by_cases h1:1≤y
   ·simp [h.no y h1 hy']
   ·simp [h1])
  rw [this];rfl
theorem cutN_pos {t:List UInt8} (h:t≠[]):1≤cutN t:=by
 unfold cutN
 cases hf:(List.range t.length).find? fun n=>decide (1≤n)&&cutAt t n with
 | none=>have:=List.length_pos_iff.2 h;exact this
 | some n =>
  have:=List.find?_some hf
  simp at this
  exact this.1
theorem cutAt_short {t:List UInt8} {n:Nat} (h:t.length<n+6):cutAt t n=false:=by
 unfold cutAt
 rw [Bool.and_eq_false_iff]
 right
 apply decide_eq_false
 intro e
 have:=congrArg List.length e
 simp [head6] at this
 omega
def cutsF:Nat→List UInt8→List (List UInt8)
 | 0,_=>[]
 | f+1,t=>if t=[] then [] else t.take (cutN t)::cutsF f (t.drop (cutN t))
theorem cutsF_nil (f:Nat):cutsF f []=[]:=by
 cases f with
 | zero=>rfl
 | succ f=>unfold cutsF;rw [if_pos rfl]
theorem cutsF_eq:∀ (f g:Nat) (t:List UInt8),t.length≤f→t.length≤g→cutsF f t=cutsF g t:=by
 intro f
 induction f with
 | zero =>
  intro g t h1 _
  have:t=[]:=List.eq_nil_of_length_eq_zero (by omega)
  rw [this,cutsF_nil,cutsF_nil]
 | succ f ih =>
  intro g t h1 h2
  by_cases ht:t=[]
  ·rw [ht,cutsF_nil,cutsF_nil]
  ·have hp:=cutN_pos ht
   have hl:=List.length_pos_iff.2 ht
   cases g with
   | zero=>omega
   | succ g =>
    unfold cutsF
    rw [if_neg ht,if_neg ht,ih g (t.drop (cutN t)) (by rw [List.length_drop];omega) (by rw [List.length_drop];omega)]
def cutsS (t:List UInt8):List (List UInt8):=cutsF t.length t
theorem cuts_nil:cutsS []=[]:=rfl
theorem cuts_cons {t:List UInt8} (h:t≠[]):cutsS t=t.take (cutN t)::cutsS (t.drop (cutN t)):=by
 have hp:=cutN_pos h
 have hl:=List.length_pos_iff.2 h
 unfold cutsS
 cases hn:t.length with
 | zero=>omega
 | succ m =>
  conv=>lhs;unfold cutsF
  rw [if_neg h,cutsF_eq m (t.drop (cutN t)).length _ (by rw [List.length_drop];omega) (Nat.le_refl _)]
def runS:List PatchD→List (List UInt8)→Nat × List PatchD
 | ps,[]=>(0,ps)
 | ps,x::xs=>if (applyS ps x).1=0 then runS (applyS ps x).2 xs else ((applyS ps x).1,[])
theorem run_cons (ps:List PatchD) (x:List UInt8) (xs:List (List UInt8)):runS ps (x::xs)=if (applyS ps x).1=0 then runS (applyS ps x).2 xs else ((applyS ps x).1,[]):=rfl
def loadS (t:List UInt8):Nat × List PatchD:=if 28000<t.length then (1,[]) else runS [] (cutsS t)
def loadedS (t:List UInt8):Nat × List PatchD:=if (loadS t).1=0∧bundleS (loadS t).2≠t then (2,[]) else loadS t
theorem inv_run {xs:List (List UInt8)}:∀ {ps:List PatchD},Inv ps→Inv (runS ps xs).2:=by
 induction xs with
 | nil=>intro ps h;exact h
 | cons x xs ih =>
  intro ps h
  unfold runS
  split
  ·exact ih (inv_apply h x)
  ·exact Inv.nil
theorem inv_load (t:List UInt8):Inv (loadS t).2:=by
 unfold loadS
 split
 ·exact Inv.nil
 ·exact inv_run Inv.nil
theorem inv_loaded (t:List UInt8):Inv (loadedS t).2:=by
 unfold loadedS
 split
 ·exact Inv.nil
 ·exact inv_load t
theorem u8_ten {c:UInt8}:decide ((c.toNat:Int)=10)=decide (some c=some (10:UInt8)):=by
 rw [Bool.eq_iff_iff,decide_eq_true_iff,decide_eq_true_iff,Option.some.injEq]
 exact ⟨fun e=>UInt8.toNat.inj (by simpa using (show c.toNat=10 by omega)),fun e=>by rw [e];rfl⟩
structure MLX where
 (t:List UInt8) (b:Nat) (bs:List Nat) (ps:List PatchD)
theorem plain_bend:Plain Tryd.prog 68:=⟨_,Tryd.func68,by decide +kernel,by rfl⟩
theorem plain_bCut:Plain Tryd.prog 48:=⟨_,Tryd.func48,by decide +kernel,by rfl⟩
theorem plain_xLoad:Plain Tryd.prog 27:=⟨_,Tryd.func27,by decide +kernel,by rfl⟩
theorem bend_ret (t:List UInt8) (a:Nat) (h:Heap) (hl:t.length≤16777216) (ha:a<t.length) :
  Ret Tryd.prog 68 #[.string (str t),.int .i64 (a:Int)] h fun v h'=>h'=h∧v = .int .i64 ((a+cutN (t.drop a):Nat):Int):=by
 refine Ret.of_body Tryd.func68 rfl Tryd.ntmps68 rfl rfl ?_
 refine zgo ?_
 refine Runs.loop (X:=Nat) (fun n=>[(0,.string (str t)),(5,.int .i64 ((a+n+1:Nat):Int))])
  (fun n h'=>h=h'∧a+n+1≤t.length∧∀ j,1≤j→j<n+1→cutAt (t.drop a) j=false) (fun n=>t.length-n) 0 ⟨rfl,rfl,trivial⟩ ⟨rfl,by omega,fun j h1 h2=>by omega⟩ ?_
 rintro n _ ⟨rfl,hn,hall⟩ ih
 refine zgo ?_
 refine Runs.cond_dec rfl (fun hlt=>?_) (fun hge=>?_)
 rotate_left
 ·have hend:IsEnd (t.drop a) (t.drop a).length:=⟨by simp;omega,Nat.le_refl _,fun j h1 h2=>by
   by_cases h3:j<n+1
   ·exact hall j h1 h3
   ·exact cutAt_short (by rw [List.length_drop];omega),.inl rfl⟩
  have hcn:=cutN_eq hend
  refine zgo ?_
  refine Runs.ret Tryd.func68 (ret1 Tryd.results68 rfl) ⟨rfl,?_⟩
  rw [hcn,List.length_drop,show a+(t.length-a)=t.length by omega]
 have hget:t[a+n]? = some t[a+n]:=List.getElem?_eq_getElem (by omega)
 have hcut:cutAt (t.drop a) (n+1)=(decide (some t[a+n]=some (10:UInt8))&&decide ((t.take (a+n+1+6)).drop (a+n+1)=head6)):=by
  unfold cutAt
  rw [Nat.add_sub_cancel,List.getElem?_drop,hget,List.drop_drop,List.drop_take,show a+n+1+6-(a+n+1)=6 by omega,Nat.add_assoc]
 generalize t[a+n]=c at *
 refine zgo ?_
 rw [show ((a+n+1:Nat):Int)-1=((a+n:Nat):Int) by omega]
 refine zgo ?_
 rw [u8_ten]
 cases hc:decide (some c=some (10:UInt8))
 ·rw [hc] at hcut
  refine zgo ?_
  refine ih (n+1) _ _ (by omega) ⟨rfl,rfl,trivial⟩ ⟨rfl,by omega,fun j h1 h2=>?_⟩
  rcases Nat.lt_succ_iff_lt_or_eq.1 h2 with e | e
  ·exact hall j h1 e
  ·rw [e,hcut];rfl
 ·rw [hc] at hcut
  refine zgo ?_
  refine WO.val (ov_sslice (i:=a+n+1) (j:=a+n+1+6) tab_ok rfl rfl rfl rfl rfl rfl rfl (by omega) (by omega)) rfl rfl rfl ?_
  refine zgo ?_
  refine Runs.cond_dec rfl (fun heq=>?_) (fun hne=>?_)
  ·have hend:IsEnd (t.drop a) (n+1):=⟨by omega,by rw [List.length_drop];omega,hall,.inr (by rw [hcut,decide_eq_true (show _=head6 from heq)];rfl)⟩
   have hcn:=cutN_eq hend
   refine zgo ?_
   refine Runs.ret Tryd.func68 (ret1 Tryd.results68 rfl) ⟨rfl,?_⟩
   rw [hcn,Nat.add_assoc]
  ·refine zgo ?_
   refine ih (n+1) _ _ (by omega) ⟨rfl,rfl,trivial⟩ ⟨rfl,by omega,fun j h1 h2=>?_⟩
   rcases Nat.lt_succ_iff_lt_or_eq.1 h2 with e | e
   ·exact hall j h1 e
   ·rw [e,hcut,decide_eq_false (show ¬ _=head6 from hne)];rfl
theorem cutN_le {t:List UInt8}:cutN t≤t.length:=by
 unfold cutN
 cases hf:(List.range t.length).find? fun n=>decide (1≤n)&&cutAt t n with
 | none=>exact Nat.le_refl _
 | some n =>
  have:=List.mem_range.1 (List.mem_of_find?_eq_some hf)
  exact Nat.le_of_lt this
structure CutX where
 (a:Nat) (v:Value) (P:List (List UInt8))
theorem bCut_ret (t:List UInt8) (h:Heap) (hl:t.length≤16777216) :
  Ret Tryd.prog 48 #[.string (str t)] h fun v h'=>Ext h h'∧Own h' 9 1 v (cutsS t).length (strs (cutsS t))∧(∀ k,v.ownBlock=some k→h.size≤k)∧(cutsS t).length≤t.length∧∀ x∈cutsS t,x.length≤t.length:=by
 refine Ret.of_body Tryd.func48 rfl Tryd.ntmps48 rfl rfl ?_
 refine zgo ?_
 refine Runs.loop (X:=CutX) (fun u=>[(0,.string (str t)),(3,u.v),(4,.int .i64 (u.a:Int))])
  (fun u h'=>u.a≤t.length∧Ext h h'∧Own h' 9 1 u.v u.P.length (strs u.P)∧(∀ k,u.v.ownBlock=some k→h.size≤k)∧u.P.length≤u.a∧(∀ x∈u.P,x.length≤t.length)∧u.P++cutsS (t.drop u.a)=cutsS t) (fun u=>t.length-u.a) ⟨0,.slice none 0 0,[]⟩ ⟨rfl,rfl,rfl,trivial⟩ ⟨Nat.zero_le _,Fr.refl _ _,Own.nil _ _ _,fun k hk=>by simp [Value.ownBlock] at hk,Nat.le_refl _,by simp,rfl⟩ ?_
 rintro ⟨a,v,P⟩ h1 ⟨ha,hx1,ho1,hm1,hpl,hxl,hcut⟩ ih
 dsimp only at ha hx1 ho1 hm1 hpl hxl hcut ih ⊢
 have hz1:=hx1.size
 obtain ⟨ad,cap,hv⟩:=ho1.rd.form
 subst hv
 refine zgo ?_
 refine Runs.cond_dec rfl (fun hlt=>?_) (fun hge=>?_)
 rotate_left
 ·have hd:t.drop a=[]:=List.drop_eq_nil_of_le (by omega)
  rw [hd,cuts_nil,List.append_nil] at hcut
  subst hcut
  refine zgo ?_
  exact Runs.ret Tryd.func48 (ret1 Tryd.results48 rfl) ⟨hx1,ho1,hm1,by omega,hxl⟩
 have hne:t.drop a≠[]:=fun e=>by have:=congrArg List.length e;simp at this;omega
 have hcp:=cutN_pos hne
 have hcl:=cutN_le (t:=t.drop a)
 rw [List.length_drop] at hcl
 rw [cuts_cons hne,List.drop_drop] at hcut
 refine zgo ?_
 refine WO.call rfl rfl rfl rfl plain_bend rfl (bend_ret t a _ hl (by omega)) fun v2 h2 ⟨hh2,hv2⟩=>?_
 subst hh2 hv2
 generalize cutN (t.drop a)=n at *
 have hsl:(t.take (a+n)).drop a=(t.drop a).take n:=by rw [List.drop_take,show a+n-a=n by omega]
 refine zgo ?_
 rw [hsl]
 refine zh (one_str _) ho1 ?_
 intro v5 h5 o1 o2 o3
 refine zgo ?_
 refine ih ⟨a+n,v5,P++[(t.drop a).take n]⟩ _ _ (by dsimp only;omega) ⟨rfl,rfl,rfl,trivial⟩ ⟨by dsimp only;omega,hx1.trans_new (o2.mono fun k _ e=>.inr (hm1 k e)),?_,fun k hk=>?_,by simp;omega,fun x hx=>?_,by dsimp only;rw [List.append_assoc];exact hcut⟩
 ·dsimp only
  rw [strs_append,List.length_append]
  exact o1
 ·rcases o3 k hk with e | e
  ·exact hm1 k e
  ·omega
 ·rcases List.mem_append.1 hx with e | e
  ·exact hxl x e
  ·simp at e;rw [e];simp;omega
def LoadX (h:Heap) (r:Nat × List PatchD) (v:Value) (h':Heap):Prop :=
 Ext h h'∧((r.1=0∧∃ xb lv l,v = .tuple #[.pointer (some ⟨xb,0,none⟩),.int .i64 0]∧h.size≤xb∧Blk h' xb [lv] 65∧XS (fun k=>New h h' k∧k≠xb) h' lv l∧l.map PD3.p=r.2)∨(r.1≠0∧v = .tuple #[.pointer none,.int .i64 (r.1:Int)]))
structure XLX where
 (i:Nat) (lv:Value) (l:List PD3)
theorem xLoad_ret {T:Heap→Prop} (hI:ItoaOK T) (t:List UInt8) (h:Heap) (ht:T h) (hl:t.length≤16777216) :
  Ret Tryd.prog 27 #[.string (str t)] h (LoadX h (loadedS t)):=by
 refine Ret.of_body Tryd.func27 rfl Tryd.ntmps27 rfl rfl ?_
 refine zgo ?_
 refine Runs.cond_dec rfl (fun hlong=>?_) (fun hshort=>?_)
 ·refine zgo ?_
  refine Runs.ret Tryd.func27 (ret2 Tryd.results27 rfl rfl) ⟨Fr.refl _ _,.inr ?_⟩
  have:loadS t=(1,[]):=by unfold loadS;rw [if_pos (by omega)]
  unfold loadedS
  rw [this,if_neg (fun e=>by cases e.1)]
  exact ⟨by simp,rfl⟩
 have hload:loadS t=runS [] (cutsS t):=by unfold loadS;rw [if_neg (by omega)]
 refine zgo ?_
 refine WO.call rfl rfl rfl rfl plain_xNew rfl (xNew_ret _) fun v1 h1 ⟨hx1,hz1,hv1,hb1⟩=>?_
 subst hv1
 refine zgo ?_
 refine WO.call rfl rfl rfl rfl plain_bCut rfl (bCut_ret t _ hl) fun v2 h2 ⟨hx2,ho2,hm2,hcl,hcx⟩=>?_
 obtain ⟨ad2,cap2,hv2⟩:=ho2.rd.form
 subst hv2
 have hz2:=hx2.size
 have hr2:=ho2.rd
 generalize cutsS t=C at *
 refine zgo ?_
 refine Runs.loop (X:=XLX) (fun u=>[(0,.string (str t)),(4,.pointer (some ⟨h.size,0,none⟩)),(5,.slice ad2 C.length cap2),(6,.int .i64 (u.i:Int))])
  (fun u h'=>u.i≤C.length∧Ext h h'∧Fr (fun k=>k=h.size) h2 h'∧Blk h' h.size [u.lv] 65∧XS (fun k=>New h h' k∧k≠h.size) h' u.lv u.l∧Inv (u.l.map PD3.p)∧runS (u.l.map PD3.p) (C.drop u.i)=runS [] C) (fun u=>C.length-u.i) ⟨0,.slice none 0 0,[]⟩ ⟨rfl,rfl,rfl,rfl,trivial⟩
  ⟨Nat.zero_le _,hx1.trans hx2,Fr.refl _ _,hb1.ext hx2,⟨(Own.nil h2 0 3).rd,by simp,fun k hk=>by simp [Value.ownBlock] at hk⟩,Inv.nil,rfl⟩ ?_
 rintro ⟨i,lv,l⟩ h3 ⟨hi,hx3,hf3,hb3,hs3,hinv,hrun⟩ ih
 dsimp only at hi hx3 hf3 hb3 hs3 hinv hrun ih ⊢
 have hz3:=hf3.size
 have hr3:=hr2.fr hf3 (fun k hk e=>by have:=hm2 k hk;omega)
 refine zgo ?_
 refine Runs.cond_dec rfl (fun hlt=>?_) (fun hge=>?_)
 ·have hlt':i<C.length:=by omega
  have hget:C[i]? = some C[i]:=List.getElem?_eq_getElem hlt'
  have hxl:=hcx C[i] (List.getElem_mem hlt')
  rw [List.drop_eq_getElem_cons hlt',run_cons] at hrun
  generalize C[i]=c at *
  obtain ⟨b0,p0,cap0,hv0,_,hcell⟩:=hr3.cell (strs_get hget)
  cases hv0
  refine zgo ?_
  refine WO.call rfl rfl rfl rfl plain_xApply rfl (xApply_ret hI (F:=fun k=>New h h3 k∧k≠h.size) h.size l lv c _ (hI.1 _ _ ht hx3) hb3 hs3 (fun k hk=>hk.2) hinv (by omega)) fun v5 h5 ⟨hf5,hv5,lv5,l5,hb5,hs5,hps5⟩=>?_
  subst hv5
  have hx5:Ext h h5:=hx3.wr hf5 (Nat.le_refl _)
  by_cases he:(applyS (l.map PD3.p) c).1=0
  ·rw [if_pos he] at hrun
   rw [he]
   refine zgo ?_
   refine ih ⟨i+1,lv5,l5⟩ _ _ (by dsimp only;omega) ⟨rfl,rfl,rfl,rfl,trivial⟩ ⟨hlt',hx5,hf3.trans hf5,hb5,?_,by dsimp only;rw [hps5];exact inv_apply hinv _,by dsimp only;rw [hps5];exact hrun⟩
   refine hs5.mono fun k e=>?_
   rcases e with e | e
   ·exact ⟨e.1.up hf5,e.2⟩
   ·exact ⟨e.dn hx3,fun e'=>by have:=e.1;omega⟩
  ·rw [if_neg he] at hrun
   have hd:decide (((applyS (l.map PD3.p) c).1:Int)=0)=false:=decide_eq_false (by omega)
   refine zgo ?_
   rw [hd]
   refine zgo ?_
   refine Runs.ret Tryd.func27 (ret2 Tryd.results27 rfl rfl) ⟨hx5,.inr ?_⟩
   unfold loadedS
   rw [hload,← hrun,if_neg (fun e=>he e.1)]
   exact ⟨he,rfl⟩
 rw [List.drop_eq_nil_of_le (by omega)] at hrun
 have hld:loadS t=(0,l.map PD3.p):=by rw [hload,← hrun];rfl
 refine zgo ?_
 refine WO.call rfl rfl rfl rfl plain_xBundle rfl (xBundle_ret hI h.size l lv _ (hI.1 _ _ ht hx3) hb3 hs3 hinv) fun v4 h4 ⟨hx4,hv4⟩=>?_
 subst hv4
 refine zgo ?_
 refine Runs.cond_ndec rfl (fun hne=>?_) (fun heq=>?_)
 ·refine zgo ?_
  refine Runs.ret Tryd.func27 (ret2 Tryd.results27 rfl rfl) ⟨hx3.trans hx4,.inr ?_⟩
  unfold loadedS
  rw [hld,if_pos ⟨rfl,hne⟩]
  exact ⟨by simp,rfl⟩
 ·refine zgo ?_
  refine Runs.ret Tryd.func27 (ret2 Tryd.results27 rfl rfl) ⟨hx3.trans hx4,.inl ?_⟩
  unfold loadedS
  rw [hld,if_neg (fun e=>e.2 heq)]
  exact ⟨rfl,h.size,lv,l,rfl,Nat.le_refl _,hb3.ext hx4,(hs3.ext hx4).mono fun k e=>⟨e.1.up hx4,e.2⟩,rfl⟩
end Go.Proofs.YtlaffgagmncgjabDoor
