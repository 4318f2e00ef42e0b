import Derived.Test.YtlaffgagmncgjaaGreatDoorT9
set_option maxRecDepth 20000
set_option maxHeartbeats 1600000
namespace Go.Proofs.YtlaffgagmncgjaaGreatDoor
open Tryz Go Go.Pat Go.Proofs
theorem plain105:Plain Tryz.prog 139:=⟨_,func139,by decide +kernel,by rfl⟩
theorem plain78:Plain Tryz.prog 91:=⟨_,func91,by decide +kernel,by rfl⟩
theorem plain106:Plain Tryz.prog 140:=⟨_,func140,by decide +kernel,by rfl⟩
theorem one_linesC (l:List LineD):One (linesC l):=by
 intro u hu
 simp only [linesC,List.mem_flatMap] at hu
 obtain ⟨x,_,hx⟩:=hu
 exact x.one u hx
theorem lines_ret {F:Nat→Prop} (b:Nat) (bs:List Nat) (ps:List PatchD) (h:Heap) (hs:SA F h b bs ps) (hl:bs.length≤100) (hcl:∀ p∈ps,p.changes.length≤1000):Ret Tryz.prog 73 #[.pointer (some ⟨b,0,none⟩)] h fun v h' =>
  Ext h h'∧Own h' 127 7 v (linesS ps).length (linesC (linesS ps))∧Moved h (.slice none 0 0) v:=by
 refine Ret.of_body func73 rfl ntmps73 rfl rfl ?_
 obtain ⟨lv,hc,hr,hps,_⟩:=hs
 obtain ⟨ad,cap,hv⟩:=hr.form
 subst hv
 have f0:=hc.head
 refine zgo ?_
 refine Runs.loop (X:=IV) (fun x=>[(3,x.v),(9,.slice ad bs.length cap),(10,.int .i64 (bs.length:Int)),(11,.int .i64 (x.i:Int))])
  (fun x h'=>x.i≤bs.length∧Ext h h'∧Own h' 127 7 x.v (linesS (ps.take x.i)).length (linesC (linesS (ps.take x.i)))∧(∀ k,x.v.ownBlock=some k→h.size≤k)∧(linesS (ps.take x.i)).length≤1000*x.i)
  (fun x=>bs.length-x.i) ⟨0,.slice none 0 0⟩ ⟨rfl,rfl,rfl,rfl,trivial⟩ ⟨Nat.zero_le _,Fr.refl _ _,Own.nil _ _ _,fun k hk=>by simp [Value.ownBlock] at hk,by simp [linesS]⟩ ?_
 rintro ⟨i,v⟩ h2 ⟨hi,hx2,ho2,hm2,hll⟩ ih
 dsimp only at hi hx2 ho2 hm2 hll ih ⊢
 refine zgo ?_
 refine Runs.cond_dec rfl (fun hlt=>?_) (fun hge=>?_)
 ·have hlt':i<bs.length:=by omega
  have hltp:i<ps.length:=by rw [← hps.1];exact hlt'
  have hget:bs[i]? = some bs[i]:=List.getElem?_eq_getElem hlt'
  have hgetp:ps[i]? = some ps[i]:=List.getElem?_eq_getElem hltp
  have hsn:linesS (ps.take (i+1))=linesS (ps.take i)++linesOfS ps[i]:=by rw [List.take_succ_eq_append_getElem hltp];simp only [linesS,List.flatMap_append,List.flatMap_cons,List.flatMap_nil,List.append_nil]
  have hpl:=hcl ps[i] (List.getElem_mem hltp)
  generalize bs[i]=bb at *
  generalize ps[i]=p at *
  have hpab:=(hps.2 i bb p hget hgetp).ext hx2
  have hlo:(linesOfS p).length≤1000:=by
   have e1:=length_linesUp p.id p.changes
   have e2:=ownN_le p.changes
   unfold linesOfS;omega
  obtain ⟨b0,p0,cap0,hv,_,hcell⟩:=(hr.ext hx2).cell (ptrs_get hget)
  cases hv
  refine zgo ?_
  refine WO.call rfl rfl rfl rfl plain73 rfl (linesOf_ret p bb _ hpab hpl) fun v3 h3 ⟨hx3,ho3,hm3⟩=>?_
  refine WO.ex rfl rfl rfl (ox_append tab_ok rfl rfl rfl rfl rfl rfl rfl (ho2.fr hx3 (by simp)) ho3.rd (one_linesC _) (by dsimp only;omega) ?_)
  intro v' h4 o1 o2 o3
  refine zgo ?_
  have hx4:=hx2.trans hx3
  have hsz:=hx4.size
  refine ih ⟨i+1,v'⟩ _ _ (by dsimp only;omega) ⟨rfl,rfl,rfl,rfl,trivial⟩ ⟨hlt',hx4.trans_new (o2.mono (fun k _ e=>.inr (hm2 k e))),?_,?_,?_⟩
  ·dsimp only;rw [hsn,linesC_append,List.length_append];exact o1
  ·intro k hk
   rcases o3 with e | e
   ·exact hm2 k (by rw [← e];exact hk)
   ·rw [e] at hk;cases hk;exact hsz
  ·dsimp only;rw [hsn,List.length_append];omega
 ·refine zgo ?_
  rw [List.take_of_length_le (by rw [← hps.1];omega)] at ho2
  refine Runs.ret func73 (ret1 results73 rfl) ⟨hx2,ho2,fun k hk=>.inr (hm2 k hk)⟩
def Reach (ps:List PatchD) (a c:Nat):Prop:=∀ S:Nat→Prop,S a→(∀ (b d:Nat) (p:PatchD),S b→p∈ps→p.id=b→d∈p.needs→S d)→S c
theorem Reach.refl {ps:List PatchD} {a:Nat}:Reach ps a a:=fun _ h _=>h
theorem Reach.step {ps:List PatchD} {a b c:Nat} {p:PatchD} (h1:Reach ps a b) (h2:p∈ps) (h3:p.id=b) (h4:c∈p.needs):Reach ps a c:=fun S r s=>s b c p (h1 S r s) h2 h3 h4
theorem Reach.last {ps:List PatchD} {a c:Nat} (h:Reach ps a c):c=a∨∃ p∈ps,c∈p.needs:=h (fun c=>c=a∨∃ p∈ps,c∈p.needs) (.inl rfl) fun _ _ p _ h2 _ h4=>.inr ⟨p,h2,h4⟩
structure Closed (ps:List PatchD):Prop where
 nodup:(ps.map PatchD.id).Nodup
 needs:∀ p∈ps,∀ n∈p.needs,n∈ps.map PatchD.id
theorem nodup_len:∀ {l m:List Nat},l.Nodup→(∀ x∈l,x∈m)→l.length≤m.length:=by
 intro l
 induction l with
 | nil=>intro m _ _;simp
 | cons a l ih =>
  intro m hn hs
  have ha:a∈m:=hs a (by simp)
  have h1:=ih (m:=m.erase a) (List.nodup_cons.1 hn).2 (fun x hx=>by
   have hne:x≠a:=fun e=>(List.nodup_cons.1 hn).1 (e ▸ hx)
   exact (List.mem_erase_of_ne hne).2 (hs x (by simp [hx])))
  have h2:=List.length_erase_of_mem ha
  have h3:0<m.length:=List.length_pos_of_mem ha
  simp;omega
structure Gath (ps:List PatchD) (a:Nat) (l:List Nat) (k:Nat):Prop where
 mem:a∈l
 nodup:l.Nodup
 sub:∀ x∈l,x∈ps.map PatchD.id
 reach:∀ x∈l,Reach ps a x
 closed:∀ i x,i<k→l[i]? = some x→∀ p∈ps,p.id=x→∀ n∈p.needs,n∈l
theorem Gath.all {ps:List PatchD} {a:Nat} {l:List Nat} (g:Gath ps a l l.length) (x:Nat):x∈l↔Reach ps a x:=by
 constructor
 ·exact g.reach x
 ·intro h
  refine h (fun x=>x∈l) g.mem fun b d p ih h2 h3 h4=>?_
  obtain ⟨i,hi,he⟩:=List.getElem_of_mem ih
  exact g.closed i _ hi (by rw [List.getElem?_eq_getElem hi,he]) _ h2 h3 _ h4
theorem Gath.push {ps:List PatchD} {a:Nat} {l:List Nat} {k m:Nat} {p:PatchD} (g:Gath ps a l k) (hp:p∈ps) (hx:p.id∈l) (hm:m∈p.needs) (hn:m∉l) (hc:m∈ps.map PatchD.id) (hk:k≤l.length):Gath ps a (l++[m]) k:=by
 refine ⟨List.mem_append_left _ g.mem,?_,?_,?_,?_⟩
 ·rw [List.nodup_append]
  exact ⟨g.nodup,by simp,fun x hx y hy e=>by simp at hy;subst hy;subst e;exact hn hx⟩
 ·intro x hx'
  rcases List.mem_append.1 hx' with e | e
  ·exact g.sub x e
  ·simp at e;subst e;exact hc
 ·intro x hx'
  rcases List.mem_append.1 hx' with e | e
  ·exact g.reach x e
  ·simp at e;subst e;exact .step (g.reach _ hx) hp rfl hm
 ·intro i x hi hix p' hp' he n hn'
  rcases Nat.lt_or_ge i l.length with e | e
  ·rw [List.getElem?_append_left e] at hix
   exact List.mem_append_left _ (g.closed i x hi hix p' hp' he n hn')
  ·omega
theorem ids_inj {ps:List PatchD} (h:(ps.map PatchD.id).Nodup):∀ {p q:PatchD},p∈ps→q∈ps→p.id=q.id→p=q:=by
 induction ps with
 | nil=>intro p q hp;cases hp
 | cons x r ih =>
  intro p q hp hq e
  simp only [List.map_cons,List.nodup_cons] at h
  rcases List.mem_cons.1 hp with e1 | hp'<;>rcases List.mem_cons.1 hq with e2 | hq'
  ·rw [e1,e2]
  ·exact (h.1 (List.mem_map.2 ⟨q,hq',by rw [← e,e1]⟩)).elim
  ·exact (h.1 (List.mem_map.2 ⟨p,hp',by rw [e,e2]⟩)).elim
  ·exact ih h.2 hp' hq' e
structure PX where
 (k:Nat) (v:Value) (l:List Nat)
theorem past_ret {F:Nat→Prop} (b a:Nat) (bs:List Nat) (ps:List PatchD) (h:Heap) (hs:SA F h b bs ps) (hcl:Closed ps) (ha:a∈ps.map PatchD.id) (hl:bs.length≤100) (hnl:∀ p∈ps,p.needs.length≤1000):Ret Tryz.prog 139 #[.pointer (some ⟨b,0,none⟩),.int .i64 (a:Int)] h fun v h' =>
  Ext h h'∧∃ l:List Nat,Own h' 3 1 v l.length (ints l)∧(∀ x,x∈l↔Reach ps a x)∧l.length≤ps.length∧Moved h (.slice none 0 0) v:=by
 refine Ret.of_body func139 rfl ntmps139 rfl rfl ?_
 have hps:PAs F h bs ps:=by obtain ⟨_,_,_,e,_⟩:=hs;exact e
 have hbp:bs.length=ps.length:=hps.1
 refine zgo ?_
 refine WO.lit [.int .i64 (a:Int)] tab_ok rfl rfl rfl rfl rfl rfl rfl rfl rfl rfl rfl rfl fun h1 hb1 hx1 hs1=>?_
 have hfirst:Gath ps a [a] 0:=⟨by simp,by simp,fun x hx=>by simp at hx;subst hx;exact ha,fun x hx=>by simp at hx;subst hx;exact .refl,fun i x hi=>by omega⟩
 refine zgo ?_
 refine Runs.loop (X:=PX) (fun x=>[(0,.pointer (some ⟨b,0,none⟩)),(5,x.v),(6,.int .i64 (x.k:Int))])
  (fun x h'=>Gath ps a x.l x.k∧x.k≤x.l.length∧Ext h h'∧Own h' 3 1 x.v x.l.length (ints x.l)∧(∀ k,x.v.ownBlock=some k→h.size≤k))
  (fun x=>ps.length-x.k) ⟨0,.slice (some ⟨h.size,0,none⟩) 1 1,[a]⟩ ⟨rfl,rfl,rfl,trivial⟩ ⟨hfirst,by simp,hx1,⟨by simp [ints],.inr ⟨h.size,1,_,rfl,hb1,by simp,by unfold maxLen;omega,by simp,by simp [ints]⟩⟩,fun k hk=>by simp [Value.ownBlock] at hk;omega⟩ ?_
 rintro ⟨k,v,l⟩ h2 ⟨hg,hk,hx2,ho2,hm2⟩ ih
 dsimp only at hg hk hx2 ho2 hm2 ih ⊢
 have hll:l.length≤ps.length:=by have:=nodup_len hg.nodup hg.sub;simpa using this
 obtain ⟨adv,capv,hvv⟩:=ho2.rd.form
 subst hvv
 refine zgo ?_
 refine Runs.cond_dec rfl (fun hlt=>?_) (fun hge=>?_)
 ·have hlt':k<l.length:=by omega
  have hget:l[k]? = some l[k]:=List.getElem?_eq_getElem hlt'
  have hmem:l[k]∈l:=List.getElem_mem hlt'
  generalize l[k]=x at *
  obtain ⟨b0,p0,cap0,hv,_,hcell⟩:=ho2.rd.cell (ints_get hget)
  cases hv
  refine zgo ?_
  refine WO.call rfl rfl rfl rfl plain60 rfl (get_ret b bs ps (x:Int) _ (hs.ext hx2) (by omega)) fun v3 h3 ⟨hh3,hgot⟩=>?_
  subst hh3
  obtain ⟨i,bb,p,hbi,hpi,hpx,hv3⟩ | ⟨hno,_⟩:=hgot
  rotate_left
  ·obtain ⟨p,hp,he⟩:=List.mem_map.1 (hg.sub x hmem)
   exact absurd (by rw [he]) (hno p hp)
  subst hv3
  have hpx':p.id=x:=by omega
  have hpm:p∈ps:=List.mem_of_getElem? hpi
  obtain ⟨nv,cv,hpc,hpn,_⟩:=hps.2 i bb p hbi hpi
  have g1:=hx2.xc hpc.tail.head
  obtain ⟨adn,capn,hnv⟩:=hpn.form
  subst hnv
  have hpnl:=hnl p hpm
  refine zgo ?_
  refine Runs.loop (X:=PX) (fun y=>[(0,.pointer (some ⟨b,0,none⟩)),(5,y.v),(6,.int .i64 (k:Int)),(25,.slice adn p.needs.length capn),(26,.int .i64 (p.needs.length:Int)),(27,.int .i64 (y.k:Int))])
   (fun y h'=>Gath ps a y.l k∧k<y.l.length∧y.l[k]? = some x∧(∀ n∈p.needs.take y.k,n∈y.l)∧y.k≤p.needs.length∧Ext h h'∧Own h' 3 1 y.v y.l.length (ints y.l)∧(∀ k,y.v.ownBlock=some k→h.size≤k))
   (fun y=>p.needs.length-y.k) ⟨0,_,l⟩ ⟨rfl,rfl,rfl,rfl,rfl,rfl,trivial⟩ ⟨hg,hlt',hget,by simp,Nat.zero_le _,hx2,ho2,hm2⟩ ?_
  rintro ⟨j,v4,l4⟩ h4 ⟨hg4,hk4,hget4,hnd4,hj4,hx4,ho4,hm4⟩ ih4
  dsimp only at hg4 hk4 hget4 hnd4 hj4 hx4 ho4 hm4 ih4 ⊢
  have hll4:l4.length≤ps.length:=by have:=nodup_len hg4.nodup hg4.sub;simpa using this
  refine zgo ?_
  refine Runs.cond_dec rfl (fun hlt4=>?_) (fun hge4=>?_)
  ·have hltj:j<p.needs.length:=by omega
   have hgetj:p.needs[j]? = some p.needs[j]:=List.getElem?_eq_getElem hltj
   have hmemj:p.needs[j]∈p.needs:=List.getElem_mem hltj
   have hsn:p.needs.take (j+1)=p.needs.take j++[p.needs[j]]:=List.take_succ_eq_append_getElem hltj
   generalize p.needs[j]=m at *
   obtain ⟨b5,p5,cap5,hv5,_,hcell5⟩:=(hpn.ext hx4).cell (ints_get hgetj)
   cases hv5
   have hn4:∀ l5:List Nat,(∀ z∈l4,z∈l5)→m∈l5→∀ n∈p.needs.take (j+1),n∈l5:=fun l5 hsub hm5 n hn=>by
    rw [hsn] at hn
    rcases List.mem_append.1 hn with e | e
    ·exact hsub _ (hnd4 n e)
    ·simp at e;subst e;exact hm5
   refine zgo ?_
   refine WO.call rfl rfl rfl rfl plain106 rfl (among_ret l4 m v4 _ (by omega) ho4.rd) fun v6 h6 ⟨hv6,hh6⟩=>?_
   subst hv6 hh6
   refine zgo ?_
   refine Runs.cond_ndec rfl (fun hnot=>?_) (fun hin=>?_)
   ·refine zgo ?_
    refine zh (one_int _) ho4 ?_
    intro v' h7 o1 o2 o3
    refine zgo ?_
    have hsz:=hx4.size
    refine ih4 ⟨j+1,v',l4++[m]⟩ _ _ (by dsimp only;omega) ⟨rfl,rfl,rfl,rfl,rfl,rfl,trivial⟩ ⟨hg4.push hpm (by rw [hpx'];exact List.mem_of_getElem? hget4) hmemj hnot (hcl.needs p hpm m hmemj) (by omega),by simp;omega,?_,hn4 _ (fun z hz=>List.mem_append_left _ hz) (by simp),hltj,hx4.trans_new (o2.mono (fun k _ e=>.inr (hm4 k e))),?_,?_⟩
    ·dsimp only;rw [List.getElem?_append_left hk4];exact hget4
    ·simpa [ints] using o1
    ·intro k hk
     rcases o3 k hk with e | e
     ·exact hm4 k e
     ·omega
   ·refine zgo ?_
    exact ih4 ⟨j+1,v4,l4⟩ _ _ (by dsimp only;omega) ⟨rfl,rfl,rfl,rfl,rfl,rfl,trivial⟩ ⟨hg4,hk4,hget4,hn4 _ (fun z hz=>hz) hin,hltj,hx4,ho4,hm4⟩
  ·have hnd:∀ n∈p.needs,n∈l4:=by rw [List.take_of_length_le (by omega)] at hnd4;exact hnd4
   refine zgo ?_
   refine ih ⟨k+1,v4,l4⟩ _ _ (by dsimp only;omega) ⟨rfl,rfl,rfl,trivial⟩ ⟨⟨hg4.mem,hg4.nodup,hg4.sub,hg4.reach,?_⟩,hk4,hx4,ho4,hm4⟩
   intro i' x' hi' hix' p' hp' he' n hn'
   rcases Nat.lt_or_ge i' k with e | e
   ·exact hg4.closed i' x' e hix' p' hp' he' n hn'
   ·have hik:i'=k:=by dsimp only at hi';omega
    subst hik
    have hxx:x'=x:=by have:=hix'.symm.trans hget4;simpa using this
    have:p'=p:=ids_inj hcl.nodup hp' hpm (by rw [he',hxx,hpx'])
    subst this
    exact hnd n hn'
 ·refine zgo ?_
  have hkl:k=l.length:=by omega
  subst hkl
  refine Runs.ret func139 (ret1 results139 rfl) ⟨hx2,l,ho2,hg.all,hll,fun k hk=>.inr (hm2 k hk)⟩
theorem knows_ret {F:Nat→Prop} (b a c:Nat) (bs:List Nat) (ps:List PatchD) (h:Heap) (hs:SA F h b bs ps) (hcl:Closed ps) (ha:a∈ps.map PatchD.id) (hl:bs.length≤100) (hnl:∀ p∈ps,p.needs.length≤1000):Ret Tryz.prog 91 #[.pointer (some ⟨b,0,none⟩),.int .i64 (a:Int),.int .i64 (c:Int)] h fun v h' =>
  Ext h h'∧∃ r:Bool,v = .bool r∧(r=true↔Reach ps a c):=by
 refine Ret.of_body func91 rfl ntmps91 rfl rfl ?_
 have hbp:bs.length=ps.length:=by obtain ⟨_,_,_,e,_⟩:=hs;exact e.1
 refine zgo ?_
 refine WO.call rfl rfl rfl rfl plain105 rfl (past_ret b a bs ps _ hs hcl ha hl hnl) fun v h1 ⟨hx1,l,ho1,hall,hll,_⟩=>?_
 refine zgo ?_
 refine WO.call rfl rfl rfl rfl plain106 rfl (among_ret l c v _ (by omega) ho1.rd) fun v2 h2 ⟨hv2,hh2⟩=>?_
 subst hv2 hh2
 refine zgo ?_
 refine Runs.ret func91 (ret1 results91 rfl) ⟨hx1,_,rfl,?_⟩
 rw [decide_eq_true_iff]
 exact hall c
end Go.Proofs.YtlaffgagmncgjaaGreatDoor
namespace Go.Proofs.YtlaffgagmncgjaaGreatDoor
open Tryz Go Go.Pat Go.Proofs
theorem plain74:Plain Tryz.prog 75:=⟨_,func75,by decide +kernel,by rfl⟩
theorem plain71:Plain Tryz.prog 72:=⟨_,func72,by decide +kernel,by rfl⟩
def hasS (ls:List LineD) (r:RefD):Bool:=decide (r.p=0)||ls.any fun l=>(l.ref.eqb r)
theorem has_ret (ls:List LineD) (r:RefD) (v:Value) (h:Heap) (hr:Rd h 7 v ls.length (linesC ls)) (hl:ls.length≤1000000):Ret Tryz.prog 75 #[v,.agg r.cells.toArray] h fun w h'=>Ext h h'∧w = .bool (hasS ls r):=by
 obtain ⟨ad,cap,hv⟩:=hr.form
 subst hv
 refine Ret.of_body func75 rfl ntmps75 rfl rfl ?_
 refine zgo ?_
 refine zb fun h1 hb1 hx1 hs1=>?_
 have g0:=hb1.cell (j:=0) rfl
 refine zgo ?_
 refine Runs.cond_dec rfl (fun q1=>?_) (fun q1=>?_)
 ·refine zgo ?_
  refine Runs.ret func75 (ret1 results75 rfl) ⟨hx1,?_⟩
  have e:r.p=0:=by omega
  simp [hasS,e]
 ·have hz:¬ r.p=0:=by omega
  refine zgo ?_
  refine Runs.loop (X:=Nat) (fun i=>[(3,.pointer (some ⟨h.size,0,none⟩)),(10,.slice ad ls.length cap),(11,.int .i64 (ls.length:Int)),(12,.int .i64 (i:Int))])
   (fun i h'=>Ext h1 h'∧i≤ls.length∧∀ l∈ls.take i,l.ref≠r) (fun i=>ls.length-i) 0 ⟨rfl,rfl,rfl,rfl,trivial⟩ ⟨Fr.refl _ _,Nat.zero_le _,by simp⟩ ?_
  rintro i h2 ⟨hx2,hi,hall⟩ ih
  refine zgo ?_
  refine Runs.cond_dec rfl (fun hlt=>?_) (fun hge=>?_)
  ·have hlt':i<ls.length:=by omega
   have hget:ls[i]? = some ls[i]:=List.getElem?_eq_getElem hlt'
   have hmem:ls[i]∈ls:=List.getElem_mem hlt'
   have hsn:ls.take (i+1)=ls.take i++[ls[i]]:=List.take_succ_eq_append_getElem hlt'
   generalize ls[i]=l at *
   obtain ⟨b0,p0,cap0,hv,_,hcells⟩:=(hr.ext (hx1.trans hx2)).pos (by omega)
   cases hv
   have hcc:=linesC_get hcells hget
   refine zgo ?_
   refine zv l.one fun h4 hb4 hx4 hs4=>?_
   have e1:Cells h4 h2.size (0+0) l.ref.cells:=hb4.cells.take 2
   have hb5:=(hb1.ext hx2).ext hx4
   have e2:Cells h4 h.size 0 r.cells:=hb5.cells
   refine zgo ?_
   refine WO.val (ov_eql2 two107 rfl rfl rfl) rfl rfl rfl ?_
   refine zgo ?_
   refine Runs.cond_dec rfl (fun heq=>?_) (fun hne=>?_)
   ·refine zgo ?_
    refine Runs.ret func75 (ret1 results75 rfl) ⟨hx1.trans (hx2.trans hx4),?_⟩
    have e:l.ref=r:=by
     rcases hl1:l.ref with ⟨a1,a2⟩;rcases r with ⟨a3,a4⟩
     rw [hl1] at heq;simp at heq;simp;omega
    have:(ls.any fun l=>(l.ref.eqb r))=true:=List.any_eq_true.2 ⟨l,hmem,by simp [e]⟩
    simp [hasS,this]
   ·refine zgo ?_
    refine ih (i+1) _ _ (by omega) ⟨rfl,rfl,rfl,rfl,trivial⟩ ⟨hx2.trans hx4,by omega,fun l' hl'=>?_⟩
    rw [hsn] at hl'
    rcases List.mem_append.1 hl' with e | e
    ·exact hall l' e
    ·simp at e;subst e
     intro e;apply hne;rw [e];simp
  ·refine zgo ?_
   refine Runs.ret func75 (ret1 results75 rfl) ⟨hx1.trans hx2,?_⟩
   rw [List.take_of_length_le (by omega)] at hall
   have:(ls.any fun l=>(l.ref.eqb r))=false:=by rw [List.any_eq_false];intro l hl;simpa using hall l hl
   simp [hasS,hz,this]
theorem lineS_ok {w edge:List UInt8} {r:RefD} (h:lineS w edge=some r):RefD.ok r:=by
 unfold lineS at h
 split at h
 ·cases h;split<;>exact ⟨by decide,by decide,fun _=>by decide⟩
 ·split at h
  ·split at h
   ·rename_i h1 h2
    split at h
    ·rename_i hp
     cases h
     exact ⟨numberS_lt h1,numberS_lt h2,fun e=>by dsimp only at e;omega⟩
    ·cases h
   ·cases h
  ·cases h
theorem ref0_ok:RefD.ok ⟨0,0⟩:=⟨by decide,by decide,fun _=>by decide⟩
theorem changeS_ok {s:List UInt8} {c:ChangeD} (h:changeS s=some c):ChangeD.ok c:=by
 unfold changeS at h
 split at h
 ·split at h
  ·split at h
   ·split at h
    ·rename_i h1 h2
     split at h
     ·rename_i ht
      cases h
      refine ⟨lineS_ok h1,lineS_ok h2,?_⟩
      unfold textOk at ht
      simp only [Bool.and_eq_true,decide_eq_true_eq] at ht
      exact ht.1
     ·cases h
    ·cases h
   ·cases h
  ·split at h
   ·split at h
    ·split at h
     ·rename_i h1
      cases h
      exact ⟨lineS_ok h1,ref0_ok,by simp⟩
     ·cases h
    ·cases h
   ·split at h
    ·split at h
     ·split at h
      ·rename_i h1 h2
       cases h
       exact ⟨lineS_ok h1,lineS_ok h2,by simp⟩
      ·cases h
     ·cases h
    ·cases h
 ·cases h
theorem nameS_lt {w:List UInt8} {n:Nat} (h:nameS w=some n):n<10000∧n≠0:=by
 unfold nameS at h
 split at h
 ·rename_i h1
  split at h
  ·cases h
  ·cases h;exact ⟨numberS_lt h1,by assumption⟩
 ·cases h
theorem allSome_mem {α β:Type} {f:α→Option β} {l:List α} {bs:List β} (h:allSome f l=some bs):∀ b∈bs,∃ a∈l,f a=some b:=by
 induction l generalizing bs with
 | nil=>simp [allSome] at h;subst h;simp
 | cons x l ih =>
  simp only [allSome] at h
  cases hx:f x with
  | none=>simp [hx] at h
  | some y =>
   simp only [hx] at h
   cases hl:allSome f l with
   | none=>simp [hl] at h
   | some ys =>
    simp only [hl] at h
    cases h
    intro b hb
    rcases List.mem_cons.1 hb with rfl | hb
    ·exact ⟨x,by simp,hx⟩
    ·obtain ⟨a,ha,he⟩:=ih hl b hb
     exact ⟨a,by simp [ha],he⟩
theorem parse_ok {s:List UInt8} {p:PatchD} (h:parseS s=some p):PatchD.ok p∧p.id≠0:=by
 unfold parseS at h
 split at h
 ·cases h
 ·split at h
  ·split at h
   ·cases h
   ·rename_i hr
    split at h
    ·split at h
     ·split at h
      ·cases h
      ·rename_i hn
       split at h
       ·cases h
       ·rename_i h1
        split at h
        ·cases h
        ·rename_i h2
         split at h
         ·cases h
         ·rename_i h3
          cases h
          have l2:=allSome_length _ h2
          have l3:=allSome_length _ h3
          refine ⟨⟨(nameS_lt h1).1,fun n hn=>?_,fun c hc=>?_,?_,?_⟩,(nameS_lt h1).2⟩
          ·obtain ⟨a,_,ha⟩:=allSome_mem h2 n hn;exact (nameS_lt ha).1
          ·obtain ⟨a,_,ha⟩:=allSome_mem h3 c hc;exact changeS_ok ha
          ·dsimp only;rw [l3];simp;omega
          ·dsimp only;rw [l2];omega
     ·cases h
    ·cases h
  ·cases h
def Past1 (ps:List PatchD) (p:PatchD) (x:Nat):Prop:=∃ n∈p.needs,Reach ps n x
def Acyc (ps:List PatchD):Prop:=∀ p∈ps,¬ Past1 ps p p.id
theorem Acyc.nil:Acyc []:=fun p hp=>by simp at hp
theorem reach_sub {ps qs:List PatchD} (h:∀ p∈ps,p∈qs) {a b:Nat} (hr:Reach ps a b):Reach qs a b:=fun S r s=>hr S r fun b d p hb hp hi hd=>s b d p hb (h p hp) hi hd
theorem Acyc.sub {ps qs:List PatchD} (h:∀ p∈ps,p∈qs) (ha:Acyc qs):Acyc ps:=fun p hp ⟨n,hn,hr⟩=>ha p (h p hp) ⟨n,hn,reach_sub h hr⟩
theorem reach_stay {ps qs:List PatchD} (hn:(qs.map PatchD.id).Nodup) (hsub:∀ p∈ps,p∈qs) (hcl:∀ p∈ps,∀ n∈p.needs,n∈ps.map PatchD.id) {a b:Nat} (ha:a∈ps.map PatchD.id) (hr:Reach qs a b):b∈ps.map PatchD.id∧Reach ps a b:=by
 refine hr (fun b=>b∈ps.map PatchD.id∧Reach ps a b) ⟨ha,.refl⟩ fun b d p hb hp hi hd=>?_
 obtain ⟨q,hq,e⟩:=List.mem_map.1 hb.1
 have:p=q:=ids_inj hn hp (hsub q hq) (by rw [hi,e])
 subst this
 exact ⟨hcl p hq d hd,hb.2.step hq hi hd⟩
theorem Acyc.push {ps qs:List PatchD} {p:PatchD} (ha:Acyc ps) (hn:(qs.map PatchD.id).Nodup) (hq:∀ q,q∈qs↔q=p∨q∈ps) (hcl:∀ q∈ps,∀ n∈q.needs,n∈ps.map PatchD.id) (hp:∀ n∈p.needs,n∈ps.map PatchD.id) (hnew:p.id∉ps.map PatchD.id):Acyc qs:=by
 intro q hqm ⟨n,hn',hr⟩
 have hsub:∀ q∈ps,q∈qs:=fun q h=>(hq q).2 (.inr h)
 rcases (hq q).1 hqm with e | e
 ·subst e
  exact hnew (reach_stay hn hsub hcl (hp n hn') hr).1
 ·exact ha q e ⟨n,hn',(reach_stay hn hsub hcl (hcl q e n hn') hr).2⟩
end Go.Proofs.YtlaffgagmncgjaaGreatDoor
