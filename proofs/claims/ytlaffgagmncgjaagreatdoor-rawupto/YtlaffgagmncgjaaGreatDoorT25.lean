import Derived.Test.YtlaffgagmncgjaaGreatDoorT24
set_option maxRecDepth 20000
set_option maxHeartbeats 3200000
namespace Go.Proofs.YtlaffgagmncgjaaGreatDoor
open Tryz Go Go.Pat Go.Proofs
theorem plain85:Plain Tryz.prog 79:=⟨_,func79,by decide +kernel,by rfl⟩
def sh0:ShD:=⟨0,0,0,0⟩
def preA (L:List ShD) (k:Nat) (s:ShD):Bool:=decide (0≤s.block)&&(decide (k=0) || !decide ((L.getD (k-1) sh0).block=s.block))
def preB (L:List ShD) (k:Nat) (s:ShD):Bool:=decide (0≤s.block) && !decide ((L.getD (k-1) sh0).strand=s.strand)
def preC (L:List ShD) (k:Nat) (s:ShD):Bool:=decide (0≤s.block)&&(decide (k+1=L.length) || !decide ((L.getD (k+1) sh0).block=s.block))
def preP (L:List ShD) (k:Nat) (s:ShD):List (List UInt8):=if preA L k s then [[60]] else if preB L k s then [[61]] else []
def preQ (L:List ShD) (k:Nat) (s:ShD):List (List UInt8):=if preC L k s then [[62]] else []
def lineT (al:List LineD) (s:ShD):List UInt8:=match al[s.i]? with
 | some l=>UInt8.ofNat s.mark::l.text
 | none=>[]
def showAt (al:List LineD) (L:List ShD) (k:Nat):List (List UInt8):=match L[k]? with
 | some s=>preP L k s++(lineT al s::preQ L k s)
 | none=>[]
def showTo (al:List LineD) (L:List ShD) (k:Nat):List (List UInt8):=(List.range k).flatMap (showAt al L)
theorem showTo_succ (al:List LineD) (L:List ShD) (k:Nat):showTo al L (k+1)=showTo al L k++showAt al L k:=by simp [showTo,List.range_succ,List.flatMap_append]
theorem showAt_len (al:List LineD) (L:List ShD) (k:Nat):(showAt al L k).length≤3:=by
 unfold showAt
 split
 ·rename_i s _
  have h1:(preP L k s).length≤1:=by unfold preP;split<;>(try split)<;>simp
  have h2:(preQ L k s).length≤1:=by unfold preQ;split<;>simp
  simp;omega
 ·simp
theorem showTo_len (al:List LineD) (L:List ShD) (k:Nat):(showTo al L k).length≤3*k:=by
 induction k with
 | zero=>simp [showTo]
 | succ k ih=>rw [showTo_succ,List.length_append];have:=showAt_len al L k;omega
theorem strs_append (l m:List (List UInt8)):strs (l++m)=strs l++strs m:=by simp [strs]
theorem show_ret {F:Nat→Prop} (mb b:Nat) (bs:List Nat) (ps:List PatchD) (al:List LineD) (o:OP) (h:Heap) (hs:SA F h b bs ps) (hcl:Closed ps) (hg:MG h mb b al o.ld o.fx o.bl) (hn:o.n=al.length)
  (hst:∀ i,i<al.length→IsStrand al.length o.ld o.bl i (o.st i)) (hor:∀ i l,al[i]? = some l→(o.orp i=true↔Orphan ps l)) (hids:∀ l∈al,l.ref.p∈ps.map PatchD.id)
  (hl:bs.length≤100) (hchl:∀ p∈ps,p.changes.length≤1000) (hnl:∀ p∈ps,p.needs.length≤1000) (hall:al.length≤100000) (htx:∀ l∈al,l.text.length≤1000) :
  Ret Tryz.prog 79 #[.pointer (some ⟨mb,0,none⟩)] h fun v h'=>Ext h h'∧Own h' 9 1 v (showTo al (o.to al.length) al.length).length (strs (showTo al (o.to al.length) al.length))∧∀ k,v.ownBlock=some k→h.size≤k:=by
 refine Ret.of_body func79 rfl ntmps79 rfl rfl ?_
 obtain ⟨alv,ldv,fxv,blv,hc,har,_⟩:=hg.out
 obtain ⟨ada,capa,hva⟩:=har.form
 subst hva
 have f1:=hc.tail.head
 refine zgo ?_
 refine WO.call rfl rfl rfl rfl plain90 rfl (order_ret mb b bs ps al o _ hs hcl hg hn hst hor hids hl hchl hnl hall) fun v0 h0 ⟨hx0,hr0⟩=>?_
 have hol:(o.to al.length).length=al.length:=o.to_length _
 have hmem:=o.to_mem al.length
 have hmk:∀ s∈o.to al.length,s.mark<256:=fun s hs=>by
  rw [(hmem s hs).2]
  show o.mark s.i<256
  unfold OP.mark
  split
  ·omega
  ·split
   ·omega
   ·split<;>omega
 generalize o.to al.length=L at *
 obtain ⟨ad0,cap0,hv0⟩:=hr0.form
 subst hv0
 refine zgo ?_
 refine Runs.loop (X:=IV) (fun x=>[(0,.pointer (some ⟨mb,0,none⟩)),(3,.slice ad0 al.length cap0),(4,x.v),(9,.slice ad0 al.length cap0),(10,.int .i64 (al.length:Int)),(11,.int .i64 (x.i:Int))])
  (fun x h'=>x.i≤al.length∧Ext h0 h'∧Own h' 9 1 x.v (showTo al L x.i).length (strs (showTo al L x.i))∧(∀ k,x.v.ownBlock=some k→h0.size≤k))
  (fun x=>al.length-x.i) ⟨0,.slice none 0 0⟩ ⟨rfl,rfl,rfl,rfl,rfl,rfl,trivial⟩ ⟨Nat.zero_le _,Fr.refl _ _,Own.nil _ _ _,fun k hk=>by simp [Value.ownBlock] at hk⟩ ?_
 rintro ⟨i,v⟩ h1 ⟨hi,hx1,ho1,hm1⟩ ih
 dsimp only at hi hx1 ho1 hm1 ih ⊢
 have hx01:=hx0.trans hx1
 have hz0:=hx0.size
 have hz1:=hx1.size
 have hstl:=showTo_len al L i
 refine zgo ?_
 refine Runs.cond_dec rfl (fun hlt=>?_) (fun hge=>?_)
 rotate_left
 ·have hie:i=al.length:=by omega
  subst hie
  refine zgo ?_
  exact Runs.ret func79 (ret1 results79 rfl) ⟨hx01,ho1,fun k hk=>by have:=hm1 k hk;omega⟩
 have hlt':i<al.length:=by omega
 have hgi:L[i]? = some L[i]:=List.getElem?_eq_getElem (by omega)
 have hsm:=hmem L[i] (List.getElem_mem (by omega))
 have hsk:=hmk L[i] (List.getElem_mem (by omega))
 have hat:showAt al L i=preP L i L[i]++(lineT al L[i]::preQ L i L[i]):=by simp only [showAt,hgi]
 have hgs:=showTo_succ al L i
 rw [hat] at hgs
 generalize L[i]=s at *
 obtain ⟨b0,p0,c0,hv0,_,hcs⟩:=(hr0.ext hx1).pos (by omega)
 cases hv0
 have hsc:=shC_get hcs hgi
 refine zgo ?_
 refine WO.alloc tab_ok rfl rfl rfl rfl rfl rfl fun h2 hb2 hx2 hs2=>?_
 refine zgo ?_
 refine zt (ShD.one s) hb2 fun h3 hb3 hx3 hs3=>?_
 clear hb2
 have hx13:Ext h1 h3:=hx2.trans_new (hx3.mono fun k _ e=>.inr (by omega))
 have hx03:=hx1.trans hx13
 have hcs3:=hx13.xcs hcs
 have s0:=hb3.cell (j:=0) rfl
 have s1:=hb3.cell (j:=1) rfl
 have s2:=hb3.cell (j:=2) rfl
 have s3:=hb3.cell (j:=3) rfl
 have prev:∀ j,j<al.length→∀ q,cellAt h3 b0 (p0+j*4+q)=(L.getD j sh0).cells[q]? ∨ 4≤q:=fun j hj q=>by
  have hgj:L[j]? = some L[j]:=List.getElem?_eq_getElem (by omega)
  have e:L.getD j sh0=L[j]:=by simp [List.getD_eq_getElem?_getD,hgj]
  rw [e]
  rcases Nat.lt_or_ge q 4 with hq | hq
  ·left
   have:=shC_get hcs3 hgj q (L[j].cells[q]'(by simp [ShD.cells];omega)) (List.getElem?_eq_getElem _)
   rw [this,List.getElem?_eq_getElem]
  ·exact .inr hq
 have pblk:∀ j,j<al.length→cellAt h3 b0 (p0+j*4+2)=some (.int .i64 (L.getD j sh0).block):=fun j hj=>by
  rcases prev j hj 2 with e | e
  ·rw [e];rfl
  ·omega
 have pstr:∀ j,j<al.length→cellAt h3 b0 (p0+j*4+3)=some (.int .i64 ((L.getD j sh0).strand:Int)):=fun j hj=>by
  rcases prev j hj 3 with e | e
  ·rw [e];rfl
  ·omega
 refine zgo ?_
 refine Runs.joinK (fun env' h'=>Sub [(0,.pointer (some ⟨mb,0,none⟩)),(3,.slice (some ⟨b0,p0,none⟩) al.length cap0),(4,v),(9,.slice (some ⟨b0,p0,none⟩) al.length cap0),(10,.int .i64 (al.length:Int)),(11,.int .i64 (i:Int)),(5,.int .i64 (i:Int)),(6,.pointer (some ⟨h1.size,0,none⟩)),(33,.bool (preA L i s))] env'∧h3=h') (fun k' hJ=>?_) ?_
 ·by_cases hb0:0≤s.block
  ·have hd:decide (0≤s.block)=true:=decide_eq_true hb0
   by_cases hi0:i=0
   ·have hd2:decide ((i:Int)=0)=true:=decide_eq_true (by omega)
    refine Runs.still mixed (by kernel_rfl) ?_
    refine zws ?_
    rw [hd]
    refine zws ?_
    rw [hd2]
    refine zws ?_
    refine hJ _ _ ⟨⟨rfl,rfl,rfl,rfl,rfl,rfl,rfl,rfl,?_,trivial⟩,rfl⟩
    rw [show preA L i s=true by simp [preA,hb0,hi0]];rfl
   ·have hd2:decide ((i:Int)=0)=false:=decide_eq_false (by omega)
    have hnat:natOf ((i:Int)-1)=some (i-1):=natOf_of (by omega)
    have pc:=pblk (i-1) (by omega)
    refine Runs.still mixed (by kernel_rfl) ?_
    refine zws ?_
    rw [hd]
    refine zws ?_
    rw [hd2]
    refine zws ?_
    refine WS.val (ov_indexAddr tab_ok rfl rfl rfl rfl rfl hnat (by omega)) rfl rfl rfl ?_
    refine zws ?_
    refine hJ _ _ ⟨⟨rfl,rfl,rfl,rfl,rfl,rfl,rfl,rfl,?_,trivial⟩,rfl⟩
    rw [show preA L i s = !decide ((L.getD (i-1) sh0).block=s.block) by simp [preA,hb0,hi0]];rfl
  ·have hd:decide (0≤s.block)=false:=decide_eq_false hb0
   refine Runs.still mixed (by kernel_rfl) ?_
   refine zws ?_
   rw [hd]
   refine zws ?_
   refine hJ _ _ ⟨⟨rfl,rfl,rfl,rfl,rfl,rfl,rfl,rfl,?_,trivial⟩,rfl⟩
   rw [show preA L i s=false by simp [preA,hb0]];rfl
 rintro env' _ ⟨hsub,rfl⟩
 refine Runs.sub hsub ?_
 clear hsub env'
 have ho3:=ho1.fr hx13 (by simp)
 have hz3:=hx13.size
 refine Runs.joinK (fun env' h'=>∃ v',Sub [(0,.pointer (some ⟨mb,0,none⟩)),(3,.slice (some ⟨b0,p0,none⟩) al.length cap0),(4,v'),(9,.slice (some ⟨b0,p0,none⟩) al.length cap0),(10,.int .i64 (al.length:Int)),(11,.int .i64 (i:Int)),(5,.int .i64 (i:Int)),(6,.pointer (some ⟨h1.size,0,none⟩))] env'∧Fr (fun k=>v.ownBlock=some k) h3 h'∧Own h' 9 1 v' (showTo al L i++preP L i s).length (strs (showTo al L i++preP L i s))∧Moved h3 v v') (fun k' hJ=>?_) ?_
 ·refine Runs.cond rfl (fun hq=>?_) (fun hq=>?_)
  ·have hp:preP L i s=[[60]]:=by unfold preP;rw [if_pos hq]
   rw [hp] at hJ
   refine zgo ?_
   refine zh (one_str [60]) ho3 ?_
   intro v5 h5 o1 o2 o3
   refine zgo ?_
   exact hJ _ _ ⟨v5,⟨rfl,rfl,rfl,rfl,rfl,rfl,rfl,rfl,trivial⟩,o2,by rw [strs_append,List.length_append];exact o1,o3⟩
  ·refine zgo ?_
   refine Runs.joinK (fun env' h'=>Sub [(0,.pointer (some ⟨mb,0,none⟩)),(3,.slice (some ⟨b0,p0,none⟩) al.length cap0),(4,v),(9,.slice (some ⟨b0,p0,none⟩) al.length cap0),(10,.int .i64 (al.length:Int)),(11,.int .i64 (i:Int)),(5,.int .i64 (i:Int)),(6,.pointer (some ⟨h1.size,0,none⟩)),(50,.bool (preB L i s))] env'∧h3=h') (fun k'' hJ2=>?_) ?_
   ·by_cases hb0:0≤s.block
    ·have hd:decide (0≤s.block)=true:=decide_eq_true hb0
     have hi0:i≠0:=fun e=>by rw [show preA L i s=true by simp [preA,hb0,e]] at hq;cases hq
     have hnat:natOf ((i:Int)-1)=some (i-1):=natOf_of (by omega)
     have pc:=pstr (i-1) (by omega)
     refine Runs.still mixed (by kernel_rfl) ?_
     refine zws ?_
     rw [hd]
     refine zws ?_
     refine WS.val (ov_indexAddr tab_ok rfl rfl rfl rfl rfl hnat (by omega)) rfl rfl rfl ?_
     refine zws ?_
     refine hJ2 _ _ ⟨⟨rfl,rfl,rfl,rfl,rfl,rfl,rfl,rfl,?_,trivial⟩,rfl⟩
     rw [show preB L i s = !decide (((L.getD (i-1) sh0).strand:Int)=(s.strand:Int)) by
      simp only [preB,hd,Bool.true_and];congr 1;exact decide_eq_decide.2 (by omega)]
     rfl
    ·have hd:decide (0≤s.block)=false:=decide_eq_false hb0
     refine Runs.still mixed (by kernel_rfl) ?_
     refine zws ?_
     rw [hd]
     refine zws ?_
     refine hJ2 _ _ ⟨⟨rfl,rfl,rfl,rfl,rfl,rfl,rfl,rfl,?_,trivial⟩,rfl⟩
     rw [show preB L i s=false by simp [preB,hb0]];rfl
   rintro env' _ ⟨hsub,rfl⟩
   refine Runs.sub hsub ?_
   clear hsub env'
   refine Runs.cond rfl (fun hq2=>?_) (fun hq2=>?_)
   ·have hp:preP L i s=[[61]]:=by unfold preP;rw [if_neg (by rw [hq];simp),if_pos hq2]
    rw [hp] at hJ
    refine zgo ?_
    refine zh (one_str [61]) ho3 ?_
    intro v5 h5 o1 o2 o3
    refine zgo ?_
    exact hJ _ _ ⟨v5,⟨rfl,rfl,rfl,rfl,rfl,rfl,rfl,rfl,trivial⟩,o2,by rw [strs_append,List.length_append];exact o1,o3⟩
   ·have hp:preP L i s=[]:=by unfold preP;rw [if_neg (by rw [hq];simp),if_neg (by rw [hq2];simp)]
    rw [hp,List.append_nil] at hJ
    refine zgo ?_
    exact hJ _ _ ⟨v,⟨rfl,rfl,rfl,rfl,rfl,rfl,rfl,rfl,trivial⟩,Fr.refl _ _,ho3,Moved.refl _ _⟩
 rintro env' h5 ⟨v5,hsub,hf5,ho5,hmv5⟩
 refine Runs.sub hsub ?_
 clear hsub env' prev
 have hnv:¬ v.ownBlock=some h1.size:=fun e=>by have:=ho1.lt _ e;omega
 have hz5:=hf5.size
 have hlt3:=hb3.lt
 have hm5:∀ k,v5.ownBlock=some k→h0.size≤k∧k≠h1.size:=fun k hk=>by
  rcases hmv5 k hk with e | e
  ·exact ⟨hm1 k e,fun e'=>hnv (e' ▸ e)⟩
  ·exact ⟨by omega,by omega⟩
 have hb5:=hb3.fr hf5 hnv
 have hx05:Ext h0 h5:=hx03.trans_new (hf5.mono fun k _ e=>.inr (hm1 k e))
 have hxh5:=hx0.trans hx05
 have hpl:(preP L i s).length≤1:=by unfold preP;split<;>(try split)<;>simp
 have hgl:(showTo al L i++preP L i s).length≤3*i+1:=by rw [List.length_append];omega
 have hga:al[s.i]? = some al[s.i]:=List.getElem?_eq_getElem (by omega)
 have hlt_:lineT al s=UInt8.ofNat s.mark::al[s.i].text:=by simp only [lineT,hga]
 have htxl:=htx al[s.i] (List.getElem_mem (by omega))
 generalize al[s.i]=ln at *
 obtain ⟨b6,p6,c6,hv6,_,hcs6⟩:=(har.ext hxh5).pos (by omega)
 cases hv6
 have ltx:cellAt h5 b6 (p6+s.i*7+6)=some (.string (str ln.text)):=(linesC_get hcs6 hga) 6 _ rfl
 have g1:=hxh5.xc f1
 have t0:=hb5.cell (j:=0) rfl
 have t1:=hb5.cell (j:=1) rfl
 have hlow:∀ k,v5.ownBlock=some k→h0.size≤k:=fun k hk=>(hm5 k hk).1
 have hmbl:mb<h.size:=lt_of_cell f1
 have hb6l:b6<h.size:=by
  obtain ⟨b7,p7,c7,e7,_,hcs7⟩:=har.pos (by omega)
  cases e7
  exact lt_of_cell ((linesC_get hcs7 hga) 6 _ rfl)
 have hSS:∀ h',Fr (fun k=>v5.ownBlock=some k) h5 h'→(cellAt h' mb (0+1)=some (.slice (some ⟨b6,p6,none⟩) al.length capa)∧cellAt h' h1.size (0+0)=some (.int .i64 (s.i:Int))∧cellAt h' h1.size (0+1)=some (.int .u8 (s.mark:Int))∧cellAt h' b6 (p6+s.i*7+6)=some (.string (str ln.text))):=fun h' hf=>by
  refine ⟨hf.cell (fun e=>by have:=hlow _ e;omega) g1,hf.cell (fun e=>(hm5 _ e).2 rfl) t0,hf.cell (fun e=>(hm5 _ e).2 rfl) t1,hf.cell (fun e=>by have:=hlow _ e;omega) ltx⟩
 have hdig:(UInt8.ofNat s.mark).toNat=s.mark:=by rw [UInt8.toNat_ofNat'];omega
 obtain ⟨ad5,cap5,hv5⟩:=ho5.rd.form
 subst hv5
 refine zgo ?_
 refine Runs.joinK (fun env' h'=>∃ v',Sub [(0,.pointer (some ⟨mb,0,none⟩)),(3,.slice (some ⟨b0,p0,none⟩) al.length cap0),(4,v'),(9,.slice (some ⟨b0,p0,none⟩) al.length cap0),(10,.int .i64 (al.length:Int)),(11,.int .i64 (i:Int)),(5,.int .i64 (i:Int)),(6,.pointer (some ⟨h1.size,0,none⟩))] env'∧Ext h0 h'∧Blk h' h1.size s.cells 125∧Own h' 9 1 v' (showTo al L i++preP L i s++[lineT al s]).length (strs (showTo al L i++preP L i s++[lineT al s]))∧(∀ k,v'.ownBlock=some k→h0.size≤k)) (fun k' hJ=>?_) ?_
 ·refine Runs.drawn (m:=18) (fun h'=>Fr (fun k=>Value.ownBlock (.slice ad5 (showTo al L i++preP L i s).length cap5)=some k) h5 h') (fun _=>false) mixed rfl ?_
  refine zp 0 (Fr.refl _ _) ?_
  refine zp 1 (Fr.refl _ _) ?_
  refine zl 2 (fun _ hS=>(hSS _ hS).2.2.1) (Fr.refl _ _) ?_
  refine zp 5 (Fr.refl _ _) ?_
  refine zp 6 (Fr.refl _ _) ?_
  refine zp 7 (Fr.refl _ _) ?_
  refine zl 8 (fun _ hS=>(hSS _ hS).1) (Fr.refl _ _) ?_
  refine zp 9 (Fr.refl _ _) ?_
  refine zl 10 (fun _ hS=>(hSS _ hS).2.1) (Fr.refl _ _) ?_
  refine WF.take 11 rfl (fun _ _=>ov_indexAddr tab_ok rfl rfl rfl rfl rfl rfl (show s.i<al.length by omega)) (Fr.refl _ _) rfl rfl rfl (by kernel_rfl) ?_
  refine zp 12 (Fr.refl _ _) ?_
  refine zl 13 (fun _ hS=>(hSS _ hS).2.2.2) (Fr.refl _ _) ?_
  refine WF.ex 3 (by kernel_rfl) rfl rfl rfl rfl (ox_build1 tab_ok rfl rfl rfl rfl rfl rfl rfl rfl ⟨.inr (Fr.push _ _ _),?_⟩)
  have hcb:=cells_push_new (h:=h5) [Value.int .u8 (s.mark:Int)] 5 (0,0)
  have hfA:∀ S,Fr S h5 (h5.push (.cells [Value.int .u8 (s.mark:Int)].toArray 5 (0,0))):=fun S=>Fr.push _ _ _
  have hszA:(h5.push (.cells [Value.int .u8 (s.mark:Int)].toArray 5 (0,0))).size=h5.size+1:=by simp
  generalize h5.push (.cells [Value.int .u8 (s.mark:Int)].toArray 5 (0,0))=h6 at *
  refine WF.ex 4 (by kernel_rfl) rfl rfl rfl rfl ((ov_bstr (l:=[UInt8.ofNat s.mark]) tab_ok rfl rfl rfl rfl rfl (by
   have e:(([UInt8.ofNat s.mark]:List UInt8).map fun (q:UInt8)=>Value.int .u8 (q.toNat:Int))=[Value.int .u8 (s.mark:Int)]:=by
    simp only [List.map_cons,List.map_nil,hdig]
   rw [e];exact hcb)).ex ⟨.inr (hfA _),?_⟩)
  refine WF.ex 14 (by kernel_rfl) rfl rfl rfl rfl ((ov_sadd rfl rfl rfl (by simp;omega)).ex ⟨.inr (hfA _),?_⟩)
  have ho6:=ho5.fr (hfA (fun _=>False)) (by simp)
  refine WF.push 15 16 tab_ok (by kernel_rfl) (by kernel_rfl) rfl rfl rfl rfl rfl rfl rfl rfl rfl rfl rfl rfl rfl rfl rfl rfl rfl rfl rfl (by simp) (one_str ([UInt8.ofNat s.mark]++ln.text)) ho6 (by omega) (fun h' hf=>(hfA _).trans hf) ?_
  intro v7 h7 o1 o2 o3
  refine zx 17 (((hfA _).trans o2)) ?_
  refine zd ?_
  refine hJ _ _ ⟨v7,⟨rfl,rfl,rfl,rfl,rfl,rfl,rfl,rfl,trivial⟩,?_,?_,?_,fun k hk=>?_⟩
  ·exact (hx05.trans (hfA _)).trans_new (o2.mono fun k _ e=>.inr (hlow k e))
  ·exact (hb5.fr (hfA (fun _=>False)) (by simp)).fr o2 (fun e=>(hm5 _ e).2 rfl)
  ·rw [hlt_,strs_append]
   simpa [strs,Nat.add_assoc] using o1
  ·rcases o3 k hk with e | e
   ·exact hlow k e
   ·omega
 clear hSS ho5 hb5 hm5 hx05 hxh5 t0 t1 ltx g1 hcs6
 rintro env' h7 ⟨v7,hsub,hx07,hb7,ho7,hm7⟩
 refine Runs.sub hsub ?_
 clear hsub env'
 have u2:=hb7.cell (j:=2) rfl
 have hcs7:=hx07.xcs (hr0.cells_of)
 have pblk7:∀ j,j<al.length→cellAt h7 b0 (p0+j*4+2)=some (.int .i64 (L.getD j sh0).block):=fun j hj=>by
  have hgj:L[j]? = some L[j]:=List.getElem?_eq_getElem (by omega)
  have e:L.getD j sh0=L[j]:=by simp [List.getD_eq_getElem?_getD,hgj]
  rw [e]
  exact shC_get hcs7 hgj 2 _ rfl
 refine zgo ?_
 refine Runs.joinK (fun env' h'=>Sub [(0,.pointer (some ⟨mb,0,none⟩)),(3,.slice (some ⟨b0,p0,none⟩) al.length cap0),(4,v7),(9,.slice (some ⟨b0,p0,none⟩) al.length cap0),(10,.int .i64 (al.length:Int)),(11,.int .i64 (i:Int)),(91,.bool (preC L i s))] env'∧h7=h') (fun k' hJ=>?_) ?_
 ·by_cases hb0:0≤s.block
  ·have hd:decide (0≤s.block)=true:=decide_eq_true hb0
   by_cases hi0:i+1=al.length
   ·have hd2:decide ((i:Int)=(al.length:Int)-1)=true:=decide_eq_true (by omega)
    refine Runs.still mixed (by kernel_rfl) ?_
    refine zws ?_
    rw [hd]
    refine zws ?_
    rw [hd2]
    refine zws ?_
    refine hJ _ _ ⟨⟨rfl,rfl,rfl,rfl,rfl,rfl,?_,trivial⟩,rfl⟩
    rw [show preC L i s=true by simp [preC,hb0,hol,hi0]];rfl
   ·have hd2:decide ((i:Int)=(al.length:Int)-1)=false:=decide_eq_false (by omega)
    have hi1:i+1<al.length:=by omega
    have pc:=pblk7 (i+1) hi1
    refine Runs.still mixed (by kernel_rfl) ?_
    refine zws ?_
    rw [hd]
    refine zws ?_
    rw [hd2]
    refine zws ?_
    refine hJ _ _ ⟨⟨rfl,rfl,rfl,rfl,rfl,rfl,?_,trivial⟩,rfl⟩
    rw [show preC L i s = !decide ((L.getD (i+1) sh0).block=s.block) by simp [preC,hb0,hol,hi0]];rfl
  ·have hd:decide (0≤s.block)=false:=decide_eq_false hb0
   refine Runs.still mixed (by kernel_rfl) ?_
   refine zws ?_
   rw [hd]
   refine zws ?_
   refine hJ _ _ ⟨⟨rfl,rfl,rfl,rfl,rfl,rfl,?_,trivial⟩,rfl⟩
   rw [show preC L i s=false by simp [preC,hb0]];rfl
 rintro env' _ ⟨hsub,rfl⟩
 refine Runs.sub hsub ?_
 clear hsub env'
 have hgl7:(showTo al L i++preP L i s++[lineT al s]).length≤3*i+2:=by rw [List.length_append];simp;omega
 have hz7:=hx07.size
 refine Runs.cond rfl (fun hq=>?_) (fun hq=>?_)
 ·have hp:preQ L i s=[[62]]:=by unfold preQ;rw [if_pos hq]
  rw [hp] at hgs
  refine zgo ?_
  refine zh (one_str [62]) ho7 ?_
  intro v8 h8 o1 o2 o3
  refine zgo ?_
  refine ih ⟨i+1,v8⟩ _ _ (by dsimp only;omega) ⟨rfl,rfl,rfl,rfl,rfl,rfl,trivial⟩ ⟨hlt',hx07.trans_new (o2.mono fun k _ e=>.inr (hm7 k e)),?_,fun k hk=>?_⟩
  ·dsimp only
   have e:showTo al L (i+1)=(showTo al L i++preP L i s++[lineT al s])++[[62]]:=by rw [hgs];simp
   rw [e,strs_append,List.length_append];exact o1
  ·rcases o3 k hk with e | e
   ·exact hm7 k e
   ·omega
 ·have hp:preQ L i s=[]:=by unfold preQ;rw [if_neg (by rw [hq];simp)]
  rw [hp] at hgs
  refine zgo ?_
  refine ih ⟨i+1,v7⟩ _ _ (by dsimp only;omega) ⟨rfl,rfl,rfl,rfl,rfl,rfl,trivial⟩ ⟨hlt',hx07,?_,hm7⟩
  dsimp only
  have e:showTo al L (i+1)=showTo al L i++preP L i s++[lineT al s]:=by rw [hgs];simp
  rw [e];exact ho7
theorem plain_Of:Plain Tryz.prog 78:=plain80
theorem plain_mShow:Plain Tryz.prog 36:=⟨_,func36,by decide +kernel,by rfl⟩
theorem strand_ex (n:Nat) (ld:List (List Bool)) (bl:List Int):∃ st:Nat→Nat,∀ i,IsStrand n ld bl i (st i):=by
 refine Classical.axiomOfChoice fun i=>?_
 have key:∀ m k,k≤m→Conn n ld bl i k→∃ r,IsStrand n ld bl i r:=by
  intro m
  induction m with
  | zero=>intro k hk hc;exact ⟨k,hc,fun j _=>by omega⟩
  | succ m ih =>
   intro k hk hc
   by_cases h:∃ j,j<k∧Conn n ld bl i j
   ·obtain ⟨j,hj,hjc⟩:=h
    exact ih j (by omega) hjc
   ·refine ⟨k,hc,fun j hj=>?_⟩
    rcases Nat.lt_or_ge j k with e | e
    ·exact absurd ⟨j,e,hj⟩ h
    ·exact e
 exact key i i (Nat.le_refl _) .refl
theorem orphan_ex (ps:List PatchD) (al:List LineD):∃ orp:Nat→Bool,∀ i l,al[i]? = some l→(orp i=true↔Orphan ps l):=by
 refine ⟨fun i=>@decide (∃ l,al[i]? = some l∧Orphan ps l) (Classical.propDecidable _),fun i l hl=>?_⟩
 rw [@decide_eq_true_iff _ (Classical.propDecidable _)]
 constructor
 ·rintro ⟨l',h1,h2⟩
  rw [hl] at h1;cases h1;exact h2
 ·intro h;exact ⟨l,hl,h⟩
def opOf (ps:List PatchD) (st:Nat→Nat) (orp:Nat→Bool):OP:=⟨(alS ps).length,leadS ps,fixS ps,blkS ps,st,orp⟩
def showFull (ps:List PatchD) (st:Nat→Nat) (orp:Nat→Bool):List (List UInt8):=showTo (alS ps) ((opOf ps st orp).to (alS ps).length) (alS ps).length
theorem alS_mem {ps:List PatchD} {l:LineD} (h:l∈alS ps):l∈linesS ps:=by
 unfold alS alOf at h
 obtain ⟨k,_,e⟩:=List.mem_filterMap.1 h
 exact List.mem_of_getElem? e
theorem alS_len (ps:List PatchD):(alS ps).length≤(linesS ps).length:=by
 unfold alS alOf liveS liveTo
 refine Nat.le_trans (List.length_filterMap_le _ _) (Nat.le_trans (List.length_filter_le _ _) ?_)
 simp
theorem linesS_mem {ps:List PatchD} {l:LineD} (h:l∈linesS ps):∃ p∈ps,l.ref.p=p.id∧∃ c∈p.changes,l.text=c.text:=by
 unfold linesS linesOfS linesUp at h
 obtain ⟨p,hp,hl⟩:=List.mem_flatMap.1 h
 obtain ⟨⟨c,i⟩,hc,rfl⟩:=List.mem_map.1 hl
 have:=List.mem_zipIdx' hc
 refine ⟨p,hp,rfl,c,?_,rfl⟩
 have h2:=this.2
 rw [h2]
 exact (List.mem_filter.1 (List.getElem_mem _)).1
theorem mShow_ret {F:Nat→Prop} (bm b:Nat) (bs:List Nat) (ps:List PatchD) (st:Nat→Nat) (orp:Nat→Bool) (h:Heap) (hb:Blk h bm [.pointer (some ⟨b,0,none⟩)] 61) (hs:SA F h b bs ps) (hg:Good ps) (hcl:Closed ps)
  (hst:∀ i,IsStrand (alS ps).length (leadS ps) (blkS ps) i (st i)) (hor:∀ i l,(alS ps)[i]? = some l→(orp i=true↔Orphan ps l)) :
  Ret Tryz.prog 36 #[.pointer (some ⟨bm,0,none⟩)] h fun v h'=>Ext h h'∧Own h' 9 1 v (showFull ps st orp).length (strs (showFull ps st orp))∧∀ k,v.ownBlock=some k→h.size≤k:=by
 refine Ret.of_body func36 rfl ntmps36 rfl rfl ?_
 have m0:=hb.cell (j:=0) rfl
 have hbs:bs.length=ps.length:=by obtain ⟨_,_,_,e,_⟩:=hs;exact e.1
 have hpl:=hg.len
 have hll:=linesS_len hg
 have hal:=alS_len ps
 have hch:∀ p∈ps,p.changes.length≤1000:=fun p hp=>by have:=(hg.ok p hp).len;omega
 have hnd:∀ p∈ps,p.needs.length≤1000:=fun p hp=>by have:=(hg.ok p hp).nlen;omega
 refine zgo ?_
 refine WO.call rfl rfl rfl rfl plain_Of rfl (of_ret b bs ps _ hs (by omega) hch (by omega)) fun v1 h1 ⟨hx1,mb,hv1,hg1⟩=>?_
 subst hv1
 refine zgo ?_
 refine WO.call rfl rfl rfl rfl plain85 rfl (show_ret mb b bs ps (alS ps) (opOf ps st orp) _ (hs.ext hx1) hcl hg1 rfl (fun i _=>hst i) hor (fun l hl=>?_) (by omega) hch hnd (by omega) (fun l hl=>?_)) fun v2 h2 ⟨hx2,ho2,hm2⟩=>?_
 ·obtain ⟨p,hp,e,_⟩:=linesS_mem (alS_mem hl)
  exact List.mem_map.2 ⟨p,hp,e.symm⟩
 ·obtain ⟨p,hp,_,c,hc,e⟩:=linesS_mem (alS_mem hl)
  have:=((hg.ok p hp).changes c hc).text
  rw [e];omega
 refine zgo ?_
 have hz:=hx1.size
 exact Runs.ret func36 (ret1 results36 rfl) ⟨hx1.trans hx2,ho2,fun k hk=>by have:=hm2 k hk;omega⟩
end Go.Proofs.YtlaffgagmncgjaaGreatDoor
