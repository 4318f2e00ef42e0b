import Derived.Test.YtlaffgagmncgjaaGreatDoorT1
set_option maxRecDepth 20000
set_option maxHeartbeats 3200000
namespace Go.Proofs.YtlaffgagmncgjaaGreatDoor
open Tryz Go Go.Pat Go.Proofs
theorem plain128:Plain Tryz.prog 152:=⟨_,func152,by decide +kernel,by rfl⟩
def textOk (t:List UInt8):Bool:=decide (t.length≤12)&&t.all fun b=>decide (32≤b.toNat)&&decide (b.toNat≤126)
def changeS (s:List UInt8):Option ChangeD :=
 match splitL 32 s with
 | w0::ws =>
  if w0=[97,100,100]∧3≤ws.length then
   match ws with
   | w1::w2::_=>match lineS w1 [94],lineS w2 [36] with
    | some up,some down=>if textOk (s.drop (w0.length+w1.length+w2.length+3)) then some ⟨1,up,down,s.drop (w0.length+w1.length+w2.length+3)⟩ else none
    | _,_=>none
   | _=>none
  else if w0=[100,101,108]∧ws.length=1 then
   match ws with
   | [w1]=>match lineS w1 [] with
    | some up=>some ⟨2,up,⟨0,0⟩,[]⟩
    | none=>none
   | _=>none
  else if w0=[116,105,101]∧ws.length=2 then
   match ws with
   | [w1,w2]=>match lineS w1 [],lineS w2 [] with
    | some up,some down=>some ⟨3,up,down,[]⟩
    | _,_=>none
   | _=>none
  else none
 | []=>none
def okI (t:List UInt8) (i:Nat):Bool:=decide (t.length≤12)&&(t.take i).all fun b=>decide (32≤b.toNat)&&decide (b.toNat≤126)
theorem okI_succ (t:List UInt8) (i:Nat) (h:i<t.length):okI t (i+1)=(okI t i&&(decide (32≤t[i].toNat)&&decide (t[i].toNat≤126))):=by
 unfold okI
 rw [List.take_succ_eq_append_getElem h]
 simp only [List.all_append,List.all_cons,List.all_nil,Bool.and_true,Bool.and_assoc]
theorem okI_zero (t:List UInt8):decide ((t.length:Int)≤12)=okI t 0:=by
 unfold okI
 simp only [List.take_zero,List.all_nil,Bool.and_true]
 exact decide_eq_decide.2 (by omega)
theorem change_ret (s:List UInt8) (h:Heap) (hl:s.length≤16777216):Ret Tryz.prog 115 #[.string (str s)] h fun v h' =>
  Ext h h'∧∃ c:ChangeD,v = .tuple #[.agg c.cells.toArray,.bool (changeS s).isSome]∧∀ c',changeS s=some c'→c=c':=by
 refine Ret.of_body func115 rfl ntmps115 rfl rfl ?_
 refine zgo ?_
 refine WO.alloc tab_ok rfl rfl rfl rfl rfl rfl fun h1 hb1 hx1 hs1=>?_
 refine zgo ?_
 refine WO.call rfl rfl rfl rfl plain101 rfl (split_ret s 32 _ hl) fun v h2 ⟨hx2,ho2,hm2⟩=>?_
 obtain ⟨w0,ws,hws⟩:∃ w0 ws,splitL 32 s=w0::ws:=by
  cases hq:splitL 32 s with
  | nil=>exact absurd hq (splitL_ne 32 s)
  | cons a b=>exact ⟨a,b,rfl⟩
 have hlens:=splitL_len 32 s
 rw [hws] at ho2 hlens
 obtain ⟨b0,p0,cap,hv,hcap,hcs⟩:=ho2.rd.pos (by simp)
 subst hv
 have hb2:=hb1.ext hx2
 have hx:Ext h h2:=hx1.trans hx2
 clear hx1 hx2 hb1 hm2
 have c0:=hcs 0 _ (strs_get (x:=w0) rfl)
 refine zgo ?_
 refine WO.join (fun env' h'=>h2=h'∧Sub [(0,.string (str s)),(2,.pointer (some ⟨h.size,0,none⟩)),(4,.slice (some ⟨b0,p0,none⟩) (w0::ws).length cap),(20,.bool (decide (w0=[97,100,100]∧3≤ws.length)))] env') ?_ ?_
 ·refine WO.split 25 _ rfl (fun q1=>?_) (fun q1=>?_)
  ·have q1:=of_decide_eq_true q1
   refine zgo ?_
   refine ⟨rfl,rfl,rfl,rfl,?_,trivial⟩
   show some _=some _
   congr 2
   have:(3<((w0::ws).length:Int))↔(w0=[97,100,100]∧3≤ws.length):=by simp [q1];omega
   simp only [this]
  ·have q1:=of_decide_eq_false q1
   refine zgo ?_
   refine ⟨rfl,rfl,rfl,rfl,?_,trivial⟩
   show some _=some _
   simp [q1]
 rintro env' _ ⟨rfl,hsub⟩
 refine Runs.sub hsub ?_
 refine zgo ?_
 refine Runs.cond_dec rfl (fun hadd=>?_) (fun hadd=>?_)
 ·obtain ⟨w1,w2,w3,wr,rfl⟩:∃ w1 w2 w3 wr,ws=w1::w2::w3::wr:=by
   match ws,hadd.2 with
   | w1::w2::w3::wr,_=>exact ⟨w1,w2,w3,wr,rfl⟩
   | [],q=>simp at q
   | [_],q=>simp at q
   | [_,_],q=>simp at q
  simp only [List.map_cons,List.sum_cons] at hlens
  have hch:changeS s=match lineS w1 [94],lineS w2 [36] with
    | some up,some down=>if textOk (s.drop (w0.length+w1.length+w2.length+3)) then some ⟨1,up,down,s.drop (w0.length+w1.length+w2.length+3)⟩ else none
    | _,_=>none:=by unfold changeS;rw [hws];simp only;rw [if_pos hadd]
  have c1:=hcs 1 _ (strs_get (x:=w1) rfl)
  have c2:=hcs 2 _ (strs_get (x:=w2) rfl)
  refine zgo ?_
  refine WO.call rfl rfl rfl rfl plain128 rfl (line_ret w1 [94] _ (by omega)) fun v h3 ⟨hx3,r1,hv3,hr1⟩=>?_
  subst hv3
  refine zgo ?_
  refine zv r1.one fun h4 hb4 hx4 hs4=>?_
  have hx5:=hx3.trans hx4
  replace c0:=hx5.xc c0
  replace c1:=hx5.xc c1
  replace c2:=hx5.xc c2
  replace hb2:=hb2.ext hx5
  replace hx:=hx.trans hx5
  clear hx3 hx4 hx5 hcs
  refine zgo ?_
  refine WO.call rfl rfl rfl rfl plain128 rfl (line_ret w2 [36] _ (by omega)) fun v h6 ⟨hx6,r2,hv6,hr2⟩=>?_
  subst hv6
  refine zgo ?_
  refine zv r2.one fun h7 hb7 hx7 hs7=>?_
  have hx8:=hx6.trans hx7
  replace c0:=hx8.xc c0
  replace c1:=hx8.xc c1
  replace c2:=hx8.xc c2
  replace hb2:=hb2.ext hx8
  replace hb4:=hb4.ext hx8
  replace hx:=hx.trans hx8
  clear hx6 hx7 hx8
  refine zgo ?_
  refine Runs.still mixed (by kernel_rfl) ?_
  refine zws ?_
  refine WS.val (ov_sslice_lo (i:=w0.length+w1.length+w2.length+3) tab_ok rfl rfl rfl rfl (natOf_of (by omega)) (by omega)) rfl rfl rfl ?_
  refine zws ?_
  refine zgo ?_
  generalize ht:s.drop (w0.length+w1.length+w2.length+3)=t at *
  have htl:t.length≤16777216:=by rw [← ht];simp;omega
  clear c0 c1 c2 ht hlens hws ho2 hsub hcap
  refine Runs.loop (X:=Nat) (fun i=>[(2,.pointer (some ⟨h.size,0,none⟩)),(5,.pointer (some ⟨h3.size,0,none⟩)),(6,.bool (lineS w1 [94]).isSome),(7,.pointer (some ⟨h6.size,0,none⟩)),(8,.bool (lineS w2 [36]).isSome),(9,.string (str t)),(10,.bool (okI t i)),(11,.int .i64 (i:Int))])
   (fun i h'=>h7=h'∧i≤t.length) (fun i=>t.length-i) 0 ⟨rfl,rfl,rfl,rfl,rfl,rfl,by rw [← okI_zero];rfl,rfl,trivial⟩ ⟨rfl,Nat.zero_le _⟩ ?_
  rintro i _ ⟨rfl,hi⟩ ih
  refine zgo ?_
  refine Runs.cond_dec rfl (fun hlt=>?_) (fun hge=>?_)
  ·have hlt':i<t.length:=by omega
   have hget:t[i]? = some t[i]:=List.getElem?_eq_getElem hlt'
   have hok:=okI_succ t i hlt'
   generalize t[i]=x at *
   refine zgo ?_
   refine WO.join (fun env' h'=>h7=h'∧Sub [(2,.pointer (some ⟨h.size,0,none⟩)),(5,.pointer (some ⟨h3.size,0,none⟩)),(6,.bool (lineS w1 [94]).isSome),(7,.pointer (some ⟨h6.size,0,none⟩)),(8,.bool (lineS w2 [36]).isSome),(9,.string (str t)),(11,.int .i64 (i:Int)),(10,.bool (okI t (i+1)))] env') ?_ ?_
   ·refine WO.split 71 _ rfl (fun q1=>?_) (fun q1=>?_)
    ·refine zgo ?_
     refine WO.split 77 _ rfl (fun q2=>?_) (fun q2=>?_)
     ·have q2:=of_decide_eq_true q2
      refine zgo ?_
      refine ⟨rfl,rfl,rfl,rfl,rfl,rfl,rfl,rfl,?_,trivial⟩
      show some _=some _
      rw [hok,q1]
      have e1:decide (32≤x.toNat)=true:=by simp;omega
      have e2:decide ((x.toNat:Int)≤126)=decide (x.toNat≤126):=by simp;omega
      simp [e1,e2]
     ·have q2:=of_decide_eq_false q2
      refine zgo ?_
      refine ⟨rfl,rfl,rfl,rfl,rfl,rfl,rfl,rfl,?_,trivial⟩
      show some _=some _
      rw [hok]
      have e1:decide (32≤x.toNat)=false:=by simp;omega
      simp [e1]
    ·refine zgo ?_
     refine ⟨rfl,rfl,rfl,rfl,rfl,rfl,rfl,rfl,?_,trivial⟩
     show some _=some _
     rw [hok,q1]
     rfl
   rintro env' _ ⟨rfl,hsub⟩
   refine Runs.sub hsub ?_
   refine zgo ?_
   exact ih (i+1) _ _ (by omega) ⟨rfl,rfl,rfl,rfl,rfl,rfl,rfl,rfl,trivial⟩ ⟨rfl,hlt'⟩
  ·have hfin:okI t i=textOk t:=by unfold okI textOk;rw [List.take_of_length_le (by omega)]
   rw [hfin]
   generalize textOk t=ok at *
   rcases hl1:lineS w1 [94] with _ | u1<;>rcases hl2:lineS w2 [36] with _ | u2<;>cases ok
   all_goals
    simp only [hl1,hl2] at hch
    refine zgo ?_
    refine zt (ChangeD.one ⟨1,r1,r2,t⟩) hb2 fun h8 hb8 hx8 hs8=>?_
    refine zgo ?_
    refine Runs.ret func115 (retc tab_ok results115 rfl rfl rfl rfl rfl hb8.cells) ⟨hx.trans_new (hx8.mono (by intro k _ e;right;omega)),⟨1,r1,r2,t⟩,?_,?_⟩
    ·rw [hch];rfl
    ·intro c' hc;rw [hch] at hc;first | (cases hc;rw [hr1 _ hl1,hr2 _ hl2]) | cases hc
 ·refine zgo ?_
  refine WO.join (fun env' h'=>h2=h'∧Sub [(0,.string (str s)),(2,.pointer (some ⟨h.size,0,none⟩)),(4,.slice (some ⟨b0,p0,none⟩) (w0::ws).length cap),(94,.bool (decide (w0=[100,101,108]∧ws.length=1)))] env') ?_ ?_
  ·refine WO.split 99 _ rfl (fun q1=>?_) (fun q1=>?_)
   ·have q1:=of_decide_eq_true q1
    refine zgo ?_
    refine ⟨rfl,rfl,rfl,rfl,?_,trivial⟩
    show some _=some _
    congr 2
    have:(((w0::ws).length:Int)=2)↔(w0=[100,101,108]∧ws.length=1):=by simp [q1];omega
    simp only [this]
   ·have q1:=of_decide_eq_false q1
    refine zgo ?_
    refine ⟨rfl,rfl,rfl,rfl,?_,trivial⟩
    show some _=some _
    simp [q1]
  rintro env' _ ⟨rfl,hsub⟩
  refine Runs.sub hsub ?_
  refine zgo ?_
  refine Runs.cond_dec rfl (fun hdel=>?_) (fun hdel=>?_)
  ·obtain ⟨w1,rfl⟩:∃ w1,ws=[w1]:=by
    match ws,hdel.2 with
    | [w1],_=>exact ⟨w1,rfl⟩
   simp only [List.map_cons,List.sum_cons] at hlens
   have hch:changeS s=match lineS w1 [] with
     | some up=>some ⟨2,up,⟨0,0⟩,[]⟩
     | none=>none:=by unfold changeS;rw [hws];simp only;rw [if_neg hadd,if_pos hdel]
   have c1:=hcs 1 _ (strs_get (x:=w1) rfl)
   refine zgo ?_
   refine WO.call rfl rfl rfl rfl plain128 rfl (line_ret w1 [] _ (by omega)) fun v h3 ⟨hx3,r1,hv3,hr1⟩=>?_
   subst hv3
   refine zgo ?_
   refine zv r1.one fun h4 hb4 hx4 hs4=>?_
   have hx5:=hx3.trans hx4
   replace hb2:=hb2.ext hx5
   replace hx:=hx.trans hx5
   refine zgo ?_
   refine zt (ChangeD.one ⟨2,r1,⟨0,0⟩,[]⟩) hb2 fun h8 hb8 hx8 hs8=>?_
   refine zgo ?_
   refine Runs.ret func115 (retc tab_ok results115 rfl rfl rfl rfl rfl hb8.cells) ⟨hx.trans_new (hx8.mono (by intro k _ e;right;omega)),⟨2,r1,⟨0,0⟩,[]⟩,?_,?_⟩
   ·rw [hch];cases lineS w1 []<;>rfl
   ·intro c' hc;rw [hch] at hc
    cases hl1:lineS w1 [] with
    | none=>rw [hl1] at hc;cases hc
    | some u=>rw [hl1] at hc;cases hc;rw [hr1 u hl1]
  ·refine zgo ?_
   refine WO.join (fun env' h'=>h2=h'∧Sub [(0,.string (str s)),(2,.pointer (some ⟨h.size,0,none⟩)),(4,.slice (some ⟨b0,p0,none⟩) (w0::ws).length cap),(114,.bool (decide (w0=[116,105,101]∧ws.length=2)))] env') ?_ ?_
   ·refine WO.split 119 _ rfl (fun q1=>?_) (fun q1=>?_)
    ·have q1:=of_decide_eq_true q1
     refine zgo ?_
     refine ⟨rfl,rfl,rfl,rfl,?_,trivial⟩
     show some _=some _
     congr 2
     have:(((w0::ws).length:Int)=3)↔(w0=[116,105,101]∧ws.length=2):=by simp [q1];omega
     simp only [this]
    ·have q1:=of_decide_eq_false q1
     refine zgo ?_
     refine ⟨rfl,rfl,rfl,rfl,?_,trivial⟩
     show some _=some _
     simp [q1]
   rintro env' _ ⟨rfl,hsub⟩
   refine Runs.sub hsub ?_
   refine zgo ?_
   refine Runs.cond_dec rfl (fun htie=>?_) (fun htie=>?_)
   ·obtain ⟨w1,w2,rfl⟩:∃ w1 w2,ws=[w1,w2]:=by
     match ws,htie.2 with
     | [w1,w2],_=>exact ⟨w1,w2,rfl⟩
    simp only [List.map_cons,List.sum_cons] at hlens
    have hch:changeS s=match lineS w1 [],lineS w2 [] with
      | some up,some down=>some ⟨3,up,down,[]⟩
      | _,_=>none:=by unfold changeS;rw [hws];simp only;rw [if_neg hadd,if_neg hdel,if_pos htie]
    have c1:=hcs 1 _ (strs_get (x:=w1) rfl)
    have c2:=hcs 2 _ (strs_get (x:=w2) rfl)
    refine zgo ?_
    refine WO.call rfl rfl rfl rfl plain128 rfl (line_ret w1 [] _ (by omega)) fun v h3 ⟨hx3,r1,hv3,hr1⟩=>?_
    subst hv3
    refine zgo ?_
    refine zv r1.one fun h4 hb4 hx4 hs4=>?_
    have hx5:=hx3.trans hx4
    replace hb2:=hb2.ext hx5
    replace hx:=hx.trans hx5
    replace c2:=hx5.xc c2
    clear hx3 hx4 hx5 hcs
    refine zgo ?_
    refine WO.call rfl rfl rfl rfl plain128 rfl (line_ret w2 [] _ (by omega)) fun v h6 ⟨hx6,r2,hv6,hr2⟩=>?_
    subst hv6
    refine zgo ?_
    refine zv r2.one fun h7 hb7 hx7 hs7=>?_
    have hx8:=hx6.trans hx7
    replace hb2:=hb2.ext hx8
    replace hb4:=hb4.ext hx8
    replace hx:=hx.trans hx8
    clear hx6 hx7 hx8
    rcases hl1:lineS w1 [] with _ | u1<;>rcases hl2:lineS w2 [] with _ | u2
    all_goals
     simp only [hl1,hl2] at hch
     refine zgo ?_
     refine zt (ChangeD.one ⟨3,r1,r2,[]⟩) hb2 fun h8 hb8 hx8 hs8=>?_
     refine zgo ?_
     refine Runs.ret func115 (retc tab_ok results115 rfl rfl rfl rfl rfl hb8.cells) ⟨hx.trans_new (hx8.mono (by intro k _ e;right;omega)),⟨3,r1,r2,[]⟩,?_,?_⟩
     ·rw [hch];rfl
     ·intro c' hc;rw [hch] at hc;first | (cases hc;rw [hr1 _ hl1,hr2 _ hl2]) | cases hc
   ·have hch:changeS s=none:=by unfold changeS;rw [hws];simp only;rw [if_neg hadd,if_neg hdel,if_neg htie]
    refine zgo ?_
    refine zt (ChangeD.one ⟨0,⟨0,0⟩,⟨0,0⟩,[]⟩) hb2 fun h8 hb8 hx8 hs8=>?_
    refine zgo ?_
    refine Runs.ret func115 (retc tab_ok results115 rfl rfl rfl rfl rfl hb8.cells) ⟨hx.trans_new (hx8.mono (by intro k _ e;right;omega)),⟨0,⟨0,0⟩,⟨0,0⟩,[]⟩,?_,?_⟩
    ·rw [hch];rfl
    ·intro c' hc;rw [hch] at hc;cases hc
def namesS (p:PatchD) (r:RefD) (k:Nat):Bool:=(decide (r.p=0)||(decide (r.p=p.id)&&decide (r.i<ownN (p.changes.take k))))||p.needs.any fun n=>decide (n=r.p)
theorem names_ret {F:Nat→Prop} (p:PatchD) (r:RefD) (k b:Nat) (h:Heap) (hp:PA F h b p) (hk:k≤p.changes.length) (hl:p.changes.length≤16777216) (hl2:p.needs.length≤16777216):Ret Tryz.prog 153 #[.pointer (some ⟨b,0,none⟩),.agg r.cells.toArray,.int .i64 (k:Int)] h fun v h' =>
  Ext h h'∧v = .bool (namesS p r k):=by
 refine Ret.of_body func153 rfl ntmps153 rfl rfl ?_
 refine zgo ?_
 refine zb fun h1 hb1 hx1 hs1=>?_
 replace hp:=hp.ext hx1
 obtain ⟨nv,cv,hc,hn,hcs,_⟩:=hp
 have f0:=hc.head
 have f1:=hc.tail.head
 have f2:=hc.tail.tail.head
 obtain ⟨ad,cap,hcv,hcap⟩:=hcs.formc
 obtain ⟨nad,ncap,hnv⟩:=hn.form
 subst hcv hnv
 refine zgo ?_
 refine WO.val (ov_slice_hi tab_ok rfl rfl rfl rfl rfl rfl (by omega)) rfl rfl rfl ?_
 refine zgo ?_
 refine Runs.loop (X:=Nat) (fun i=>[(0,.pointer (some ⟨b,0,none⟩)),(4,.pointer (some ⟨h.size,0,none⟩)),(7,.int .i64 (ownN (p.changes.take i):Int)),(18,.slice ad k cap),(19,.int .i64 (k:Int)),(20,.int .i64 (i:Int))])
  (fun i h'=>Ext h1 h'∧i≤k) (fun i=>k-i) 0 ⟨rfl,rfl,rfl,rfl,rfl,rfl,trivial⟩ ⟨Fr.refl _ _,Nat.zero_le _⟩ ?_
 rintro i h2 ⟨hx2,hi⟩ ih
 have hown:=ownN_le (p.changes.take i)
 have hown2:(p.changes.take i).length≤i:=by simp;omega
 refine zgo ?_
 refine Runs.cond_dec rfl (fun hlt=>?_) (fun hge=>?_)
 ·have hlt':i<p.changes.length:=by omega
  have hget:p.changes[i]? = some p.changes[i]:=List.getElem?_eq_getElem hlt'
  have hsn:=ownN_snoc (p.changes.take i) p.changes[i]
  rw [← List.take_succ_eq_append_getElem hlt'] at hsn
  generalize p.changes[i]=c at *
  obtain ⟨b0,p0,cap0,hv,_,hcells⟩:=(hcs.ext hx2).pos (by omega)
  cases hv
  have hcc:=changes_get hcells hget
  refine zgo ?_
  refine zv c.one fun h3 hb3 hx3 hs3=>?_
  have g0:=hb3.cell (j:=0) rfl
  have hx4:=hx2.trans hx3
  refine zgo ?_
  refine Runs.cond_dec rfl (fun hk1=>?_) (fun hk1=>?_)
  ·refine zgo ?_
   refine ih (i+1) _ _ (by omega) ⟨rfl,rfl,?_,rfl,rfl,rfl,trivial⟩ ⟨hx4,by omega⟩
   show some _=some _
   rw [hsn,if_pos (by omega)];rfl
  ·refine zgo ?_
   refine ih (i+1) _ _ (by omega) ⟨rfl,rfl,?_,rfl,rfl,rfl,trivial⟩ ⟨hx4,by omega⟩
   show some _=some _
   rw [hsn,if_neg (by omega)];rfl
 ·have hik:i=k:=by omega
  subst hik
  replace hb1:=hb1.ext hx2
  replace hn:=hn.ext hx2
  replace f0:=hx2.xc f0
  replace f1:=hx2.xc f1
  have g0:=hb1.cell (j:=0) rfl
  have g1:=hb1.cell (j:=1) rfl
  replace hx2:=hx1.trans hx2
  clear ih hcs f2 hc
  refine zgo ?_
  refine Runs.still mixed (by kernel_rfl) ?_
  refine zws ?_
  refine WS.join (fun env'=>Sub [(0,.pointer (some ⟨b,0,none⟩)),(4,.pointer (some ⟨h.size,0,none⟩)),(10,.bool (decide (r.p=0)||(decide (r.p=p.id)&&decide (r.i<ownN (p.changes.take i)))))] env') ?_ ?_
  ·refine WS.split 33 _ rfl (fun q1=>?_) (fun q1=>?_)
   ·have q1:=of_decide_eq_true q1
    refine zws ?_
    refine ⟨rfl,rfl,?_,trivial⟩
    show some _=some _
    have e:r.p=0:=by omega
    simp [e]
   ·have q1:=of_decide_eq_false q1
    refine zws ?_
    refine WS.split 41 _ rfl (fun q2=>?_) (fun q2=>?_)
    ·have q2:=of_decide_eq_true q2
     refine zws ?_
     refine ⟨rfl,rfl,?_,trivial⟩
     show some _=some _
     have e:¬ r.p=0:=by omega
     have e2:r.p=p.id:=by omega
     have e3:¬ p.id=0:=by omega
     simp [e2,e3]
    ·have q2:=of_decide_eq_false q2
     refine zws ?_
     refine ⟨rfl,rfl,?_,trivial⟩
     show some _=some _
     have e:¬ r.p=0:=by omega
     have e2:¬ r.p=p.id:=by omega
     simp [e,e2]
  intro env' hsub
  refine Runs.sub hsub ?_
  generalize hok:(decide (r.p=0)||(decide (r.p=p.id)&&decide (r.i<ownN (p.changes.take i))))=ok0
  refine zgo ?_
  refine Runs.loop (X:=Nat) (fun j=>[(4,.pointer (some ⟨h.size,0,none⟩)),(10,.bool (ok0||(p.needs.take j).any fun n=>decide (n=r.p))),(51,.slice nad p.needs.length ncap),(52,.int .i64 (p.needs.length:Int)),(53,.int .i64 (j:Int))])
   (fun j h'=>h2=h'∧j≤p.needs.length) (fun j=>p.needs.length-j) 0 ⟨rfl,by rw [List.take_zero,List.any_nil,Bool.or_false];rfl,rfl,rfl,rfl,trivial⟩ ⟨rfl,Nat.zero_le _⟩ ?_
  rintro j _ ⟨rfl,hj⟩ ih
  refine zgo ?_
  refine Runs.cond_dec rfl (fun hlt=>?_) (fun hge=>?_)
  ·have hlt':j<p.needs.length:=by omega
   have hget:p.needs[j]? = some p.needs[j]:=List.getElem?_eq_getElem hlt'
   have hany:((p.needs.take (j+1)).any fun n=>decide (n=r.p))=(((p.needs.take j).any fun n=>decide (n=r.p))||decide (p.needs[j]=r.p)):=by
    rw [List.take_succ_eq_append_getElem hlt'];simp only [List.any_append,List.any_cons,List.any_nil,Bool.or_false]
   generalize p.needs[j]=y at *
   obtain ⟨b0,p0,cap0,hv,_,hcell⟩:=hn.cell (ints_get hget)
   cases hv
   refine zgo ?_
   refine WO.join (fun env' h'=>h2=h'∧Sub [(4,.pointer (some ⟨h.size,0,none⟩)),(51,.slice (some ⟨b0,p0,none⟩) p.needs.length ncap),(52,.int .i64 (p.needs.length:Int)),(53,.int .i64 (j:Int)),(10,.bool (ok0||(p.needs.take (j+1)).any fun n=>decide (n=r.p)))] env') ?_ ?_
   ·rw [hany,← Bool.or_assoc]
    generalize (ok0||(p.needs.take j).any fun n=>decide (n=r.p))=ok1
    cases ok1
    ·refine zgo ?_
     refine ⟨rfl,rfl,rfl,rfl,rfl,?_,trivial⟩
     show some _=some _
     have e:decide ((y:Int)=(r.p:Int))=decide (y=r.p):=decide_eq_decide.2 (by omega)
     simp [e]
    ·refine zgo ?_
     exact ⟨rfl,rfl,rfl,rfl,rfl,rfl,trivial⟩
   rintro env' _ ⟨rfl,hsub⟩
   refine Runs.sub hsub ?_
   refine zgo ?_
   exact ih (j+1) _ _ (by omega) ⟨rfl,rfl,rfl,rfl,rfl,trivial⟩ ⟨rfl,by omega⟩
  ·refine zgo ?_
   refine Runs.ret func153 (ret1 results153 rfl) ⟨hx2,?_⟩
   rw [List.take_of_length_le (by omega)]
   unfold namesS
   rw [hok]
end Go.Proofs.YtlaffgagmncgjaaGreatDoor
