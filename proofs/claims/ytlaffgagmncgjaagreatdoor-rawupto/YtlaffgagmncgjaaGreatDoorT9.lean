import Derived.Test.YtlaffgagmncgjaaGreatDoorT6
set_option maxRecDepth 20000
set_option maxHeartbeats 1600000
namespace Go.Proofs.YtlaffgagmncgjaaGreatDoor
open Tryz Go Go.Pat Go.Proofs
theorem plain60:Plain Tryz.prog 53:=⟨_,func53,by decide +kernel,by rfl⟩
theorem plain62:Plain Tryz.prog 55:=⟨_,func55,by decide +kernel,by rfl⟩
theorem plain79:Plain Tryz.prog 99:=⟨_,func99,by decide +kernel,by rfl⟩
def Got (bs:List Nat) (ps:List PatchD) (q:Int) (v:Value):Prop :=
 (∃ (i b:Nat) (p:PatchD),bs[i]? = some b∧ps[i]? = some p∧(p.id:Int)=q∧v = .pointer (some ⟨b,0,none⟩))∨((∀ p∈ps,(p.id:Int)≠q)∧v = .pointer none)
theorem get_ret {F:Nat→Prop} (b:Nat) (bs:List Nat) (ps:List PatchD) (q:Int) (h:Heap) (hs:SA F h b bs ps) (hl:bs.length≤1000):Ret Tryz.prog 53 #[.pointer (some ⟨b,0,none⟩),.int .i64 q] h fun v h'=>h'=h∧Got bs ps q v:=by
 refine Ret.of_body func53 rfl ntmps53 rfl rfl ?_
 obtain ⟨lv,hc,hr,hps,_⟩:=hs
 have f0:=hc.head
 obtain ⟨ad,cap,hv⟩:=hr.form
 subst hv
 refine zgo ?_
 refine Runs.loop (X:=Nat) (fun i=>[(1,.int .i64 q),(10,.slice ad bs.length cap),(11,.int .i64 (bs.length:Int)),(12,.int .i64 (i:Int))])
  (fun i h'=>h=h'∧i≤bs.length∧∀ p∈ps.take i,(p.id:Int)≠q) (fun i=>bs.length-i) 0 ⟨rfl,rfl,rfl,rfl,trivial⟩ ⟨rfl,Nat.zero_le _,by simp⟩ ?_
 rintro i _ ⟨rfl,hi,hall⟩ ih
 refine zgo ?_
 refine Runs.cond_dec rfl (fun hlt=>?_) (fun hge=>?_)
 ·have hlt':i<bs.length:=by omega
  have hltp:i<ps.length:=by rw [← hps.1];exact hlt'
  have hget:bs[i]? = some bs[i]:=List.getElem?_eq_getElem hlt'
  have hgetp:ps[i]? = some ps[i]:=List.getElem?_eq_getElem hltp
  have hsn:ps.take (i+1)=ps.take i++[ps[i]]:=List.take_succ_eq_append_getElem hltp
  generalize bs[i]=bb at *
  generalize ps[i]=p at *
  obtain ⟨b0,p0,cap0,hv,_,hcell⟩:=hr.cell (ptrs_get hget)
  cases hv
  obtain ⟨nv,cv,hpc,_⟩:=hps.2 i bb p hget hgetp
  have g0:=hpc.head
  refine zgo ?_
  refine Runs.cond_dec rfl (fun heq=>?_) (fun hne=>?_)
  ·refine zgo ?_
   exact Runs.ret func53 (ret1 results53 rfl) ⟨rfl,.inl ⟨i,bb,p,hget,hgetp,heq,rfl⟩⟩
  ·refine zgo ?_
   refine ih (i+1) _ _ (by omega) ⟨rfl,rfl,rfl,rfl,trivial⟩ ⟨rfl,by omega,fun p' hp'=>?_⟩
   rw [hsn] at hp'
   rcases List.mem_append.1 hp' with e | e
   ·exact hall p' e
   ·simp at e;subst e;exact hne
 ·refine zgo ?_
  refine Runs.ret func53 (ret1 results53 rfl) ⟨rfl,.inr ⟨?_,rfl⟩⟩
  rw [List.take_of_length_le (by rw [← hps.1];omega)] at hall
  exact hall
structure SX9 where
 (i:Nat) (v:Value) (cs:List Nat) (qs:List PatchD) (done:Bool)
def withoutS (q:Int) (ps:List PatchD):List PatchD:=ps.filter fun p=>!decide ((p.id:Int)=q)
theorem without_ret {F:Nat→Prop} (b:Nat) (bs:List Nat) (ps:List PatchD) (q:Int) (h:Heap) (hs:SA F h b bs ps) (hl:bs.length≤1000):Ret Tryz.prog 99 #[.pointer (some ⟨b,0,none⟩),.int .i64 q] h fun v h' =>
  Ext h h'∧∃ b' bs',v = .pointer (some ⟨b',0,none⟩)∧SA (fun k=>F k∨New h h' k) h' b' bs' (withoutS q ps):=by
 refine Ret.of_body func99 rfl ntmps99 rfl rfl ?_
 obtain ⟨lv,hc,hr,hps,_⟩:=hs
 obtain ⟨ad,cap,hv⟩:=hr.form
 subst hv
 refine zgo ?_
 refine zb fun h1 hb1 hx1 hs1=>?_
 have f0:=hx1.xc hc.head
 refine zgo ?_
 refine Runs.loop (X:=SX9) (fun x=>[(1,.int .i64 q),(5,.pointer (some ⟨h.size,0,none⟩)),(13,.slice ad bs.length cap),(14,.int .i64 (bs.length:Int)),(15,.int .i64 (x.i:Int))])
  (fun x h'=>x.i≤bs.length∧x.qs=withoutS q (ps.take x.i)∧Ext h h'∧Blk h' h.size [x.v] 59∧Own h' 77 1 x.v x.cs.length (ptrs x.cs)∧(∀ k,x.v.ownBlock=some k→h.size<k)∧PAs F h x.cs x.qs∧x.cs.length≤x.i)
  (fun x=>bs.length-x.i) ⟨0,.slice none 0 0,[],[],false⟩ ⟨rfl,rfl,rfl,rfl,rfl,trivial⟩ ⟨Nat.zero_le _,by simp [withoutS],hx1,hb1,Own.nil _ _ _,fun k hk=>by simp [Value.ownBlock] at hk,PAs.nil _ _,Nat.le_refl _⟩ ?_
 rintro ⟨i,v,cs,qs,dn⟩ h2 ⟨hi,hqs,hx2,hb2,ho2,hm2,hpa2,hcsl⟩ ih
 dsimp only at hi hqs hx2 hb2 ho2 hm2 hpa2 hcsl ih ⊢
 have hlt2:=hb2.lt
 refine zgo ?_
 refine Runs.cond_dec rfl (fun hlt=>?_) (fun hge=>?_)
 ·have hlt':i<bs.length:=by omega
  have hltp:i<ps.length:=by rw [← hps.1];exact hlt'
  have hget:bs[i]? = some bs[i]:=List.getElem?_eq_getElem hlt'
  have hgetp:ps[i]? = some ps[i]:=List.getElem?_eq_getElem hltp
  have hsn:withoutS q (ps.take (i+1))=withoutS q (ps.take i)++withoutS q [ps[i]]:=by rw [List.take_succ_eq_append_getElem hltp];simp only [withoutS,List.filter_append]
  generalize bs[i]=bb at *
  generalize ps[i]=p at *
  have hpab:=hps.2 i bb p hget hgetp
  obtain ⟨nv,cv,hpc,_⟩:=hpab.ext hx2
  have g0:=hpc.head
  obtain ⟨b0,p0,cap0,hv,_,hcell⟩:=(hr.ext hx2).cell (ptrs_get hget)
  cases hv
  refine zgo ?_
  refine Runs.cond_ndec rfl (fun hne=>?_) (fun heq=>?_)
  ·have f1:=hb2.cell (j:=0) rfl
   refine zgo ?_
   refine zh (one_ptr _) ho2 ?_
   intro v' h3 o1 o2 o3
   have hb3:=hb2.fr o2 (fun e=>by have:=hm2 _ e;omega)
   obtain ⟨ad',cap',hv'⟩:=o1.rd.form
   subst hv'
   refine zgo ?_
   refine zt (one_slice _ _ _) hb3 fun h4 hb4 hx4 hs4=>?_
   refine zgo ?_
   have hsz3:=o2.size
   refine ih ⟨i+1,_,cs++[bb],qs++[p],dn⟩ _ _ (by dsimp only;omega) ⟨rfl,rfl,rfl,rfl,rfl,trivial⟩ ⟨hlt',?_,?_,hb4,?_,?_,hpa2.snoc hpab,by simp;omega⟩
   ·dsimp only;rw [hsn,← hqs];simp [withoutS,hne]
   ·exact hx2.trans_new ((o2.mono (fun k _ e=>.inr (by have:=hm2 k e;omega))).trans (hx4.mono (fun k _ e=>.inr (by omega))))
   ·have:=o1.fr hx4 (fun k hk=>?_)
    ·simpa [ptrs] using this
    ·rcases o3 k hk with e | e
     ·have:=hm2 k e;omega
     ·omega
   ·intro k hk
    rcases o3 k hk with e | e
    ·exact hm2 k e
    ·omega
  ·refine zgo ?_
   refine ih ⟨i+1,v,cs,qs,dn⟩ _ _ (by dsimp only;omega) ⟨rfl,rfl,rfl,rfl,rfl,trivial⟩ ⟨hlt',?_,hx2,hb2,ho2,hm2,hpa2,by dsimp only;omega⟩
   dsimp only;rw [hsn,← hqs];simp [withoutS,heq]
 ·refine zgo ?_
  refine Runs.ret func99 (ret1 results99 rfl) ⟨hx2,h.size,cs,rfl,⟨v,hb2.cells,ho2.rd,?_,.inr ⟨Nat.le_refl _,hb2.lt⟩,fun k hk=>.inr ⟨by have:=hm2 k hk;omega,ho2.lt k hk⟩⟩⟩
  rw [List.take_of_length_le (by rw [← hps.1];omega)] at hqs
  rw [← hqs]
  exact (hpa2.ext hx2).mono (fun _ e=>.inl e)
def withS (q:PatchD):List PatchD→List PatchD
 | []=>[q]
 | p::r=>if q.id<p.id then q::p::r else p::withS q r
def putIn (q:PatchD) (ps:List PatchD):Bool:=ps.any fun p=>decide (q.id<p.id)
theorem withS_none {q:PatchD}:∀ {ps:List PatchD},putIn q ps=false→withS q ps=ps++[q]:=by
 intro ps
 induction ps with
 | nil=>intro _;rfl
 | cons p r ih =>
  intro h
  simp only [putIn,List.any_cons,Bool.or_eq_false_iff,decide_eq_false_iff_not] at h
  simp only [withS,if_neg h.1,List.cons_append]
  rw [ih h.2]
theorem withS_append {q:PatchD}:∀ {ps rs:List PatchD},putIn q ps=true→withS q (ps++rs)=withS q ps++rs:=by
 intro ps
 induction ps with
 | nil=>intro rs h;simp [putIn] at h
 | cons p r ih =>
  intro rs h
  simp only [List.cons_append,withS]
  by_cases hp:q.id<p.id
  ·simp [if_pos hp]
  ·have:putIn q r=true:=by simpa [putIn,hp] using h
   simp only [if_neg hp,ih this,List.cons_append]
theorem withS_first {q p:PatchD}:∀ {ps:List PatchD},putIn q ps=false→q.id<p.id→withS q (ps++[p])=ps++[q,p]:=by
 intro ps
 induction ps with
 | nil=>intro _ h;simp [withS,h]
 | cons x r ih =>
  intro h hp
  simp only [putIn,List.any_cons,Bool.or_eq_false_iff,decide_eq_false_iff_not] at h
  simp only [List.cons_append,withS,if_neg h.1]
  rw [ih h.2 hp]
def soFar (q:PatchD) (ps:List PatchD):List PatchD:=if putIn q ps then withS q ps else ps
theorem soFar_snoc (q p:PatchD) (ps:List PatchD):soFar q (ps++[p])=soFar q ps++(if putIn q ps=false∧q.id<p.id then [q,p] else [p]):=by
 unfold soFar
 have e:putIn q (ps++[p])=(putIn q ps||decide (q.id<p.id)):=by simp [putIn]
 rw [e]
 cases hp:putIn q ps
 ·by_cases h:q.id<p.id
  ·simp [h,withS_first hp h]
  ·simp [h]
 ·simp [withS_append hp]
theorem with_ret {F:Nat→Prop} (b bq:Nat) (bs:List Nat) (ps:List PatchD) (q:PatchD) (h:Heap) (hs:SA F h b bs ps) (hq:PA F h bq q) (hl:bs.length≤1000):Ret Tryz.prog 55 #[.pointer (some ⟨b,0,none⟩),.pointer (some ⟨bq,0,none⟩)] h fun v h' =>
  Ext h h'∧∃ b' bs',v = .pointer (some ⟨b',0,none⟩)∧SA (fun k=>F k∨New h h' k) h' b' bs' (withS q ps):=by
 refine Ret.of_body func55 rfl ntmps55 rfl rfl ?_
 obtain ⟨lv,hc,hr,hps,_⟩:=hs
 obtain ⟨ad,cap,hv⟩:=hr.form
 subst hv
 refine zgo ?_
 refine zb fun h1 hb1 hx1 hs1=>?_
 have f0:=hx1.xc hc.head
 refine zgo ?_
 refine Runs.loop (X:=SX9) (fun x=>[(1,.pointer (some ⟨bq,0,none⟩)),(5,.pointer (some ⟨h.size,0,none⟩)),(6,.bool (putIn q (ps.take x.i))),(14,.slice ad bs.length cap),(15,.int .i64 (bs.length:Int)),(16,.int .i64 (x.i:Int))])
  (fun x h'=>x.i≤bs.length∧x.qs=soFar q (ps.take x.i)∧Ext h h'∧Blk h' h.size [x.v] 59∧Own h' 77 1 x.v x.cs.length (ptrs x.cs)∧(∀ k,x.v.ownBlock=some k→h.size<k)∧PAs F h x.cs x.qs∧x.cs.length≤2*x.i)
  (fun x=>bs.length-x.i) ⟨0,.slice none 0 0,[],[],false⟩ ⟨rfl,rfl,rfl,rfl,rfl,rfl,trivial⟩ ⟨Nat.zero_le _,by simp [soFar,putIn],hx1,hb1,Own.nil _ _ _,fun k hk=>by simp [Value.ownBlock] at hk,PAs.nil _ _,Nat.zero_le _⟩ ?_
 rintro ⟨i,v,cs,qs,dn⟩ h2 ⟨hi,hqs,hx2,hb2,ho2,hm2,hpa2,hcsl⟩ ih
 dsimp only at hi hqs hx2 hb2 ho2 hm2 hpa2 hcsl ih ⊢
 have hlt2:=hb2.lt
 refine zgo ?_
 refine Runs.cond_dec rfl (fun hlt=>?_) (fun hge=>?_)
 ·have hlt':i<bs.length:=by omega
  have hltp:i<ps.length:=by rw [← hps.1];exact hlt'
  have hget:bs[i]? = some bs[i]:=List.getElem?_eq_getElem hlt'
  have hgetp:ps[i]? = some ps[i]:=List.getElem?_eq_getElem hltp
  have hsn:=soFar_snoc q ps[i] (ps.take i)
  have hpn:putIn q (ps.take (i+1))=(putIn q (ps.take i)||decide (q.id<ps[i].id)):=by rw [List.take_succ_eq_append_getElem hltp];simp only [putIn,List.any_append,List.any_cons,List.any_nil,Bool.or_false]
  rw [← List.take_succ_eq_append_getElem hltp] at hsn
  generalize bs[i]=bb at *
  generalize ps[i]=p at *
  have hpab:=hps.2 i bb p hget hgetp
  obtain ⟨nv,cv,hpc,_⟩:=hpab.ext hx2
  have g0:=hpc.head
  obtain ⟨nv',cv',hqc,_⟩:=hq.ext hx2
  have g1:=hqc.head
  obtain ⟨b0,p0,cap0,hv,_,hcell⟩:=(hr.ext hx2).cell (ptrs_get hget)
  cases hv
  refine zgo ?_
  refine Runs.still mixed (by kernel_rfl) ?_
  refine zws ?_
  refine WS.join (fun env'=>Sub [(1,.pointer (some ⟨bq,0,none⟩)),(5,.pointer (some ⟨h.size,0,none⟩)),(6,.bool (putIn q (ps.take i))),(8,.pointer (some ⟨bb,0,none⟩)),(14,.slice (some ⟨b0,p0,none⟩) bs.length cap),(15,.int .i64 (bs.length:Int)),(16,.int .i64 (i:Int)),(32,.bool (decide (putIn q (ps.take i)=false∧q.id<p.id)))] env') ?_ ?_
  ·generalize putIn q (ps.take i)=pi at *
   cases pi
   ·refine zws ?_
    refine ⟨rfl,rfl,rfl,rfl,rfl,rfl,rfl,?_,trivial⟩
    show some _=some _
    have e:decide ((q.id:Int)<(p.id:Int))=decide (false=false∧q.id<p.id):=decide_eq_decide.2 (by simp)
    rw [e]
   ·refine zws ?_
    exact ⟨rfl,rfl,rfl,rfl,rfl,rfl,rfl,by simp [Env.get?],trivial⟩
  intro env' hsub
  refine Runs.sub hsub ?_
  refine zgo ?_
  refine Runs.cond_dec rfl (fun hput=>?_) (fun hput=>?_)
  ·rw [if_pos hput] at hsn
   rw [hput.1] at hpn ⊢
   have f1:=hb2.cell (j:=0) rfl
   refine zgo ?_
   refine zh (one_ptr _) ho2 ?_
   intro v' h3 o1 o2 o3
   have hb3:=hb2.fr o2 (fun e=>by have:=hm2 _ e;omega)
   obtain ⟨ad',cap',hv'⟩:=o1.rd.form
   subst hv'
   refine zgo ?_
   refine zt (one_slice _ _ _) hb3 fun h4 hb4 hx4 hs4=>?_
   have hsz3:=o2.size
   have hx4':Ext h h4:=hx2.trans_new ((o2.mono (fun k _ e=>.inr (by have:=hm2 k e;omega))).trans (hx4.mono (fun k _ e=>.inr (by omega))))
   have hm4:∀ k,Value.ownBlock (.slice ad' (cs.length+1) cap')=some k→h.size<k:=fun k hk=>by
    rcases o3 k hk with e | e
    ·exact hm2 k e
    ·omega
   have ho4:=o1.fr hx4 (fun k hk=>by have:=hm4 k hk;omega)
   have hlt4:=hb4.lt
   have f2:=hb4.cell (j:=0) rfl
   clear hx4 o1 o2 o3 hb3 ho2 hm2 hx2 hb2 f1 hcell g0 g1 hqc hpc
   refine zgo ?_
   refine zh (one_ptr _) ho4 ?_
   intro v' h5 o1 o2 o3
   have hb5:=hb4.fr o2 (fun e=>by have:=hm4 _ e;omega)
   obtain ⟨ad2,cap2,hv'⟩:=o1.rd.form
   subst hv'
   refine zgo ?_
   refine zt (one_slice _ _ _) hb5 fun h6 hb6 hx6 hs6=>?_
   refine zgo ?_
   have hsz5:=o2.size
   refine ih ⟨i+1,_,cs++[bq]++[bb],qs++[q]++[p],dn⟩ _ _ (by dsimp only;omega) ⟨rfl,rfl,by rw [hpn,decide_eq_true hput.2];rfl,rfl,rfl,rfl,trivial⟩ ⟨hlt',?_,?_,hb6,?_,?_,(hpa2.snoc hq).snoc hpab,by simp;omega⟩
   ·dsimp only;rw [hsn,← hqs];simp
   ·exact hx4'.trans_new ((o2.mono (fun k _ e=>.inr (by have:=hm4 k e;omega))).trans (hx6.mono (fun k _ e=>.inr (by omega))))
   ·have:=o1.fr hx6 (fun k hk=>?_)
    ·simpa [ptrs] using this
    ·rcases o3 k hk with e | e
     ·have:=hm4 k e;omega
     ·omega
   ·intro k hk
    rcases o3 k hk with e | e
    ·exact hm4 k e
    ·omega
  ·rw [if_neg hput] at hsn
   have hpn':putIn q (ps.take (i+1))=putIn q (ps.take i):=by
    rw [hpn]
    cases hpi:putIn q (ps.take i)
    ·have:¬ q.id<p.id:=fun e=>hput ⟨hpi,e⟩
     simp [this]
    ·rfl
   have f1:=hb2.cell (j:=0) rfl
   refine zgo ?_
   refine zh (one_ptr _) ho2 ?_
   intro v' h3 o1 o2 o3
   have hb3:=hb2.fr o2 (fun e=>by have:=hm2 _ e;omega)
   obtain ⟨ad',cap',hv'⟩:=o1.rd.form
   subst hv'
   refine zgo ?_
   refine zt (one_slice _ _ _) hb3 fun h4 hb4 hx4 hs4=>?_
   refine zgo ?_
   have hsz3:=o2.size
   refine ih ⟨i+1,_,cs++[bb],qs++[p],dn⟩ _ _ (by dsimp only;omega) ⟨rfl,rfl,by rw [hpn'];rfl,rfl,rfl,rfl,trivial⟩ ⟨hlt',?_,?_,hb4,?_,?_,hpa2.snoc hpab,by simp;omega⟩
   ·dsimp only;rw [hsn,← hqs]
   ·exact hx2.trans_new ((o2.mono (fun k _ e=>.inr (by have:=hm2 k e;omega))).trans (hx4.mono (fun k _ e=>.inr (by omega))))
   ·have:=o1.fr hx4 (fun k hk=>?_)
    ·simpa [ptrs] using this
    ·rcases o3 k hk with e | e
     ·have:=hm2 k e;omega
     ·omega
   ·intro k hk
    rcases o3 k hk with e | e
    ·exact hm2 k e
    ·omega
 ·have hfull:ps.take i=ps:=List.take_of_length_le (by rw [← hps.1];omega)
  rw [hfull] at hqs ⊢
  unfold soFar at hqs
  cases hpi:putIn q ps
  ·rw [hpi] at hqs
   have f1:=hb2.cell (j:=0) rfl
   refine zgo ?_
   refine zh (one_ptr _) ho2 ?_
   intro v' h3 o1 o2 o3
   have hb3:=hb2.fr o2 (fun e=>by have:=hm2 _ e;omega)
   obtain ⟨ad',cap',hv'⟩:=o1.rd.form
   subst hv'
   refine zgo ?_
   refine zt (one_slice _ _ _) hb3 fun h4 hb4 hx4 hs4=>?_
   refine zgo ?_
   have hsz3:=o2.size
   have hx4':Ext h h4:=hx2.trans_new ((o2.mono (fun k _ e=>.inr (by have:=hm2 k e;omega))).trans (hx4.mono (fun k _ e=>.inr (by omega))))
   have ho4:=o1.fr hx4 (fun k hk=>by
    rcases o3 k hk with e | e
    ·have:=hm2 k e;omega
    ·omega)
   have hm5:∀ k,Value.ownBlock (.slice ad' (cs.length+1) cap')=some k→F k∨New h h4 k:=fun k hk=>by
    refine .inr ⟨?_,ho4.lt k hk⟩
    rcases o3 k hk with e | e
    ·have:=hm2 k e;omega
    ·omega
   refine Runs.ret func55 (ret1 results55 rfl) ⟨hx4',h.size,cs++[bq],rfl,⟨_,hb4.cells,?_,?_,.inr ⟨Nat.le_refl _,hb4.lt⟩,hm5⟩⟩
   ·have:=ho4.rd;simpa [ptrs] using this
   ·rw [withS_none hpi]
    simp at hqs
    rw [← hqs]
    exact ((hpa2.snoc hq).ext hx4').mono (fun _ e=>.inl e)
  ·rw [hpi] at hqs
   refine zgo ?_
   refine Runs.ret func55 (ret1 results55 rfl) ⟨hx2,h.size,cs,rfl,⟨v,hb2.cells,ho2.rd,?_,.inr ⟨Nat.le_refl _,hb2.lt⟩,fun k hk=>.inr ⟨by have:=hm2 k hk;omega,ho2.lt k hk⟩⟩⟩
   simp at hqs
   rw [← hqs]
   exact (hpa2.ext hx2).mono (fun _ e=>.inl e)
end Go.Proofs.YtlaffgagmncgjaaGreatDoor
namespace Go.Proofs.YtlaffgagmncgjaaGreatDoor
open Tryz Go Go.Pat Go.Proofs
theorem plain73:Plain Tryz.prog 74:=⟨_,func74,by decide +kernel,by rfl⟩
theorem plain72:Plain Tryz.prog 73:=⟨_,func73,by decide +kernel,by rfl⟩
structure IV where
 (i:Nat) (v:Value)
theorem linesOf_ret {F:Nat→Prop} (p:PatchD) (b:Nat) (h:Heap) (hp:PA F h b p) (hl:p.changes.length≤1000):Ret Tryz.prog 74 #[.pointer (some ⟨b,0,none⟩)] h fun v h' =>
  Ext h h'∧Own h' 127 7 v (linesOfS p).length (linesC (linesOfS p))∧Moved h (.slice none 0 0) v:=by
 refine Ret.of_body func74 rfl ntmps74 rfl rfl ?_
 obtain ⟨nv,cv,hc,hn,hcs,_⟩:=hp
 have f0:=hc.head
 have f2:=hc.tail.tail.head
 have hbl:=lt_of_cell f0
 obtain ⟨ad,cap,hcv⟩:=hcs.form
 subst hcv
 refine zgo ?_
 refine Runs.loop (X:=IV) (fun x=>[(0,.pointer (some ⟨b,0,none⟩)),(3,x.v),(9,.slice ad p.changes.length cap),(10,.int .i64 (p.changes.length:Int)),(11,.int .i64 (x.i:Int))])
  (fun x h'=>x.i≤p.changes.length∧Ext h h'∧Own h' 127 7 x.v (linesUp p.id (p.changes.take x.i)).length (linesC (linesUp p.id (p.changes.take x.i)))∧(∀ k,x.v.ownBlock=some k→h.size≤k))
  (fun x=>p.changes.length-x.i) ⟨0,.slice none 0 0⟩ ⟨rfl,rfl,rfl,rfl,rfl,trivial⟩ ⟨Nat.zero_le _,Fr.refl _ _,Own.nil _ _ _,fun k hk=>by simp [Value.ownBlock] at hk⟩ ?_
 rintro ⟨i,v⟩ h2 ⟨hi,hx2,ho2,hm2⟩ ih
 dsimp only at hi hx2 ho2 hm2 ih ⊢
 refine zgo ?_
 refine Runs.cond_dec rfl (fun hlt=>?_) (fun hge=>?_)
 ·have hlt':i<p.changes.length:=by omega
  have hget:p.changes[i]? = some p.changes[i]:=List.getElem?_eq_getElem hlt'
  have hsn:=linesUp_snoc p.id (p.changes.take i) p.changes[i]
  rw [← List.take_succ_eq_append_getElem hlt'] at hsn
  have hln:=length_linesUp p.id (p.changes.take i)
  have hown:=ownN_le (p.changes.take i)
  have hown2:(p.changes.take i).length≤i:=by simp;omega
  generalize p.changes[i]=c at *
  generalize linesUp p.id (p.changes.take i)=ls at *
  generalize ownN (p.changes.take i)=on at *
  subst hln
  obtain ⟨b0,p0,cap0,hv,_,hcells⟩:=(hcs.ext hx2).pos (by omega)
  cases hv
  have hcc:=changes_get hcells hget
  refine zgo ?_
  refine zv c.one fun h4 hb4 hx4 hs4=>?_
  have g0:=hb4.cell (j:=0) rfl
  have hx5:=hx2.trans hx4
  have hvl:=ho2.lt
  obtain ⟨adv,capv,hvv⟩:=ho2.rd.form
  subst hvv
  refine zgo ?_
  refine Runs.cond_dec rfl (fun q1=>?_) (fun q1=>?_)
  ·rw [if_pos (by omega)] at hsn
   have ho4:=ho2.fr hx4 (by simp)
   have e0:=hx5.xc f0
   have e1:Cells h4 h2.size (0+1) c.up.cells:=hb4.cells.tail.take 2
   have e2:Cells h4 h2.size (0+3) c.down.cells:=hb4.cells.tail.tail.tail.take 2
   have e3:cellAt h4 h2.size (0+5)=some (.string (str c.text)):=hb4.cell (j:=5) rfl
   have hS0:cellAt h4 b 0=some (.int .i64 (p.id:Int))∧Cells h4 h2.size (0+1) c.up.cells∧Cells h4 h2.size (0+3) c.down.cells∧cellAt h4 h2.size (0+5)=some (.string (str c.text)):=⟨e0,e1,e2,e3⟩
   have hSS:∀ h',Fr (fun k=>Value.ownBlock (.slice adv ls.length capv)=some k) h4 h'→cellAt h' b 0=some (.int .i64 (p.id:Int))∧Cells h' h2.size (0+1) c.up.cells∧Cells h' h2.size (0+3) c.down.cells∧cellAt h' h2.size (0+5)=some (.string (str c.text)):=fun h' hf =>
    ⟨hf.cell (fun e=>by have:=hm2 _ e;omega) e0,hf.cells (fun e=>by have:=hvl _ e;omega) e1,hf.cells (fun e=>by have:=hvl _ e;omega) e2,hf.cell (fun e=>by have:=hvl _ e;omega) e3⟩
   refine zgo ?_
   refine Runs.drawn (m:=18) (fun h'=>cellAt h' b 0=some (.int .i64 (p.id:Int))∧Cells h' h2.size (0+1) c.up.cells∧Cells h' h2.size (0+3) c.down.cells∧cellAt h' h2.size (0+5)=some (.string (str c.text))) (fun _=>false) mixed rfl ?_
   refine zp 0 hS0 ?_
   refine zp 1 hS0 ?_
   refine zp 2 hS0 ?_
   refine zp 3 hS0 ?_
   refine zl 4 (fun _ hS=>hS.1) hS0 ?_
   refine zp 5 hS0 ?_
   refine zp 6 hS0 ?_
   refine zp 7 hS0 ?_
   refine zp 8 hS0 ?_
   refine zL 9 (fun _ hS=>hS.2.1) hS0 ?_
   refine zp 10 hS0 ?_
   refine zL 11 (fun _ hS=>hS.2.2.1) hS0 ?_
   refine zp 12 hS0 ?_
   refine zl 13 (fun _ hS=>hS.2.2.2) hS0 ?_
   refine zp 14 hS0 ?_
   refine WF.push 15 16 tab_ok (by kernel_rfl) (by kernel_rfl) rfl rfl rfl rfl rfl rfl rfl rfl rfl rfl rfl rfl rfl rfl rfl rfl rfl rfl rfl (by simp) (LineD.one ⟨⟨p.id,ls.length⟩,c.up,c.down,c.text⟩) ho4 (by omega) hSS ?_
   intro v' h5 o1 o2 o3
   refine zx 17 ((hSS _ o2)) ?_
   refine zd ?_
   refine zgo ?_
   have hsz:=hx5.size
   refine ih ⟨i+1,v'⟩ _ _ (by dsimp only;omega) ⟨rfl,rfl,rfl,rfl,rfl,trivial⟩ ⟨hlt',hx5.trans_new (o2.mono (fun k _ e=>.inr (hm2 k e))),?_,?_⟩
   ·dsimp only;rw [hsn,linesC_append,List.length_append];exact o1
   ·intro k hk
    rcases o3 k hk with e | e
    ·exact hm2 k e
    ·omega
  ·rw [if_neg (by omega),List.append_nil] at hsn
   refine zgo ?_
   refine ih ⟨i+1,_⟩ _ _ (by dsimp only;omega) ⟨rfl,rfl,rfl,rfl,rfl,trivial⟩ ⟨hlt',hx5,?_,hm2⟩
   dsimp only;rw [hsn];exact ho2.fr hx4 (by simp)
 ·refine zgo ?_
  rw [List.take_of_length_le (by omega)] at ho2
  refine Runs.ret func74 (ret1 results74 rfl) ⟨hx2,ho2,fun k hk=>.inr (hm2 k hk)⟩
end Go.Proofs.YtlaffgagmncgjaaGreatDoor
