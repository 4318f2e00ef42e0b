import Derived.Test.YtlaffgagmncgjaaGreatDoorT13
import Derived.Test.YtlaffgagmncgjaaGreatDoorMem3
set_option maxRecDepth 20000
set_option maxHeartbeats 1600000
namespace Go.Proofs.YtlaffgagmncgjaaGreatDoor
open Tryz Go Go.Pat Go.Proofs
theorem plain113:Plain Tryz.prog 132:=⟨_,func132,by decide +kernel,by rfl⟩
theorem plain130:Plain Tryz.prog 161:=⟨_,func161,by decide +kernel,by rfl⟩
theorem ahead_ret (b i j:Nat) (al:List LineD) (ld:List (List Bool)) (h:Heap) (hm:ML h b al ld) (hi:i<al.length) (hj:j<al.length) :
  Ret Tryz.prog 132 #[.pointer (some ⟨b,0,none⟩),.int .i64 (i:Int),.int .i64 (j:Int)] h fun v h'=>h'=h∧v = .bool (aheadS ld i j):=by
 refine Ret.of_body func132 rfl ntmps132 rfl rfl ?_
 obtain ⟨sp,alv,ldv,fxv,blv,hc,har,hmat,sq⟩:=hm
 have f2:=hc.tail.tail.head
 obtain ⟨b1,p1,cap1,hv,rb1,rp1,rc1,c1,d1⟩:=hmat.get sq hi hj
 obtain ⟨b2,p2,cap2,hv2,rb2,rp2,rc2,c2,d2⟩:=hmat.get sq hj hi
 rw [hv] at hv2
 cases hv2
 subst hv
 refine zgo ?_
 unfold aheadS
 cases hij:getB ld i j
 ·refine zgo ?_
  exact Runs.ret func132 (ret1 results132 rfl) ⟨rfl,rfl⟩
 ·refine zgo ?_
  exact Runs.ret func132 (ret1 results132 rfl) ⟨rfl,rfl⟩
def placeS (ls:List LineD) (r:RefD):Option Nat:=ls.findIdx? fun l=>(l.ref.eqb r)
theorem place_ret (ls:List LineD) (r:RefD) (v:Value) (h:Heap) (hr:Rd h 7 v ls.length (linesC ls)) (hl:ls.length≤100000) :
  Ret Tryz.prog 161 #[v,.agg r.cells.toArray] h fun w h'=>Ext h h'∧((∃ i:Nat,placeS ls r=some i∧i<ls.length∧w = .int .i64 (i:Int))∨(placeS ls r=none∧w = .int .i64 (-1))):=by
 obtain ⟨ad,cap,hv⟩:=hr.form
 subst hv
 refine Ret.of_body func161 rfl ntmps161 rfl rfl ?_
 refine zgo ?_
 refine zb fun h1 hb1 hx1 hs1=>?_
 refine zgo ?_
 refine Runs.loop (X:=Nat) (fun i=>[(0,.slice ad ls.length cap),(3,.pointer (some ⟨h.size,0,none⟩)),(7,.int .i64 (ls.length:Int)),(8,.int .i64 (i:Int))])
  (fun i h'=>h1=h'∧i≤ls.length∧∀ l∈ls.take i,l.ref≠r) (fun i=>ls.length-i) 0 ⟨rfl,rfl,rfl,rfl,trivial⟩ ⟨rfl,Nat.zero_le _,by simp⟩ ?_
 rintro i _ ⟨rfl,hi,hall⟩ ih
 refine zgo ?_
 refine Runs.cond_dec rfl (fun hlt=>?_) (fun hge=>?_)
 ·have hlt':i<ls.length:=by omega
  have hget:ls[i]? = some ls[i]:=List.getElem?_eq_getElem hlt'
  have hsn:ls.take (i+1)=ls.take i++[ls[i]]:=List.take_succ_eq_append_getElem hlt'
  have hfi:ls[i].ref=r→placeS ls r=some i:=fun e=>by
   unfold placeS
   rw [List.findIdx?_eq_some_iff_getElem]
   refine ⟨hlt',by simpa using e,fun j hj=>?_⟩
   have:=hall ls[j] (List.mem_take_iff_getElem.2 ⟨j,by omega,rfl⟩)
   simpa using this
  generalize ls[i]=l at *
  obtain ⟨b0,p0,cap0,hv,_,hcells⟩:=(hr.ext hx1).pos (by omega)
  cases hv
  have hcc:=linesC_get hcells hget
  have e1:Cells h1 b0 (p0+i*7+0) l.ref.cells:=hcc.take 2
  have e2:Cells h1 h.size 0 r.cells:=hb1.cells
  refine zgo ?_
  refine Runs.still mixed (by kernel_rfl) ?_
  refine zws ?_
  refine WS.val (ov_eql2 two107 rfl rfl rfl) rfl rfl rfl ?_
  refine zws ?_
  refine Runs.cond_dec rfl (fun heq=>?_) (fun hne=>?_)
  ·have e:l.ref=r:=by
    rcases hl1:l.ref with ⟨a1,a2⟩;rcases r with ⟨a3,a4⟩
    rw [hl1] at heq;simp at heq;simp;omega
   refine zgo ?_
   exact Runs.ret func161 (ret1 results161 rfl) ⟨hx1,.inl ⟨i,hfi e,hlt',rfl⟩⟩
  ·refine zgo ?_
   refine ih (i+1) _ _ (by omega) ⟨rfl,rfl,rfl,rfl,trivial⟩ ⟨rfl,by omega,fun l' hl'=>?_⟩
   rw [hsn] at hl'
   rcases List.mem_append.1 hl' with e | e
   ·exact hall l' e
   ·simp at e;subst e
    intro e;apply hne;rw [e];simp
 ·refine zgo ?_
  refine Runs.ret func161 (ret1 results161 rfl) ⟨hx1,.inr ⟨?_,rfl⟩⟩
  rw [List.take_of_length_le (by omega)] at hall
  unfold placeS
  rw [List.findIdx?_eq_none_iff]
  intro l hl;simpa using hall l hl
end Go.Proofs.YtlaffgagmncgjaaGreatDoor
namespace Go.Proofs.YtlaffgagmncgjaaGreatDoor
open Tryz Go Go.Pat Go.Proofs
theorem plain109:Plain Tryz.prog 121:=⟨_,func121,by decide +kernel,by rfl⟩
theorem plain115:Plain Tryz.prog 134:=⟨_,func134,by decide +kernel,by rfl⟩
theorem plain117:Plain Tryz.prog 136:=⟨_,func136,by decide +kernel,by rfl⟩
theorem settled_ret (b i:Nat) (al:List LineD) (ld:List (List Bool)) (h:Heap) (hm:ML h b al ld) (hi:i<al.length) (hl:al.length≤100000) :
  Ret Tryz.prog 121 #[.pointer (some ⟨b,0,none⟩),.int .i64 (i:Int)] h fun v h'=>h'=h∧v = .bool (settledS al.length ld i):=by
 refine Ret.of_body func121 rfl ntmps121 rfl rfl ?_
 obtain ⟨sp,alv,ldv,fxv,blv,hc,har,hmat,sq⟩:=hm
 have f1:=hc.tail.head
 have f2:=hc.tail.tail.head
 obtain ⟨ad,cap,hv⟩:=har.form
 subst hv
 refine zgo ?_
 refine Runs.loop (X:=Nat) (fun j=>[(0,.pointer (some ⟨b,0,none⟩)),(1,.int .i64 (i:Int)),(10,.int .i64 (al.length:Int)),(11,.int .i64 (j:Int))])
  (fun j h'=>h=h'∧j≤al.length∧∀ k<j,k=i∨getB ld i k≠getB ld k i) (fun j=>al.length-j) 0 ⟨rfl,rfl,rfl,rfl,trivial⟩ ⟨rfl,Nat.zero_le _,fun k hk=>absurd hk (Nat.not_lt_zero _)⟩ ?_
 rintro j _ ⟨rfl,hj,hall⟩ ih
 refine zgo ?_
 refine Runs.cond_dec rfl (fun hlt=>?_) (fun hge=>?_)
 ·have hlt':j<al.length:=by omega
  obtain ⟨b1,p1,cap1,hv,rb1,rp1,rc1,c1,d1⟩:=hmat.get sq hi hlt'
  obtain ⟨b2,p2,cap2,hv2,rb2,rp2,rc2,c2,d2⟩:=hmat.get sq hlt' hi
  rw [hv] at hv2
  cases hv2
  subst hv
  refine zgo ?_
  by_cases hji:(j:Int)=(i:Int)
  ·have hd:decide ((j:Int)=(i:Int))=true:=by simpa using hji
   refine Runs.still mixed (by kernel_rfl) ?_
   refine zws ?_
   rw [hd]
   refine zws ?_
   refine zgo ?_
   refine ih (j+1) _ _ (by omega) ⟨rfl,rfl,rfl,rfl,trivial⟩ ⟨rfl,by omega,fun k hk=>?_⟩
   rcases Nat.lt_succ_iff_lt_or_eq.1 hk with e | e
   ·exact hall k e
   ·left;omega
  ·have hd:decide ((j:Int)=(i:Int))=false:=by simpa using hji
   refine Runs.still mixed (by kernel_rfl) ?_
   refine zws ?_
   rw [hd]
   refine zws ?_
   refine WS.val (ov_beql tab_ok rfl rfl rfl rfl) rfl rfl rfl ?_
   refine zws ?_
   refine Runs.cond rfl (fun q1=>?_) (fun q1=>?_)
   ·refine zgo ?_
    refine Runs.ret func121 (ret1 results121 rfl) ⟨rfl,?_⟩
    have q2:getB ld i j=getB ld j i:=by simpa using q1
    congr 1;symm
    unfold settledS
    rw [List.all_eq_false]
    refine ⟨j,by simpa using hlt',?_⟩
    simp [q2];omega
   ·refine zgo ?_
    refine ih (j+1) _ _ (by omega) ⟨rfl,rfl,rfl,rfl,trivial⟩ ⟨rfl,by omega,fun k hk=>?_⟩
    rcases Nat.lt_succ_iff_lt_or_eq.1 hk with e | e
    ·exact hall k e
    ·right;subst e;simpa using q1
 ·refine zgo ?_
  refine Runs.ret func121 (ret1 results121 rfl) ⟨rfl,?_⟩
  congr 1;symm
  unfold settledS
  rw [List.all_eq_true]
  intro k hk
  have hk':k<al.length:=by simpa using hk
  rcases hall k (by omega) with e | e
  ·simp [e]
  ·simp [e]
theorem ring_ret (b i:Nat) (al:List LineD) (ld:List (List Bool)) (h:Heap) (hm:ML h b al ld) (hi:i<al.length) (hl:al.length≤100000) :
  Ret Tryz.prog 134 #[.pointer (some ⟨b,0,none⟩),.int .i64 (i:Int)] h fun v h'=>h'=h∧v = .bool (ringS al.length ld i):=by
 refine Ret.of_body func134 rfl ntmps134 rfl rfl ?_
 obtain ⟨sp,alv,ldv,fxv,blv,hc,har,hmat,sq⟩:=hm
 have f1:=hc.tail.head
 have f2:=hc.tail.tail.head
 obtain ⟨ad,cap,hv⟩:=har.form
 subst hv
 refine zgo ?_
 refine Runs.loop (X:=Nat) (fun j=>[(0,.pointer (some ⟨b,0,none⟩)),(1,.int .i64 (i:Int)),(10,.int .i64 (al.length:Int)),(11,.int .i64 (j:Int))])
  (fun j h'=>h=h'∧j≤al.length∧∀ k<j,k=i∨getB ld i k=false∨getB ld k i=false) (fun j=>al.length-j) 0 ⟨rfl,rfl,rfl,rfl,trivial⟩ ⟨rfl,Nat.zero_le _,fun k hk=>absurd hk (Nat.not_lt_zero _)⟩ ?_
 rintro j _ ⟨rfl,hj,hall⟩ ih
 refine zgo ?_
 refine Runs.cond_dec rfl (fun hlt=>?_) (fun hge=>?_)
 ·have hlt':j<al.length:=by omega
  obtain ⟨b1,p1,cap1,hv,rb1,rp1,rc1,c1,d1⟩:=hmat.get sq hi hlt'
  obtain ⟨b2,p2,cap2,hv2,rb2,rp2,rc2,c2,d2⟩:=hmat.get sq hlt' hi
  rw [hv] at hv2
  cases hv2
  subst hv
  have nxt:(k':Nat)→k'<j+1→(j=i∨getB ld i j=false∨getB ld j i=false)→k'=i∨getB ld i k'=false∨getB ld k' i=false:=fun k hk hj=>by
   rcases Nat.lt_succ_iff_lt_or_eq.1 hk with e | e
   ·exact hall k e
   ·subst e;exact hj
  refine zgo ?_
  refine WO.split 17 _ rfl (fun q1=>?_) (fun q1=>?_)
  ·have q1':j≠i:=by simp at q1;omega
   refine zgo ?_
   cases e1:getB ld i j
   ·rw [e1] at d1
    refine zgo ?_
    exact ih (j+1) _ _ (by omega) ⟨rfl,rfl,rfl,rfl,trivial⟩ ⟨rfl,by omega,fun k hk=>nxt k hk (.inr (.inl e1))⟩
   ·refine zgo ?_
    refine Runs.cond rfl (fun e2=>?_) (fun e2=>?_)
    ·refine zgo ?_
     refine Runs.ret func134 (ret1 results134 rfl) ⟨rfl,?_⟩
     congr 1;symm
     unfold ringS
     rw [List.any_eq_true]
     exact ⟨j,by simpa using hlt',by simp [e1,e2,q1']⟩
    ·refine zgo ?_
     exact ih (j+1) _ _ (by omega) ⟨rfl,rfl,rfl,rfl,trivial⟩ ⟨rfl,by omega,fun k hk=>nxt k hk (.inr (.inr e2))⟩
  ·have q1':j=i:=by simp at q1;omega
   refine zgo ?_
   exact ih (j+1) _ _ (by omega) ⟨rfl,rfl,rfl,rfl,trivial⟩ ⟨rfl,by omega,fun k hk=>nxt k hk (.inl q1')⟩
 ·refine zgo ?_
  refine Runs.ret func134 (ret1 results134 rfl) ⟨rfl,?_⟩
  congr 1;symm
  unfold ringS
  rw [List.any_eq_false]
  intro k hk
  have hk':k<al.length:=by simpa using hk
  rcases hall k (by omega) with e | e | e<;>simp [e]
theorem filter_range_succ (f:Nat→Bool) (j:Nat):((List.range (j+1)).filter f).length=((List.range j).filter f).length+(if f j=true then 1 else 0):=by
 rw [List.range_succ,List.filter_append]
 by_cases h:f j=true<;>simp [h]
theorem filter_range_le (f:Nat→Bool) (j:Nat):((List.range j).filter f).length≤j:=by
 have:=List.length_filter_le f (List.range j)
 simpa using this
theorem rank_ret (b i:Nat) (al:List LineD) (ld:List (List Bool)) (h:Heap) (hm:ML h b al ld) (hi:i<al.length) (hl:al.length≤100000) :
  Ret Tryz.prog 136 #[.pointer (some ⟨b,0,none⟩),.int .i64 (i:Int)] h fun v h'=>h'=h∧v = .int .i64 (rankS al.length ld i:Int):=by
 refine Ret.of_body func136 rfl ntmps136 rfl rfl ?_
 have hm0:=hm
 obtain ⟨sp,alv,ldv,fxv,blv,hc,har,hmat,sq⟩:=hm
 have f1:=hc.tail.head
 obtain ⟨ad,cap,hv⟩:=har.form
 subst hv
 refine zgo ?_
 refine Runs.loop (X:=Nat × Nat) (fun x=>[(0,.pointer (some ⟨b,0,none⟩)),(1,.int .i64 (i:Int)),(5,.int .i64 (x.2:Int)),(11,.int .i64 (al.length:Int)),(12,.int .i64 (x.1:Int))])
  (fun x h'=>h=h'∧x.1≤al.length∧x.2=rankS x.1 ld i) (fun x=>al.length-x.1) (0,0) ⟨rfl,rfl,rfl,rfl,rfl,trivial⟩ ⟨rfl,Nat.zero_le _,rfl⟩ ?_
 rintro ⟨j,n⟩ _ ⟨rfl,hj,hn⟩ ih
 dsimp only at hj hn ih ⊢
 have hnl:n≤j:=by rw [hn];exact filter_range_le _ _
 refine zgo ?_
 refine Runs.cond_dec rfl (fun hlt=>?_) (fun hge=>?_)
 ·have hlt':j<al.length:=by omega
  have hsn:rankS (j+1) ld i=rankS j ld i+(if (!decide (j=i)&&aheadS ld j i)=true then 1 else 0):=filter_range_succ _ _
  refine zgo ?_
  refine WO.split 18 _ rfl (fun q1=>?_) (fun q1=>?_)
  ·have q1':j≠i:=by simp at q1;omega
   refine zgo ?_
   refine WO.call rfl rfl rfl rfl plain113 rfl (ahead_ret b j i al ld _ hm0 hlt' hi) fun v3 h3 ⟨hh3,hv3⟩=>?_
   subst hh3 hv3
   refine zgo ?_
   refine Runs.cond rfl (fun e2=>?_) (fun e2=>?_)
   ·refine zgo ?_
    exact ih (j+1,n+1) _ _ (by dsimp only;omega) ⟨rfl,rfl,rfl,rfl,rfl,trivial⟩ ⟨rfl,hlt',by dsimp only;rw [hsn,hn];simp [q1',e2]⟩
   ·refine zgo ?_
    exact ih (j+1,n) _ _ (by dsimp only;omega) ⟨rfl,rfl,rfl,rfl,rfl,trivial⟩ ⟨rfl,hlt',by dsimp only;rw [hsn,hn];simp [e2]⟩
  ·have q1':j=i:=by simp at q1;omega
   refine zgo ?_
   exact ih (j+1,n) _ _ (by dsimp only;omega) ⟨rfl,rfl,rfl,rfl,rfl,trivial⟩ ⟨rfl,hlt',by dsimp only;rw [hsn,hn];simp [q1']⟩
 ·refine zgo ?_
  have:j=al.length:=by omega
  subst this
  exact Runs.ret func136 (ret1 results136 rfl) ⟨rfl,by rw [hn]⟩
end Go.Proofs.YtlaffgagmncgjaaGreatDoor
namespace Go.Proofs.YtlaffgagmncgjaaGreatDoor
open Tryz Go Go.Pat Go.Proofs
theorem plain108:Plain Tryz.prog 120:=⟨_,func120,by decide +kernel,by rfl⟩
def kills (r:RefD) (id:Nat) (l:List ChangeD):List Nat:=(l.filter fun c=>decide (c.kind=2)&&(c.up.eqb r)).map fun _=>id
def killersS (r:RefD) (ps:List PatchD):List Nat:=ps.flatMap fun p=>kills r p.id p.changes
theorem kills_snoc (r:RefD) (id:Nat) (l:List ChangeD) (c:ChangeD):kills r id (l++[c])=kills r id l++(if c.kind=2∧c.up.eqb r=true then [id] else []):=by
 unfold kills;rw [List.filter_append];by_cases h:c.kind=2∧c.up.eqb r=true
 ·rw [if_pos h];simp [h.1,h.2]
 ·rw [if_neg h];simp;intro e e2;exact h ⟨e,RefD.eqb_iff.2 e2⟩
theorem kills_le (r:RefD) (id:Nat) (l:List ChangeD):(kills r id l).length≤l.length:=by
 unfold kills;rw [List.length_map];exact List.length_filter_le _ _
theorem ints_append (l m:List Nat):ints (l++m)=ints l++ints m:=by simp [ints]
theorem killers_ret {F:Nat→Prop} (b:Nat) (bs:List Nat) (ps:List PatchD) (r:RefD) (h:Heap) (hs:SA F h b bs ps) (hl:bs.length≤100) (hcl:∀ p∈ps,p.changes.length≤1000):Ret Tryz.prog 120 #[.pointer (some ⟨b,0,none⟩),.agg r.cells.toArray] h fun v h' =>
  Ext h h'∧Own h' 3 1 v (killersS r ps).length (ints (killersS r ps))∧Moved h (.slice none 0 0) v∧(killersS r ps).length≤100000:=by
 refine Ret.of_body func120 rfl ntmps120 rfl rfl ?_
 obtain ⟨lv,hc,hr,hps,_⟩:=hs
 obtain ⟨ad,cap,hv⟩:=hr.form
 subst hv
 refine zgo ?_
 refine zb fun h1 hb1 hx1 hs1=>?_
 have f0:=hx1.xc hc.head
 have hbc:Cells h1 h.size 0 r.cells:=hb1.cells
 have hbl:=hb1.lt
 refine zgo ?_
 refine Runs.loop (X:=IV) (fun x=>[(3,.pointer (some ⟨h.size,0,none⟩)),(5,x.v),(13,.slice ad bs.length cap),(14,.int .i64 (bs.length:Int)),(15,.int .i64 (x.i:Int))])
  (fun x h'=>x.i≤bs.length∧Ext h1 h'∧Own h' 3 1 x.v (killersS r (ps.take x.i)).length (ints (killersS r (ps.take x.i)))∧(∀ k,x.v.ownBlock=some k→h1.size≤k)∧(killersS r (ps.take x.i)).length≤1000*x.i)
  (fun x=>bs.length-x.i) ⟨0,.slice none 0 0⟩ ⟨rfl,rfl,rfl,rfl,rfl,trivial⟩ ⟨Nat.zero_le _,Fr.refl _ _,Own.nil _ _ _,fun k hk=>by simp [Value.ownBlock] at hk,by simp [killersS]⟩ ?_
 rintro ⟨i,v⟩ h2 ⟨hi,hx2,ho2,hm2,hll⟩ ih
 dsimp only at hi hx2 ho2 hm2 hll ih ⊢
 refine zgo ?_
 refine Runs.cond_dec rfl (fun hlt=>?_) (fun hge=>?_)
 ·have hlt':i<bs.length:=by omega
  have hltp:i<ps.length:=by rw [← hps.1];exact hlt'
  have hget:bs[i]? = some bs[i]:=List.getElem?_eq_getElem hlt'
  have hgetp:ps[i]? = some ps[i]:=List.getElem?_eq_getElem hltp
  have hsn:killersS r (ps.take (i+1))=killersS r (ps.take i)++kills r ps[i].id ps[i].changes:=by rw [List.take_succ_eq_append_getElem hltp];simp only [killersS,List.flatMap_append,List.flatMap_cons,List.flatMap_nil,List.append_nil]
  have hpl:=hcl ps[i] (List.getElem_mem hltp)
  generalize bs[i]=bb at *
  generalize ps[i]=p at *
  generalize killersS r (ps.take i)=kl at *
  obtain ⟨nv,cv,hpc,_,hcs,_⟩:=hps.2 i bb p hget hgetp
  have hx02:=hx1.trans hx2
  have g0:=hpc.head
  have g2:=hx02.xc hpc.tail.tail.head
  obtain ⟨b0,p0,cap0,hv,_,hcell⟩:=(hr.ext hx02).cell (ptrs_get hget)
  cases hv
  obtain ⟨adc,capc,hcv⟩:=hcs.form
  subst hcv
  refine zgo ?_
  refine Runs.loop (X:=IV) (fun y=>[(3,.pointer (some ⟨h.size,0,none⟩)),(5,y.v),(13,.slice (some ⟨b0,p0,none⟩) bs.length cap),(14,.int .i64 (bs.length:Int)),(15,.int .i64 (i:Int)),(7,.pointer (some ⟨bb,0,none⟩)),(22,.slice adc p.changes.length capc),(23,.int .i64 (p.changes.length:Int)),(24,.int .i64 (y.i:Int))])
   (fun y h'=>y.i≤p.changes.length∧Ext h1 h'∧Own h' 3 1 y.v (kl++kills r p.id (p.changes.take y.i)).length (ints (kl++kills r p.id (p.changes.take y.i)))∧(∀ k,y.v.ownBlock=some k→h1.size≤k))
   (fun y=>p.changes.length-y.i) ⟨0,v⟩ ⟨rfl,rfl,rfl,rfl,rfl,rfl,rfl,rfl,rfl,trivial⟩ ⟨Nat.zero_le _,hx2,by simpa [kills] using ho2,hm2⟩ ?_
  rintro ⟨j,v3⟩ h3 ⟨hj,hx3,ho3,hm3⟩ ih3
  dsimp only at hj hx3 ho3 hm3 ih3 ⊢
  refine zgo ?_
  refine Runs.cond_dec rfl (fun hlt3=>?_) (fun hge3=>?_)
  ·have hltj:j<p.changes.length:=by omega
   have hgetj:p.changes[j]? = some p.changes[j]:=List.getElem?_eq_getElem hltj
   have hsn3:=kills_snoc r p.id (p.changes.take j) p.changes[j]
   rw [← List.take_succ_eq_append_getElem hltj] at hsn3
   have hkl:=kills_le r p.id (p.changes.take j)
   have hkl2:(p.changes.take j).length≤j:=by simp;omega
   generalize p.changes[j]=c at *
   generalize kills r p.id (p.changes.take j)=ks at *
   have hx03:=hx1.trans hx3
   obtain ⟨b5,p5,cap5,hv5,_,hcells⟩:=(hcs.ext hx03).pos (by omega)
   cases hv5
   have hcc:=changes_get hcells hgetj
   refine zgo ?_
   refine zv c.one fun h4 hb4 hx4 hs4=>?_
   have e0:=hb4.cell (j:=0) rfl
   have hx5:=hx3.trans hx4
   have ho4:=ho3.fr hx4 (by simp)
   have e1:Cells h4 h3.size (0+1) c.up.cells:=hb4.cells.tail.take 2
   have e2:Cells h4 h.size 0 r.cells:=hx5.xcs hbc
   have e3:=(hx1.trans hx5).xc g0
   refine zgo ?_
   refine WO.split 31 _ rfl (fun q1=>?_) (fun q1=>?_)
   ·have q1':c.kind=2:=by simp at q1;omega
    refine zgo ?_
    refine WO.val (ov_eql2 two107 rfl rfl rfl) rfl rfl rfl ?_
    refine zgo ?_
    refine Runs.cond_dec rfl (fun heq=>?_) (fun hne=>?_)
    ·have e:c.up=r:=by
      rcases hl1:c.up with ⟨a1,a2⟩;rcases r with ⟨a3,a4⟩
      rw [hl1] at heq;simp at heq;simp;omega
     rw [if_pos ⟨q1',RefD.eqb_iff.2 e⟩] at hsn3
     refine zgo ?_
     refine WO.push tab_ok rfl rfl rfl rfl rfl rfl rfl rfl rfl rfl rfl rfl rfl rfl rfl rfl rfl (by simp) (one_int _) ho4 (by simp;omega) ?_
     intro v' h7 o1 o2 o3
     refine zgo ?_
     have hsz:=hx5.size
     refine ih3 ⟨j+1,v'⟩ _ _ (by dsimp only;omega) ⟨rfl,rfl,rfl,rfl,rfl,rfl,rfl,rfl,rfl,trivial⟩ ⟨hltj,hx5.trans_new (o2.mono (fun k _ e=>.inr (hm3 k e))),?_,?_⟩
     ·dsimp only;rw [hsn3,← List.append_assoc,ints_append,List.length_append];exact o1
     ·intro k hk
      rcases o3 k hk with e | e
      ·exact hm3 k e
      ·omega
    ·rw [if_neg (fun e=>hne (by rw [RefD.eqb_iff.1 e.2];simp)),List.append_nil] at hsn3
     refine zgo ?_
     refine ih3 ⟨j+1,_⟩ _ _ (by dsimp only;omega) ⟨rfl,rfl,rfl,rfl,rfl,rfl,rfl,rfl,rfl,trivial⟩ ⟨hltj,hx5,?_,hm3⟩
     dsimp only;rw [hsn3];exact ho4
   ·have q1':c.kind≠2:=by simp at q1;omega
    rw [if_neg (fun e=>q1' e.1),List.append_nil] at hsn3
    refine zgo ?_
    refine ih3 ⟨j+1,_⟩ _ _ (by dsimp only;omega) ⟨rfl,rfl,rfl,rfl,rfl,rfl,rfl,rfl,rfl,trivial⟩ ⟨hltj,hx5,?_,hm3⟩
    dsimp only;rw [hsn3];exact ho4
  ·have hkl:=kills_le r p.id p.changes
   rw [List.take_of_length_le (by omega)] at ho3
   refine zgo ?_
   refine ih ⟨i+1,v3⟩ _ _ (by dsimp only;omega) ⟨rfl,rfl,rfl,rfl,rfl,trivial⟩ ⟨hlt',hx3,?_,hm3,?_⟩
   ·dsimp only;rw [hsn];exact ho3
   ·dsimp only;rw [hsn,List.length_append];omega
 ·refine zgo ?_
  rw [List.take_of_length_le (by rw [← hps.1];omega)] at ho2 hll
  refine Runs.ret func120 (ret1 results120 rfl) ⟨hx1.trans hx2,ho2,fun k hk=>.inr (by have:=hm2 k hk;omega),by omega⟩
end Go.Proofs.YtlaffgagmncgjaaGreatDoor
