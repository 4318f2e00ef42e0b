import Derived.Test.YtlaffgagmncgjabDoorW1
set_option maxRecDepth 20000
set_option maxHeartbeats 3200000
namespace Go.Proofs.YtlaffgagmncgjabDoor
open Go Go.Pat Go.Proofs
theorem plain_isAhead:Plain Tryd.prog 113:=⟨_,Tryd.func113,by decide +kernel,by rfl⟩
theorem plain_isSettled:Plain Tryd.prog 97:=⟨_,Tryd.func97,by decide +kernel,by rfl⟩
theorem plain_count:Plain Tryd.prog 98:=⟨_,Tryd.func98,by decide +kernel,by rfl⟩
theorem plain_settle:Plain Tryd.prog 85:=⟨_,Tryd.func85,by decide +kernel,by rfl⟩
section
variable {F G:Nat→Prop} {wb:Nat} {x:WV} {l:List PD3} {pa:List (List Nat)} {n:Nat} {on:List (List Bool)}
theorem isAhead_ret {w:Nat→WL} {dd:Nat→Bool} (h:Heap) (y:Web F G h wb x l pa n w on) (hd:∀ k,k<n→(w k).dead=dd k) (a b:Nat) (ha:a<n) (hb:b<n) :
  Ret Tryd.prog 113 #[.pointer (some ⟨wb,0,none⟩),.int .i64 (a:Int),.int .i64 (b:Int)] h fun v h'=>h'=h∧v = .bool (aheadW dd on a b):=by
 refine Ret.of_body Tryd.func113 rfl Tryd.ntmps113 rfl rfl ?_
 have w2:=y.blk.cell (j:=2) rfl
 have w3:=y.blk.cell (j:=3) rfl
 obtain ⟨g,p,cap,hlv,ca⟩:=y.line ha
 obtain ⟨g',p',cap',hlv',cb⟩:=y.line hb
 rw [hlv] at hlv' w2
 cases hlv'
 have da:=ca 8 _ rfl
 have db:=cb 8 _ rfl
 rw [hd a ha] at da
 rw [hd b hb] at db
 obtain ⟨ob,q,dcap,rb,r,hdv,_,_,_,ra,_,rab⟩:=y.lm.get ha
 obtain ⟨ob',q',dcap',rb',r',hdv',_,_,_,rb2,_,rba⟩:=y.lm.get hb
 rw [hdv] at hdv' w3
 cases hdv'
 have e1:=rab b hb
 have e2:=rba a ha
 unfold aheadW aheadS
 refine zgo ?_
 cases h1:dd a
 ·rw [h1] at da
  refine zgo ?_
  cases h2:dd b
  ·rw [h2] at db
   refine zgo ?_
   cases h3:getB on a b
   ·rw [h3] at e1
    refine zgo ?_
    exact Runs.ret Tryd.func113 (ret1 Tryd.results113 rfl) ⟨rfl,rfl⟩
   ·rw [h3] at e1
    refine zgo ?_
    exact Runs.ret Tryd.func113 (ret1 Tryd.results113 rfl) ⟨rfl,by simp⟩
  ·rw [h2] at db
   refine zgo ?_
   exact Runs.ret Tryd.func113 (ret1 Tryd.results113 rfl) ⟨rfl,by simp⟩
 ·rw [h1] at da
  refine zgo ?_
  exact Runs.ret Tryd.func113 (ret1 Tryd.results113 rfl) ⟨rfl,by simp⟩
theorem isSettled_ret {w:Nat→WL} {dd:Nat→Bool} (h:Heap) (y:Web F G h wb x l pa n w on) (hd:∀ k,k<n→(w k).dead=dd k) (hn:n≤100000) (a:Nat) (ha:a<n) :
  Ret Tryd.prog 97 #[.pointer (some ⟨wb,0,none⟩),.int .i64 (a:Int)] h fun v h'=>h'=h∧v = .bool (setW n dd on a):=by
 refine Ret.of_body Tryd.func97 rfl Tryd.ntmps97 rfl rfl ?_
 have w2:=y.blk.cell (j:=2) rfl
 obtain ⟨g,p,cap,hlv,ca⟩:=y.line ha
 rw [hlv] at w2
 have da:=ca 8 _ rfl
 rw [hd a ha] at da
 unfold setW
 cases h1:dd a
 rotate_left
 ·rw [h1] at da
  refine zgo ?_
  exact Runs.ret Tryd.func97 (ret1 Tryd.results97 rfl) ⟨rfl,rfl⟩
 rw [h1] at da
 refine zgo ?_
 refine Runs.loop (X:=Nat) (fun i=>[(0,.pointer (some ⟨wb,0,none⟩)),(1,.int .i64 (a:Int)),(5,.int .i64 (i:Int))])
  (fun i h'=>h=h'∧i≤n∧∀ j,j<i→((decide (j=a)||dd j)||(aheadW dd on j a||aheadW dd on a j))=true) (fun i=>n-i) 0 ⟨rfl,rfl,rfl,trivial⟩ ⟨rfl,Nat.zero_le _,by omega⟩ ?_
 rintro i _ ⟨rfl,hi,hall⟩ ih
 refine zgo ?_
 refine Runs.cond_dec rfl (fun hlt=>?_) (fun hge=>?_)
 rotate_left
 ·refine zgo ?_
  refine Runs.ret Tryd.func97 (ret1 Tryd.results97 rfl) ⟨rfl,?_⟩
  congr 1;symm
  rw [Bool.not_false,Bool.true_and,List.all_eq_true]
  intro j hj
  exact hall j (by have:=List.mem_range.1 hj;omega)
 have hlt':i<n:=by omega
 have next:((decide (i=a)||dd i)||(aheadW dd on i a||aheadW dd on a i))=true→∀ j,j<i+1→((decide (j=a)||dd j)||(aheadW dd on j a||aheadW dd on a j))=true:=fun hi' j hj=>by
  rcases Nat.lt_or_ge j i with e | e
  ·exact hall j e
  ·have:j=i:=by omega
   subst this;exact hi'
 obtain ⟨g',p',cap',hlv',cb⟩:=y.line hlt'
 rw [hlv] at hlv'
 cases hlv'
 have db:=cb 8 _ rfl
 rw [hd i hlt'] at db
 refine zgo ?_
 by_cases hia:i=a
 ·have d1:decide ((i:Int)=(a:Int))=true:=decide_eq_true (by omega)
  rw [d1]
  refine zgo ?_
  exact ih (i+1) _ _ (by omega) ⟨rfl,rfl,rfl,trivial⟩ ⟨rfl,hlt',next (by simp [hia])⟩
 have d1:decide ((i:Int)=(a:Int))=false:=decide_eq_false (by omega)
 rw [d1]
 cases h2:dd i
 rotate_left
 ·rw [h2] at db
  refine zgo ?_
  exact ih (i+1) _ _ (by omega) ⟨rfl,rfl,rfl,trivial⟩ ⟨rfl,hlt',next (by simp [h2])⟩
 rw [h2] at db
 refine zgo ?_
 refine WO.call rfl rfl rfl rfl plain_isAhead rfl (isAhead_ret _ y hd i a hlt' ha) fun v3 h3 ⟨hh3,hv3⟩=>?_
 subst hh3 hv3
 cases h3:aheadW dd on i a
 rotate_left
 ·refine zgo ?_
  exact ih (i+1) _ _ (by omega) ⟨rfl,rfl,rfl,trivial⟩ ⟨rfl,hlt',next (by simp [h3])⟩
 refine zgo ?_
 refine WO.call rfl rfl rfl rfl plain_isAhead rfl (isAhead_ret _ y hd a i ha hlt') fun v4 h4 ⟨hh4,hv4⟩=>?_
 subst hh4 hv4
 cases h4:aheadW dd on a i
 ·refine zgo ?_
  refine Runs.ret Tryd.func97 (ret1 Tryd.results97 rfl) ⟨rfl,?_⟩
  congr 1;symm
  rw [Bool.not_false,Bool.true_and,List.all_eq_false]
  exact ⟨i,List.mem_range.2 hlt',by simp [hia,h2,h3,h4]⟩
 ·refine zgo ?_
  exact ih (i+1) _ _ (by omega) ⟨rfl,rfl,rfl,trivial⟩ ⟨rfl,hlt',next (by simp [h4])⟩
def setNum (w:Nat→WL) (a r b:Nat):Nat→WL:=fun k=>if k=a then { w k with ahead:=r,block:=b } else w k
def cntTo (dd:Nat→Bool) (on:List (List Bool)) (i a:Nat):Nat:=((List.range i).filter fun j=>aheadW dd on j a).length
def blkTo (dd:Nat→Bool) (on:List (List Bool)) (fx:Nat→Bool) (i a:Nat):Nat:=((List.range i).filter fun j=>aheadW dd on j a&&fx j).length
theorem cntTo_succ (dd:Nat→Bool) (on:List (List Bool)) (i a:Nat):cntTo dd on (i+1) a=cntTo dd on i a+if aheadW dd on i a=true then 1 else 0:=filter_range_succ _ _
theorem blkTo_succ (dd:Nat→Bool) (on:List (List Bool)) (fx:Nat→Bool) (i a:Nat):blkTo dd on fx (i+1) a=blkTo dd on fx i a+if (aheadW dd on i a&&fx i)=true then 1 else 0:=filter_range_succ _ _
theorem cntTo_le (dd:Nat→Bool) (on:List (List Bool)) (i a:Nat):cntTo dd on i a≤i:=filter_range_le _ _
theorem blkTo_le (dd:Nat→Bool) (on:List (List Bool)) (fx:Nat→Bool) (i a:Nat):blkTo dd on fx i a≤i:=filter_range_le _ _
theorem count_ret {w:Nat→WL} {dd fx:Nat→Bool} (h:Heap) (y:Web F G h wb x l pa n w on) (hd:∀ k,k<n→(w k).dead=dd k) (hf:∀ k,k<n→(w k).settled=fx k) (hn:n≤100000) (a:Nat) (ha:a<n) (h0:(w a).ahead=0) (h0':(w a).block=0) :
  Ret Tryd.prog 98 #[.pointer (some ⟨wb,0,none⟩),.int .i64 (a:Int)] h fun _ h'=>Fr (fun k=>x.lv.ownBlock=some k) h h'∧Web F G h' wb x l pa n (setNum w a (rankW n dd on a) (blockW n dd on fx a)) on:=by
 refine Ret.of_body Tryd.func98 rfl Tryd.ntmps98 rfl rfl ?_
 have start:setNum w a 0 0=w:=by
  funext k
  unfold setNum
  split
  ·rename_i e
   subst e
   revert h0 h0'
   generalize w k=z
   intro h0 h0'
   cases z
   simp at h0 h0'
   simp [h0,h0']
  ·rfl
 refine zgo ?_
 refine Runs.loop (X:=Nat) (fun i=>[(0,.pointer (some ⟨wb,0,none⟩)),(1,.int .i64 (a:Int)),(4,.int .i64 (i:Int))])
  (fun i h'=>i≤n∧Fr (fun k=>x.lv.ownBlock=some k) h h'∧Web F G h' wb x l pa n (setNum w a (cntTo dd on i a) (blkTo dd on fx i a)) on) (fun i=>n-i) 0 ⟨rfl,rfl,rfl,trivial⟩ ⟨Nat.zero_le _,Fr.refl _ _,by rw [show setNum w a (cntTo dd on 0 a) (blkTo dd on fx 0 a)=w from start];exact y⟩ ?_
 rintro i h2 ⟨hi,hf2,y2⟩ ih
 have hd2:∀ (r b k:Nat),k<n→(setNum w a r b k).dead=dd k:=fun r b k hk=>by
  unfold setNum;split
  ·exact hd k hk
  ·exact hd k hk
 have hs2:∀ (r b k:Nat),k<n→(setNum w a r b k).settled=fx k:=fun r b k hk=>by
  unfold setNum;split
  ·exact hf k hk
  ·exact hf k hk
 have w2:=y2.blk.cell (j:=2) rfl
 obtain ⟨ad,cap,hlv⟩:=y2.own.rd.form
 rw [hlv] at w2
 have hc1:=cntTo_succ dd on i a
 have hc2:=blkTo_succ dd on fx i a
 have hl1:=cntTo_le dd on i a
 have hl2:=blkTo_le dd on fx i a
 refine zgo ?_
 refine Runs.cond_dec rfl (fun hlt=>?_) (fun hge=>?_)
 rotate_left
 ·have e:i=n:=by omega
  subst e
  refine zgo ?_
  exact Runs.fall Tryd.func98 (ret0 Tryd.results98) ⟨hf2,y2⟩
 have hlt':i<n:=by omega
 refine zgo ?_
 refine WO.call rfl rfl rfl rfl plain_isAhead rfl (isAhead_ret _ y2 (hd2 _ _) i a hlt' ha) fun v3 h3 ⟨hh3,hv3⟩=>?_
 subst hh3 hv3
 cases h3:aheadW dd on i a
 ·rw [h3] at hc1 hc2
  simp only [Bool.false_and,Bool.false_eq_true,if_false,Nat.add_zero] at hc1 hc2
  refine zgo ?_
  exact ih (i+1) _ _ (by omega) ⟨rfl,rfl,rfl,trivial⟩ ⟨hlt',hf2,by rw [hc1,hc2];exact y2⟩
 rw [h3] at hc1 hc2
 simp only [Bool.true_and,if_true] at hc1 hc2
 obtain ⟨g,cap',c,hlv',hb,hcl,hput⟩:=y2.put ha
 rw [hlv] at hlv'
 cases hlv'
 obtain ⟨g',p',cap'',hlv'',ca⟩:=y2.line ha
 rw [hlv] at hlv''
 cases hlv''
 have c10:=ca 10 _ rfl
 unfold setNum at c10
 rw [if_pos rfl] at c10
 dsimp only at c10
 refine zgo ?_
 refine WO.put1 tab_ok rfl rfl rfl rfl rfl rfl rfl (one_int _) hb (by omega) fun h5 hb5 hx5 hs5=>?_
 have y5:Web F G h5 wb x l pa n (setNum w a (cntTo dd on i a+1) (blkTo dd on fx i a)) on:=by
  refine hput h5 10 _ _ (by omega) ?_ (fun k _ hk=>?_) (by simpa using hb5) hx5
  ·unfold setNum;rw [if_pos rfl,if_pos rfl];rfl
  ·unfold setNum;rw [if_neg hk,if_neg hk]
 have hf5:Fr (fun k=>x.lv.ownBlock=some k) h h5:=hf2.trans (hx5.mono fun k _ e=>by subst e;rw [hlv];rfl)
 have w5:=y5.blk.cell (j:=2) rfl
 rw [hlv] at w5
 obtain ⟨g6,p6,cap6,hlv6,ci⟩:=y5.line hlt'
 rw [hlv] at hlv6
 cases hlv6
 have c9:=ci 9 _ rfl
 rw [hs2 _ _ i hlt'] at c9
 cases hfi:fx i
 ·rw [hfi] at c9 hc2
  simp only [Bool.false_eq_true,if_false,Nat.add_zero] at hc2
  refine zgo ?_
  exact ih (i+1) _ _ (by omega) ⟨rfl,rfl,rfl,trivial⟩ ⟨hlt',hf5,by rw [hc1,hc2];exact y5⟩
 rw [hfi] at c9 hc2
 simp only [if_true] at hc2
 obtain ⟨g7,cap7,c7,hlv7,hb7,hcl7,hput7⟩:=y5.put ha
 rw [hlv] at hlv7
 cases hlv7
 obtain ⟨g8,p8,cap8,hlv8,ca8⟩:=y5.line ha
 rw [hlv] at hlv8
 cases hlv8
 have c11:=ca8 11 _ rfl
 unfold setNum at c11
 rw [if_pos rfl] at c11
 dsimp only at c11
 refine zgo ?_
 refine WO.put1 tab_ok rfl rfl rfl rfl rfl rfl rfl (one_int _) hb7 (by omega) fun h9 hb9 hx9 hs9=>?_
 have y9:Web F G h9 wb x l pa n (setNum w a (cntTo dd on i a+1) (blkTo dd on fx i a+1)) on:=by
  refine hput7 h9 11 _ _ (by omega) ?_ (fun k _ hk=>?_) (by simpa using hb9) hx9
  ·unfold setNum;rw [if_pos rfl,if_pos rfl];rfl
  ·unfold setNum;rw [if_neg hk,if_neg hk]
 have hf9:Fr (fun k=>x.lv.ownBlock=some k) h h9:=hf5.trans (hx9.mono fun k _ e=>by subst e;rw [hlv];rfl)
 refine zgo ?_
 exact ih (i+1) _ _ (by omega) ⟨rfl,rfl,rfl,trivial⟩ ⟨hlt',hf9,by rw [hc1,hc2];exact y9⟩
end
end Go.Proofs.YtlaffgagmncgjabDoor
namespace Go.Proofs.YtlaffgagmncgjabDoor
open Go Go.Pat Go.Proofs
theorem plain_isLoose:Plain Tryd.prog 99:=⟨_,Tryd.func99,by decide +kernel,by rfl⟩
theorem plain_areTogether:Plain Tryd.prog 114:=⟨_,Tryd.func114,by decide +kernel,by rfl⟩
theorem plain_gather:Plain Tryd.prog 100:=⟨_,Tryd.func100,by decide +kernel,by rfl⟩
theorem plain_part:Plain Tryd.prog 86:=⟨_,Tryd.func86,by decide +kernel,by rfl⟩
section
variable {F G:Nat→Prop} {wb:Nat} {x:WV} {l:List PD3} {pa:List (List Nat)} {n:Nat} {on:List (List Bool)}
theorem Web.congr {h:Heap} {w w':Nat→WL} (y:Web F G h wb x l pa n w on) (e:∀ k,k<n→w k=w' k):Web F G h wb x l pa n w' on :=
 ⟨y.blk,y.xs,y.ps,by rw [← wlsC_congr e];exact y.own,y.lm,y.ap⟩
theorem Web.move {h h':Heap} {w w':Nat→WL} (y:Web F G h wb x l pa n w on) (f:Fr (fun k=>x.lv.ownBlock=some k) h h') (o:Own h' 130 13 x.lv n (wlsC n w')):Web F G h' wb x l pa n w' on :=
 ⟨y.blk.fr f fun e=>(y.ap _ e).1 rfl,y.xs.fr f fun k hk e=>(y.ap k e).2.1 hk,y.ps.fr f fun k hk e=>(y.ap k e).2.2.1 hk,o,
  y.lm.fr f (fun k hk e=>(y.ap k e).2.2.2.2 hk) (fun k hk e=>(y.ap k e).2.2.2.1 hk),y.ap⟩
def fixW (w:Nat→WL) (fx:Nat→Bool) (i:Nat):Nat→WL:=fun k=>if k<i then { w k with settled:=fx k } else w k
def numW (w:Nat→WL) (rk bk:Nat→Nat) (i:Nat):Nat→WL:=fun k=>if k<i then { w k with ahead:=rk k,block:=bk k } else w k
def doneW (w:Nat→WL) (fx:Nat→Bool) (rk bk:Nat→Nat):Nat→WL:=fun k=>{ w k with settled:=fx k,ahead:=rk k,block:=bk k }
theorem settle_ret {w:Nat→WL} {dd:Nat→Bool} (h:Heap) (y:Web F G h wb x l pa n w on) (hd:∀ k,k<n→(w k).dead=dd k) (hn:n≤100000) (h0:∀ k,k<n→(w k).ahead=0) (h0':∀ k,k<n→(w k).block=0) :
  Ret Tryd.prog 85 #[.pointer (some ⟨wb,0,none⟩)] h fun _ h'=>Fr (fun k=>x.lv.ownBlock=some k) h h'∧Web F G h' wb x l pa n (doneW w (setW n dd on) (rankW n dd on) (blockW n dd on (setW n dd on))) on:=by
 refine Ret.of_body Tryd.func85 rfl Tryd.ntmps85 rfl rfl ?_
 have hd1:∀ (i k:Nat),k<n→(fixW w (setW n dd on) i k).dead=dd k:=fun i k hk=>by unfold fixW;split<;>exact hd k hk
 refine zgo ?_
 refine Runs.loop (X:=Nat) (fun i=>[(0,.pointer (some ⟨wb,0,none⟩)),(2,.int .i64 (i:Int))])
  (fun i h'=>i≤n∧Fr (fun k=>x.lv.ownBlock=some k) h h'∧Web F G h' wb x l pa n (fixW w (setW n dd on) i) on) (fun i=>n-i) 0 ⟨rfl,rfl,trivial⟩ ⟨Nat.zero_le _,Fr.refl _ _,y.congr fun k _=>by simp [fixW]⟩ ?_
 rintro i h2 ⟨hi,hf2,y2⟩ ih
 have w2:=y2.blk.cell (j:=2) rfl
 obtain ⟨ad,cap,hlv⟩:=y2.own.rd.form
 rw [hlv] at w2
 refine zgo ?_
 refine Runs.cond_dec rfl (fun hlt=>?_) (fun hge=>?_)
 ·have hlt':i<n:=by omega
  obtain ⟨g,cap',c,hlv',hb,hcl,hput⟩:=y2.put hlt'
  rw [hlv] at hlv'
  cases hlv'
  refine zgo ?_
  refine Runs.drawn (m:=11) (fun h'=>Ext h2 h') (fun i=>Nat.beq i 10) mixed rfl ?_
  refine zp 0 (Fr.refl _ _) ?_
  refine zp 1 (Fr.refl _ _) ?_
  refine zp 2 (Fr.refl _ _) ?_
  refine zl 3 (fun _ hS=>(Fr.xc hS w2)) (Fr.refl _ _) ?_
  refine zp 4 (Fr.refl _ _) ?_
  refine zp 5 (Fr.refl _ _) ?_
  refine zp 6 (Fr.refl _ _) ?_
  refine WF.call 7 (by kernel_rfl) rfl rfl rfl rfl rfl plain_isSettled rfl (isSettled_ret _ y2 (hd1 i) hn i hlt') fun v3 h3 ⟨hh3,hv3⟩=>⟨.inr (by rw [hh3];exact Fr.refl _ _),?_⟩
  subst hv3
  have hx3:Ext h2 h3:=by rw [hh3];exact Fr.refl _ _
  refine WF.ex 8 (by kernel_rfl) rfl rfl rfl rfl ((ov_indexAddr tab_ok rfl rfl rfl rfl rfl rfl (by omega)).ex ⟨.inr hx3,?_⟩)
  refine zx 9 hx3 ?_
  refine WF.put1 10 tab_ok (by kernel_rfl) rfl rfl rfl rfl rfl rfl rfl rfl (one_bool _) (hb.ext hx3) (by omega) rfl fun h5 hb5 hx5 hs5=>?_
  refine WF.done (by kernel_rfl) ?_
  have hx25:Fr (fun k=>k=g) h2 h5:=hx3.up.trans hx5
  have y5:Web F G h5 wb x l pa n (fixW w (setW n dd on) (i+1)) on:=by
   refine hput h5 9 _ _ (by omega) ?_ (fun k _ hk=>?_) (by simpa using hb5) hx25
   ·unfold fixW;rw [if_pos (by omega),if_neg (by omega)];rfl
   ·unfold fixW
    by_cases e:k<i
    ·rw [if_pos (by omega),if_pos e]
    ·rw [if_neg (by omega),if_neg e]
  refine zgo ?_
  exact ih (i+1) _ _ (by omega) ⟨rfl,rfl,trivial⟩ ⟨hlt',hf2.trans (hx25.mono fun k _ e=>by subst e;rw [hlv];rfl),y5⟩
 have e:i=n:=by omega
 subst e
 have hdn:∀ (j k:Nat),k<i→(numW (fixW w (setW i dd on) i) (rankW i dd on) (blockW i dd on (setW i dd on)) j k).dead=dd k:=fun j k hk=>by unfold numW;split<;>exact hd1 i k hk
 have hsn:∀ (j k:Nat),k<i→(numW (fixW w (setW i dd on) i) (rankW i dd on) (blockW i dd on (setW i dd on)) j k).settled=setW i dd on k:=fun j k hk=>by unfold numW fixW;rw [if_pos hk];split<;>rfl
 refine zgo ?_
 refine Runs.loop (X:=Nat) (fun j=>[(0,.pointer (some ⟨wb,0,none⟩)),(3,.int .i64 (j:Int))])
  (fun j h'=>j≤i∧Fr (fun k=>x.lv.ownBlock=some k) h h'∧Web F G h' wb x l pa i (numW (fixW w (setW i dd on) i) (rankW i dd on) (blockW i dd on (setW i dd on)) j) on) (fun j=>i-j) 0 ⟨rfl,rfl,trivial⟩ ⟨Nat.zero_le _,hf2,y2.congr fun k _=>by simp [numW]⟩ ?_
 rintro j h3 ⟨hj,hf3,y3⟩ ih3
 have w3:=y3.blk.cell (j:=2) rfl
 rw [hlv] at w3
 refine zgo ?_
 refine Runs.cond_dec rfl (fun hlt3=>?_) (fun hge3=>?_)
 ·have hltj:j<i:=by omega
  refine zgo ?_
  refine WO.call rfl rfl rfl rfl plain_count rfl (count_ret _ y3 (hdn j) (hsn j) hn j hltj (by unfold numW fixW;rw [if_neg (by omega),if_pos hltj];exact h0 j hltj) (by unfold numW fixW;rw [if_neg (by omega),if_pos hltj];exact h0' j hltj)) fun v4 h4 ⟨hf4,y4⟩=>?_
  refine zgo ?_
  refine ih3 (j+1) _ _ (by omega) ⟨rfl,rfl,trivial⟩ ⟨hltj,hf3.trans hf4,y4.congr fun k hk=>?_⟩
  unfold setNum numW
  by_cases e1:k=j
  ·subst e1
   rw [if_pos rfl,if_neg (by omega),if_pos (by omega)]
  ·rw [if_neg e1]
   by_cases e2:k<j
   ·rw [if_pos e2,if_pos (by omega)]
   ·rw [if_neg e2,if_neg (by omega)]
 have e:j=i:=by omega
 subst e
 refine zgo ?_
 refine Runs.fall Tryd.func85 (ret0 Tryd.results85) ⟨hf3,y3.congr fun k hk=>?_⟩
 unfold numW fixW doneW
 rw [if_pos hk,if_pos hk]
theorem isLoose_ret {w:Nat→WL} {dd fx:Nat→Bool} (h:Heap) (y:Web F G h wb x l pa n w on) (hd:∀ k,k<n→(w k).dead=dd k) (hf:∀ k,k<n→(w k).settled=fx k) (a:Nat) (ha:a<n) :
  Ret Tryd.prog 99 #[.pointer (some ⟨wb,0,none⟩),.int .i64 (a:Int)] h fun v h'=>Ext h h'∧v = .bool (looseW dd fx a&&decide ((w a).strand = -1)):=by
 refine Ret.of_body Tryd.func99 rfl Tryd.ntmps99 rfl rfl ?_
 have w2:=y.blk.cell (j:=2) rfl
 obtain ⟨g,p,cap,hlv,ca⟩:=y.line ha
 rw [hlv] at w2
 refine zgo ?_
 refine zv (w a).one fun h1 hb1 hx1 hs1=>?_
 have c8:=hb1.cell (j:=8) rfl
 have c9:=hb1.cell (j:=9) rfl
 have c12:=hb1.cell (j:=12) rfl
 rw [hd a ha] at c8
 rw [hf a ha] at c9
 unfold looseW
 cases h1:dd a
 ·rw [h1] at c8
  cases h2:fx a
  ·rw [h2] at c9
   refine zgo ?_
   exact Runs.ret Tryd.func99 (ret1 Tryd.results99 rfl) ⟨hx1,by simp⟩
  ·rw [h2] at c9
   refine zgo ?_
   exact Runs.ret Tryd.func99 (ret1 Tryd.results99 rfl) ⟨hx1,rfl⟩
 ·rw [h1] at c8
  refine zgo ?_
  exact Runs.ret Tryd.func99 (ret1 Tryd.results99 rfl) ⟨hx1,rfl⟩
theorem areTogether_ret {w:Nat→WL} {bk:Nat→Nat} (h:Heap) (y:Web F G h wb x l pa n w on) (hb:∀ k,k<n→(w k).block=bk k) (a b:Nat) (ha:a<n) (hb':b<n) :
  Ret Tryd.prog 114 #[.pointer (some ⟨wb,0,none⟩),.int .i64 (a:Int),.int .i64 (b:Int)] h fun v h'=>h'=h∧v = .bool (decide (bk a=bk b)&&(getB on a b||getB on b a)):=by
 refine Ret.of_body Tryd.func114 rfl Tryd.ntmps114 rfl rfl ?_
 have w2:=y.blk.cell (j:=2) rfl
 have w3:=y.blk.cell (j:=3) rfl
 obtain ⟨g,p,cap,hlv,ca⟩:=y.line ha
 obtain ⟨g',p',cap',hlv',cb⟩:=y.line hb'
 rw [hlv] at hlv' w2
 cases hlv'
 have da:=ca 11 _ rfl
 have db:=cb 11 _ rfl
 rw [hb a ha] at da
 rw [hb b hb'] at db
 obtain ⟨ob,q,dcap,rb,r,hdv,_,_,_,ra,_,rab⟩:=y.lm.get ha
 obtain ⟨ob',q',dcap',rb',r',hdv',_,_,_,rb2,_,rba⟩:=y.lm.get hb'
 rw [hdv] at hdv' w3
 cases hdv'
 have e1:=rab b hb'
 have e2:=rba a ha
 refine zgo ?_
 refine Runs.still mixed (by kernel_rfl) ?_
 refine zws ?_
 refine Runs.cond_ndec rfl (fun hne=>?_) (fun heq=>?_)
 ·refine zgo ?_
  exact Runs.ret Tryd.func114 (ret1 Tryd.results114 rfl) ⟨rfl,by rw [decide_eq_false (by omega)];rfl⟩
 ·rw [decide_eq_true (show bk a=bk b by omega)]
  cases h3:getB on a b
  ·rw [h3] at e1
   refine zgo ?_
   exact Runs.ret Tryd.func114 (ret1 Tryd.results114 rfl) ⟨rfl,rfl⟩
  ·rw [h3] at e1
   refine zgo ?_
   exact Runs.ret Tryd.func114 (ret1 Tryd.results114 rfl) ⟨rfl,rfl⟩
def strIn (w:Nat→WL) (fl:List Nat) (s:Nat):Nat→WL:=fun k=>if k∈fl then { w k with strand:=(s:Int) } else w k
structure GX where
 (i:Nat) (v:Value) (fl:List Nat)
structure Gth (n:Nat) (dd fx:Nat→Bool) (bk:Nat→Nat) (on:List (List Bool)) (s:Nat) (fl:List Nat) (i:Nat):Prop where
 mem:s∈fl
 nodup:fl.Nodup
 conn:∀ k∈fl,k<n∧ConnW n dd fx bk on s k
 closed:∀ (p a:Nat),p<i→fl[p]? = some a→∀ b,b<n→bndW dd fx bk on a b=true→b∈fl
theorem Gth.len {dd fx:Nat→Bool} {bk:Nat→Nat} {s:Nat} {fl:List Nat} {i:Nat} (g:Gth n dd fx bk on s fl i):fl.length≤n:=by
 have:=nodup_len (m:=List.range n) g.nodup fun k hk=>List.mem_range.2 (g.conn k hk).1
 simpa using this
theorem Gth.all {dd fx:Nat→Bool} {bk:Nat→Nat} {s:Nat} {fl:List Nat} (g:Gth n dd fx bk on s fl fl.length) (k:Nat):k∈fl↔ConnW n dd fx bk on s k:=by
 constructor
 ·intro h;exact (g.conn k h).2
 ·intro h
  refine h (fun k=>k∈fl) g.mem fun a b ih hb hbd=>?_
  obtain ⟨i,hi,he⟩:=List.getElem_of_mem ih
  exact g.closed i a hi (by rw [List.getElem?_eq_getElem hi,he]) b hb hbd
theorem gather_ret {w:Nat→WL} {dd fx:Nat→Bool} {bk:Nat→Nat} (h:Heap) (y:Web F G h wb x l pa n w on) (hd:∀ k,k<n→(w k).dead=dd k) (hf:∀ k,k<n→(w k).settled=fx k) (hb:∀ k,k<n→(w k).block=bk k) (hn:n≤100000) (s:Nat) (hs:s<n)
  (hfree:∀ k,ConnW n dd fx bk on s k→(w k).strand = -1) :
  Ret Tryd.prog 100 #[.pointer (some ⟨wb,0,none⟩),.int .i64 (s:Int)] h fun _ h'=>Fr (fun k=>x.lv.ownBlock=some k) h h'∧∃ fl:List Nat,(∀ k,k∈fl↔ConnW n dd fx bk on s k)∧Web F G h' wb x l pa n (strIn w fl s) on:=by
 refine Ret.of_body Tryd.func100 rfl Tryd.ntmps100 rfl rfl ?_
 have w2:=y.blk.cell (j:=2) rfl
 obtain ⟨ad,cap,hlv⟩:=y.own.rd.form
 rw [hlv] at w2
 obtain ⟨g,cap',c,hlv',hbk,hcl,hput⟩:=y.put hs
 rw [hlv] at hlv'
 cases hlv'
 have hgl:g<h.size:=hbk.lt
 have hdl:∀ (fl:List Nat) (k:Nat),k<n→(strIn w fl s k).dead=dd k:=fun fl k hk=>by unfold strIn;split<;>exact hd k hk
 have hfl:∀ (fl:List Nat) (k:Nat),k<n→(strIn w fl s k).settled=fx k:=fun fl k hk=>by unfold strIn;split<;>exact hf k hk
 have hbl:∀ (fl:List Nat) (k:Nat),k<n→(strIn w fl s k).block=bk k:=fun fl k hk=>by unfold strIn;split<;>exact hb k hk
 refine zgo ?_
 refine WO.put1 tab_ok rfl rfl rfl rfl rfl rfl rfl (one_int _) hbk (by omega) fun h1 hb1 hx1 hs1=>?_
 have y1:Web F G h1 wb x l pa n (strIn w [s] s) on:=by
  refine hput h1 12 _ _ (by omega) ?_ (fun k _ hk=>?_) (by simpa using hb1) hx1
  ·unfold strIn;rw [if_pos (by simp)];rfl
  ·unfold strIn;rw [if_neg (by simpa using hk)]
 have hf1:Fr (fun k=>x.lv.ownBlock=some k) h h1:=hx1.mono fun k _ e=>by subst e;rw [hlv];rfl
 refine zgo ?_
 refine WO.lit [.int .i64 (s:Int)] tab_ok rfl rfl rfl rfl rfl rfl rfl rfl rfl rfl rfl rfl fun h2 hb2 hx2 hs2=>?_
 have hz1:=hx1.size
 refine zgo ?_
 refine Runs.loop (X:=GX) (fun u=>[(0,.pointer (some ⟨wb,0,none⟩)),(1,.int .i64 (s:Int)),(4,u.v),(5,.int .i64 (u.i:Int))])
  (fun u h'=>u.i≤u.fl.length∧Gth n dd fx bk on s u.fl u.i∧Fr (fun k=>x.lv.ownBlock=some k) h h'∧Own h' 130 13 x.lv n (wlsC n (strIn w u.fl s))∧Own h' 3 1 u.v u.fl.length (ints u.fl)∧(∀ k,u.v.ownBlock=some k→h.size≤k))
  (fun u=>n-u.i) ⟨0,.slice (some ⟨h1.size,0,none⟩) 1 1,[s]⟩ ⟨rfl,rfl,rfl,rfl,trivial⟩
  ⟨by simp,⟨by simp,by simp,fun k hk=>by simp at hk;subst hk;exact ⟨hs,.refl⟩,fun p a hp=>by dsimp only at hp;omega⟩,hf1.ex hx2,y1.own.fr hx2 (by simp),⟨by simp [ints],.inr ⟨h1.size,1,_,rfl,hb2,by simp,by unfold maxLen;omega,by simp,by simp [ints]⟩⟩,fun k hk=>by simp [Value.ownBlock] at hk;omega⟩ ?_
 rintro ⟨i,v,fl⟩ h3 ⟨hi,hg,hf3,ho3,hv3,hm3⟩ ih
 dsimp only at hi hg hf3 ho3 hv3 hm3 ih ⊢
 have hlen:=hg.len
 obtain ⟨adv,capv,hvv⟩:=hv3.rd.form
 subst hvv
 refine zgo ?_
 refine Runs.cond_dec rfl (fun hlt=>?_) (fun hge=>?_)
 rotate_left
 ·have e:i=fl.length:=by omega
  subst e
  refine zgo ?_
  exact Runs.fall Tryd.func100 (ret0 Tryd.results100) ⟨hf3,fl,hg.all,y.move hf3 ho3⟩
 have hlt':i<fl.length:=by omega
 have hget:fl[i]? = some fl[i]:=List.getElem?_eq_getElem hlt'
 have hmem:fl[i]∈fl:=List.getElem_mem hlt'
 generalize fl[i]=a at *
 obtain ⟨han,hac⟩:=hg.conn a hmem
 refine zgo ?_
 refine Runs.loop (X:=GX) (fun u=>[(0,.pointer (some ⟨wb,0,none⟩)),(1,.int .i64 (s:Int)),(4,u.v),(5,.int .i64 (i:Int)),(6,.int .i64 (u.i:Int))])
  (fun u h'=>u.i≤n∧Gth n dd fx bk on s u.fl i∧i<u.fl.length∧u.fl[i]? = some a∧(∀ b,b<u.i→bndW dd fx bk on a b=true→b∈u.fl)∧Fr (fun k=>x.lv.ownBlock=some k) h h'∧Own h' 130 13 x.lv n (wlsC n (strIn w u.fl s))∧Own h' 3 1 u.v u.fl.length (ints u.fl)∧(∀ k,u.v.ownBlock=some k→h.size≤k))
  (fun u=>n-u.i) ⟨0,_,fl⟩ ⟨rfl,rfl,rfl,rfl,rfl,trivial⟩ ⟨Nat.zero_le _,hg,hlt',hget,fun b hb=>by dsimp only at hb;omega,hf3,ho3,hv3,hm3⟩ ?_
 rintro ⟨j,v4,fl4⟩ h4 ⟨hj,hg4,hi4,hget4,hall4,hf4,ho4,hv4,hm4⟩ ih4
 dsimp only at hj hg4 hi4 hget4 hall4 hf4 ho4 hv4 hm4 ih4 ⊢
 have y4:=y.move hf4 ho4
 have hlen4:=hg4.len
 have hz4:=hf4.size
 have w4:=y4.blk.cell (j:=2) rfl
 rw [hlv] at w4
 refine zgo ?_
 refine Runs.cond_dec rfl (fun hlt4=>?_) (fun hge4=>?_)
 rotate_left
 ·refine zgo ?_
  refine ih ⟨i+1,v4,fl4⟩ _ _ (by dsimp only;omega) ⟨rfl,rfl,rfl,rfl,trivial⟩ ⟨hi4,⟨hg4.mem,hg4.nodup,hg4.conn,fun p b hp hpb c hc hbd=>?_⟩,hf4,ho4,hv4,hm4⟩
  rcases Nat.lt_or_ge p i with e | e
  ·exact hg4.closed p b e hpb c hc hbd
  ·have:p=i:=by dsimp only at hp;omega
   subst this
   have:b=a:=by have:=hpb.symm.trans hget4;simpa using this
   subst this
   exact hall4 c (by omega) hbd
 have hltj:j<n:=by omega
 have step:∀ (fl5:List Nat),(∀ q∈fl4,q∈fl5)→(bndW dd fx bk on a j=true→j∈fl5)→∀ b,b<j+1→bndW dd fx bk on a b=true→b∈fl5:=fun fl5 hsub hj5 b hb hbd=>by
  rcases Nat.lt_or_ge b j with e | e
  ·exact hsub b (hall4 b e hbd)
  ·have:b=j:=by omega
   subst this;exact hj5 hbd
 refine zgo ?_
 refine WO.call rfl rfl rfl rfl plain_isLoose rfl (isLoose_ret _ y4 (hdl fl4) (hfl fl4) j hltj) fun v5 h5 ⟨hx5,hv5⟩=>?_
 subst hv5
 have hf5:=hf4.ex hx5
 have ho5:=ho4.fr hx5 (by simp)
 have hv5:=hv4.fr hx5 (by simp)
 have y5:=y.move hf5 ho5
 cases hL:looseW dd fx j&&decide ((strIn w fl4 s j).strand = -1)
 ·refine zgo ?_
  refine ih4 ⟨j+1,v4,fl4⟩ _ _ (by dsimp only;omega) ⟨rfl,rfl,rfl,rfl,rfl,trivial⟩ ⟨hltj,hg4,hi4,hget4,step fl4 (fun _ e=>e) fun hbd=>?_,hf5,ho5,hv5,hm4⟩
  apply Classical.byContradiction
  intro hnot
  have hcj:=hac.step hltj hbd
  have hl1:looseW dd fx j=true:=by unfold bndW at hbd;simp only [Bool.and_eq_true] at hbd;exact hbd.1
  have hst:(strIn w fl4 s j).strand = -1:=by unfold strIn;rw [if_neg hnot];exact hfree j hcj
  rw [hl1,decide_eq_true hst] at hL
  cases hL
 have hlo:looseW dd fx j=true:=by simp only [Bool.and_eq_true] at hL;exact hL.1
 have hsj:(strIn w fl4 s j).strand = -1:=by simp only [Bool.and_eq_true,decide_eq_true_eq] at hL;exact hL.2
 have hnot:j∉fl4:=fun e=>by unfold strIn at hsj;rw [if_pos e] at hsj;dsimp only at hsj;omega
 obtain ⟨b0,p0,cap0,hvv,_,hcell⟩:=hv5.rd.cell (ints_get hget4)
 subst hvv
 refine zgo ?_
 refine WO.call rfl rfl rfl rfl plain_areTogether rfl (areTogether_ret _ y5 (hbl fl4) a j han hltj) fun v6 h6 ⟨hh6,hv6⟩=>?_
 subst hh6 hv6
 cases hT:decide (bk a=bk j)&&(getB on a j||getB on j a)
 ·refine zgo ?_
  refine ih4 ⟨j+1,_,fl4⟩ _ _ (by dsimp only;omega) ⟨rfl,rfl,rfl,rfl,rfl,trivial⟩ ⟨hltj,hg4,hi4,hget4,step fl4 (fun _ e=>e) fun hbd=>?_,hf5,ho5,hv5,hm4⟩
  unfold bndW at hbd
  rw [hT] at hbd
  simp at hbd
 have hbd:bndW dd fx bk on a j=true:=by unfold bndW;rw [hT,hlo];rfl
 obtain ⟨g6,cap6,c6,hlv6,hb6,hcl6,hput6⟩:=y5.put hltj
 rw [hlv] at hlv6
 cases hlv6
 have w5:=y5.blk.cell (j:=2) rfl
 rw [hlv] at w5
 refine zgo ?_
 refine WO.put1 tab_ok rfl rfl rfl rfl rfl rfl rfl (one_int _) hb6 (by omega) fun h7 hb7 hx7 hs7=>?_
 have y7:Web F G h7 wb x l pa n (strIn w (fl4++[j]) s) on:=by
  refine hput6 h7 12 _ _ (by omega) ?_ (fun k _ hk=>?_) (by simpa using hb7) hx7
  ·unfold strIn;rw [if_pos (by simp),if_neg hnot];rfl
  ·unfold strIn
   by_cases e:k∈fl4
   ·rw [if_pos (by simp [e]),if_pos e]
   ·rw [if_neg (by simp [e,hk]),if_neg e]
 have hf7:Fr (fun k=>x.lv.ownBlock=some k) h h7:=hf5.trans (hx7.mono fun k _ e=>by subst e;rw [hlv];rfl)
 have hv7:=hv5.fr hx7 (fun k hk e=>by subst e;have:=hm4 _ hk;omega)
 refine zgo ?_
 refine zh (one_int _) hv7 ?_
 intro v8 h8 q1 q2 q3
 refine zgo ?_
 have hz7:=hf7.size
 refine ih4 ⟨j+1,v8,fl4++[j]⟩ _ _ (by dsimp only;omega) ⟨rfl,rfl,rfl,rfl,rfl,trivial⟩ ⟨hltj,⟨List.mem_append_left _ hg4.mem,?_,fun k hk=>?_,fun p b hp hpb c hc hbd'=>?_⟩,by dsimp only;simp;omega,?_,step _ (fun _ e=>List.mem_append_left _ e) (fun _=>by simp),hf7.trans_new (q2.mono fun k _ e=>.inr (hm4 k e)),y7.own.fr q2 (fun k hk e=>by have:=hm4 k e;rw [hlv] at hk;simp [Value.ownBlock] at hk;omega),?_,fun k hk=>?_⟩
 ·dsimp only
  rw [List.nodup_append]
  exact ⟨hg4.nodup,by simp,fun p hp q hq e=>by simp at hq;subst hq;subst e;exact hnot hp⟩
 ·dsimp only at hk
  rcases List.mem_append.1 hk with e | e
  ·exact hg4.conn k e
  ·simp at e;subst e;exact ⟨hltj,hac.step hltj hbd⟩
 ·dsimp only at hpb ⊢
  rw [List.getElem?_append_left (by omega)] at hpb
  exact List.mem_append_left _ (hg4.closed p b hp hpb c hc hbd')
 ·dsimp only;rw [List.getElem?_append_left hi4];exact hget4
 ·dsimp only;simpa [ints] using q1
 ·rcases q3 k hk with e | e
  ·exact hm4 k e
  ·omega
end
end Go.Proofs.YtlaffgagmncgjabDoor
namespace Go.Pat
open Go
theorem ov_bneq {P:Program} {n:Nat} {env:Env} {h:Heap} {o:Oper} {T:Tab} {t u:TypeId} {x y:Operand} {p q:Bool} {sz by_:Nat} {z:Value} (hT:T.ok P) (ho:o.op = .binOp .neq t x y u) (hx:env.ev? x=some (.bool p)) (hy:env.ev? y=some (.bool q)) (ht:T.get? t=some ⟨sz,by_,z,.bool⟩) :
  OpVal P n env o h (.bool (!(p == q))):=fun w a _ ha=>by
 have hu:P.underlying t=some .bool:=(Tab.fits hT ht).2
 have hg:(eqGuard .neq t x y (.bool p) (.bool q)).run P w = .ok () w:=run_eqGuard_ne (by simp) (by simp) w
 simp [execOp,ho,ha.ev hx,ha.ev hy,hg,binOp,equal_succ,run_eq_bool (Tab.fits hT ht) hu]
end Go.Pat
namespace Go.Proofs.YtlaffgagmncgjabDoor
open Go Go.Pat Go.Proofs
theorem plain_isShownFirst:Plain Tryd.prog 115:=⟨_,Tryd.func115,by decide +kernel,by rfl⟩
theorem plain_insert:Plain Tryd.prog 101:=⟨_,Tryd.func101,by decide +kernel,by rfl⟩
theorem plain_order:Plain Tryd.prog 87:=⟨_,Tryd.func87,by decide +kernel,by rfl⟩
section
variable {F G:Nat→Prop} {wb:Nat} {x:WV} {l:List PD3} {pa:List (List Nat)} {n:Nat} {on:List (List Bool)}
def sdW (w:Nat→WL) (st:Nat→Int):Nat→WL:=fun k=>{ w k with strand:=st k }
structure PI (n:Nat) (dd fx:Nat→Bool) (bk:Nat→Nat) (on:List (List Bool)) (i:Nat) (st:Nat→Int):Prop where
 a:∀ k,k<n→looseW dd fx k=true→(st k = -1∧∀ r,ConnW n dd fx bk on k r→i≤r)∨∃ r:Nat,IsStrW n dd fx bk on k r∧r<i∧st k=(r:Int)
 b:∀ k,k<n→looseW dd fx k=false→st k = -1
structure PSX where
 (i:Nat) (st:Nat→Int)
theorem part_ret {w:Nat→WL} {dd fx:Nat→Bool} {bk:Nat→Nat} (h:Heap) (y:Web F G h wb x l pa n w on) (hd:∀ k,k<n→(w k).dead=dd k) (hf:∀ k,k<n→(w k).settled=fx k) (hb:∀ k,k<n→(w k).block=bk k) (hn:n≤100000) (h0:∀ k,k<n→(w k).strand = -1) :
  Ret Tryd.prog 86 #[.pointer (some ⟨wb,0,none⟩)] h fun _ h'=>Fr (fun k=>x.lv.ownBlock=some k) h h'∧∃ st:Nat→Int,PI n dd fx bk on n st∧Web F G h' wb x l pa n (sdW w st) on:=by
 refine Ret.of_body Tryd.func86 rfl Tryd.ntmps86 rfl rfl ?_
 have hd1:∀ (st:Nat→Int) (k:Nat),k<n→(sdW w st k).dead=dd k:=fun st k hk=>hd k hk
 have hf1:∀ (st:Nat→Int) (k:Nat),k<n→(sdW w st k).settled=fx k:=fun st k hk=>hf k hk
 have hb1:∀ (st:Nat→Int) (k:Nat),k<n→(sdW w st k).block=bk k:=fun st k hk=>hb k hk
 refine zgo ?_
 refine Runs.loop (X:=PSX) (fun u=>[(0,.pointer (some ⟨wb,0,none⟩)),(2,.int .i64 (u.i:Int))])
  (fun u h'=>u.i≤n∧Fr (fun k=>x.lv.ownBlock=some k) h h'∧PI n dd fx bk on u.i u.st∧Web F G h' wb x l pa n (sdW w u.st) on) (fun u=>n-u.i) ⟨0,fun _=>-1⟩ ⟨rfl,rfl,trivial⟩
  ⟨Nat.zero_le _,Fr.refl _ _,⟨fun k _ _=>.inl ⟨rfl,fun r _=>Nat.zero_le _⟩,fun _ _ _=>rfl⟩,y.congr fun k hk=>by
   unfold sdW
   have:=h0 k hk
   revert this
   generalize w k=z
   intro h0
   cases z
   simp at h0
   simp [h0]⟩ ?_
 rintro ⟨i,st⟩ h2 ⟨hi,hf2,hp,y2⟩ ih
 dsimp only at hi hf2 hp y2 ih ⊢
 have w2:=y2.blk.cell (j:=2) rfl
 obtain ⟨ad,cap,hlv⟩:=y2.own.rd.form
 rw [hlv] at w2
 refine zgo ?_
 refine Runs.cond_dec rfl (fun hlt=>?_) (fun hge=>?_)
 rotate_left
 ·have e:i=n:=by omega
  subst e
  refine zgo ?_
  exact Runs.fall Tryd.func86 (ret0 Tryd.results86) ⟨hf2,st,hp,y2⟩
 have hlt':i<n:=by omega
 refine zgo ?_
 refine WO.call rfl rfl rfl rfl plain_isLoose rfl (isLoose_ret _ y2 (hd1 st) (hf1 st) i hlt') fun v3 h3 ⟨hx3,hv3⟩=>?_
 subst hv3
 have y3:=y2.ext hx3
 have hst:(sdW w st i).strand=st i:=rfl
 rw [hst]
 cases hL:looseW dd fx i&&decide (st i = -1)
 ·refine zgo ?_
  refine ih ⟨i+1,st⟩ _ _ (by dsimp only;omega) ⟨rfl,rfl,trivial⟩ ⟨hlt',hf2.ex hx3,⟨fun k hk hl=>?_,hp.b⟩,y3⟩
  rcases hp.a k hk hl with ⟨e1,e2⟩ | ⟨r,e1,e2,e3⟩
  ·refine .inl ⟨e1,fun r hr=>?_⟩
   have h1:=e2 r hr
   rcases Nat.lt_or_ge i r with e | e
   ·exact e
   ·exfalso
    have:r=i:=by omega
    subst this
    obtain ⟨hr1,hr2⟩:=hr.loose hk hl
    rw [hr2,Bool.true_and] at hL
    have hne:st r ≠ -1:=of_decide_eq_false hL
    rcases hp.a r hr1 hr2 with ⟨q1,_⟩ | ⟨r',q1,q2,_⟩
    ·exact hne q1
    ·have:=e2 r' (hr.trans q1.conn);omega
  ·exact .inr ⟨r,e1,by dsimp only;omega,e3⟩
 have hl1:looseW dd fx i=true:=by simp only [Bool.and_eq_true] at hL;exact hL.1
 have hl2:st i = -1:=by simp only [Bool.and_eq_true,decide_eq_true_eq] at hL;exact hL.2
 have hleast:∀ r,ConnW n dd fx bk on i r→i≤r:=by
  rcases hp.a i hlt' hl1 with ⟨_,e2⟩ | ⟨r,_,_,e3⟩
  ·exact e2
  ·omega
 refine zgo ?_
 refine WO.call rfl rfl rfl rfl plain_gather rfl (gather_ret _ y3 (hd1 st) (hf1 st) (hb1 st) hn i hlt' fun k hk=>?_) fun v4 h4 ⟨hf4,fl,hfl,y4⟩=>?_
 ·obtain ⟨hk1,hk2⟩:=hk.loose hlt' hl1
  show st k = -1
  rcases hp.a k hk1 hk2 with ⟨e1,_⟩ | ⟨r,e1,e2,_⟩
  ·exact e1
  ·have:=hleast r (hk.trans e1.conn);omega
 refine zgo ?_
 refine ih ⟨i+1,fun k=>if k∈fl then (i:Int) else st k⟩ _ _ (by dsimp only;omega) ⟨rfl,rfl,trivial⟩ ⟨hlt',(hf2.ex hx3).trans hf4,⟨fun k hk hl=>?_,fun k hk hl=>?_⟩,y4.congr fun k hk=>?_⟩
 ·dsimp only
  by_cases e:k∈fl
  ·have hc:=(hfl k).1 e
   rw [if_pos e]
   exact .inr ⟨i,⟨hc.symm hlt' hl1,fun r hr=>hleast r (hc.trans hr)⟩,Nat.lt_succ_self i,rfl⟩
  ·rw [if_neg e]
   rcases hp.a k hk hl with ⟨e1,e2⟩ | ⟨r,e1,e2,e3⟩
   ·refine .inl ⟨e1,fun r hr=>?_⟩
    have h1:=e2 r hr
    rcases Nat.lt_or_ge i r with e' | e'
    ·exact e'
    ·exfalso
     have:r=i:=by omega
     subst this
     exact e ((hfl k).2 (hr.symm hk hl))
   ·exact .inr ⟨r,e1,by omega,e3⟩
 ·dsimp only
  rw [if_neg fun e=>by
   have:=(((hfl k).1 e).loose hlt' hl1).2
   rw [hl] at this;cases this]
  exact hp.b k hk hl
 ·unfold strIn sdW
  dsimp only
  by_cases e:k∈fl
  ·rw [if_pos e,if_pos e]
  ·rw [if_neg e,if_neg e]
theorem isShownFirst_ret {w:Nat→WL} {fx:Nat→Bool} {rk bk:Nat→Nat} {sd:Nat→Int} (h:Heap) (y:Web F G h wb x l pa n w on) (hf:∀ k,k<n→(w k).settled=fx k) (hr:∀ k,k<n→(w k).ahead=rk k) (hb:∀ k,k<n→(w k).block=bk k) (hs:∀ k,k<n→(w k).strand=sd k) (a b:Nat) (ha:a<n) (hb':b<n) :
  Ret Tryd.prog 115 #[.pointer (some ⟨wb,0,none⟩),.int .i64 (a:Int),.int .i64 (b:Int)] h fun v h'=>Ext h h'∧v = .bool (firstW fx bk rk sd a b):=by
 refine Ret.of_body Tryd.func115 rfl Tryd.ntmps115 rfl rfl ?_
 have w2:=y.blk.cell (j:=2) rfl
 obtain ⟨g,p,cap,hlv,ca⟩:=y.line ha
 obtain ⟨g',p',cap',hlv',cb⟩:=y.line hb'
 rw [hlv] at hlv' w2
 cases hlv'
 refine zgo ?_
 refine zv (w a).one fun h1 hb1 hx1 hs1=>?_
 have w3:=hx1.xc w2
 have cb1:=hx1.xcs cb
 refine zgo ?_
 refine zv (w b).one fun h2 hb2 hx2 hs2=>?_
 have hb1':=hb1.ext hx2
 have a9:=hb1'.cell (j:=9) rfl
 have a10:=hb1'.cell (j:=10) rfl
 have a11:=hb1'.cell (j:=11) rfl
 have a12:=hb1'.cell (j:=12) rfl
 have b9:=hb2.cell (j:=9) rfl
 have b10:=hb2.cell (j:=10) rfl
 have b11:=hb2.cell (j:=11) rfl
 have b12:=hb2.cell (j:=12) rfl
 rw [hf a ha] at a9
 rw [hf b hb'] at b9
 rw [hr a ha] at a10
 rw [hr b hb'] at b10
 rw [hb a ha] at a11
 rw [hb b hb'] at b11
 rw [hs a ha] at a12
 rw [hs b hb'] at b12
 have hx:=hx1.trans hx2
 clear hb1 hb1' hb2 w2 w3 ca cb cb1
 unfold firstW
 refine zgo ?_
 refine Runs.cond_ndec rfl (fun h1=>?_) (fun h1=>?_)
 ·rw [if_pos (show bk a≠bk b by omega)]
  refine zgo ?_
  exact Runs.ret Tryd.func115 (ret1 Tryd.results115 rfl) ⟨hx,by congr 1;exact decide_eq_decide.2 (by omega)⟩
 rw [if_neg (show ¬ bk a≠bk b by omega)]
 refine zgo ?_
 cases e1:fx a<;>cases e2:fx b
 ·rw [e1] at a9
  rw [e2] at b9
  refine zgo ?_
  refine WO.val (ov_bneq tab_ok rfl rfl rfl rfl) rfl rfl rfl ?_
  refine zgo ?_
  rw [if_neg (c:=(false:Bool)≠false) (by simp)]
  refine Runs.cond_ndec rfl (fun h1=>?_) (fun h1=>?_)
  ·rw [if_pos h1]
   refine zgo ?_
   exact Runs.ret Tryd.func115 (ret1 Tryd.results115 rfl) ⟨hx,rfl⟩
  rw [if_neg (show ¬ sd a≠sd b by omega)]
  refine zgo ?_
  refine Runs.cond_ndec rfl (fun h1=>?_) (fun h1=>?_)
  ·rw [if_pos (show rk a≠rk b by omega)]
   refine zgo ?_
   exact Runs.ret Tryd.func115 (ret1 Tryd.results115 rfl) ⟨hx,by congr 1;exact decide_eq_decide.2 (by omega)⟩
  rw [if_neg (show ¬ rk a≠rk b by omega)]
  refine zgo ?_
  exact Runs.ret Tryd.func115 (ret1 Tryd.results115 rfl) ⟨hx,by congr 1;exact decide_eq_decide.2 (by omega)⟩
 ·rw [e1] at a9
  rw [e2] at b9
  refine zgo ?_
  refine WO.val (ov_bneq tab_ok rfl rfl rfl rfl) rfl rfl rfl ?_
  refine zgo ?_
  exact Runs.ret Tryd.func115 (ret1 Tryd.results115 rfl) ⟨hx,by simp⟩
 ·rw [e1] at a9
  rw [e2] at b9
  refine zgo ?_
  refine WO.val (ov_bneq tab_ok rfl rfl rfl rfl) rfl rfl rfl ?_
  refine zgo ?_
  exact Runs.ret Tryd.func115 (ret1 Tryd.results115 rfl) ⟨hx,by simp⟩
 ·rw [e1] at a9
  rw [e2] at b9
  refine zgo ?_
  refine WO.val (ov_bneq tab_ok rfl rfl rfl rfl) rfl rfl rfl ?_
  refine zgo ?_
  rw [if_neg (c:=(true:Bool)≠true) (by simp)]
  refine Runs.cond_ndec rfl (fun h1=>?_) (fun h1=>?_)
  ·rw [if_pos h1]
   refine zgo ?_
   exact Runs.ret Tryd.func115 (ret1 Tryd.results115 rfl) ⟨hx,rfl⟩
  rw [if_neg (show ¬ sd a≠sd b by omega)]
  refine zgo ?_
  refine Runs.cond_ndec rfl (fun h1=>?_) (fun h1=>?_)
  ·rw [if_pos (show rk a≠rk b by omega)]
   refine zgo ?_
   exact Runs.ret Tryd.func115 (ret1 Tryd.results115 rfl) ⟨hx,by congr 1;exact decide_eq_decide.2 (by omega)⟩
  rw [if_neg (show ¬ rk a≠rk b by omega)]
  refine zgo ?_
  exact Runs.ret Tryd.func115 (ret1 Tryd.results115 rfl) ⟨hx,by congr 1;exact decide_eq_decide.2 (by omega)⟩
theorem insert_ret {w:Nat→WL} {fx:Nat→Bool} {rk bk:Nat→Nat} {sd:Nat→Int} (h:Heap) (y:Web F G h wb x l pa n w on) (hf:∀ k,k<n→(w k).settled=fx k) (hr:∀ k,k<n→(w k).ahead=rk k) (hb:∀ k,k<n→(w k).block=bk k) (hs:∀ k,k<n→(w k).strand=sd k) (pl:List Nat) (pv:Value) (a:Nat) (ha:a<n) (hp:Rd h 1 pv pl.length (ints pl)) (hpl:∀ k∈pl,k<n) (hll:pl.length≤100000) :
  Ret Tryd.prog 101 #[.pointer (some ⟨wb,0,none⟩),pv,.int .i64 (a:Int)] h fun v h'=>Ext h h'∧Own h' 3 1 v (insW (firstW fx bk rk sd) a pl).length (ints (insW (firstW fx bk rk sd) a pl))∧∀ k,v.ownBlock=some k→h.size≤k:=by
 refine Ret.of_body Tryd.func101 rfl Tryd.ntmps101 rfl rfl ?_
 obtain ⟨ad,cap,hv⟩:=hp.form
 subst hv
 refine zgo ?_
 refine Runs.loop (X:=IV) (fun u=>[(0,.pointer (some ⟨wb,0,none⟩)),(1,.slice ad pl.length cap),(2,.int .i64 (a:Int)),(7,u.v),(8,.int .i64 (u.i:Int))])
  (fun u h'=>u.i≤pl.length∧Ext h h'∧Own h' 3 1 u.v (pl.take u.i).length (ints (pl.take u.i))∧(∀ k,u.v.ownBlock=some k→h.size≤k)∧∀ z∈pl.take u.i,firstW fx bk rk sd z a=true)
  (fun u=>pl.length-u.i) ⟨0,.slice none 0 0⟩ ⟨rfl,rfl,rfl,rfl,rfl,trivial⟩ ⟨Nat.zero_le _,Fr.refl _ _,Own.nil _ _ _,fun k hk=>by simp [Value.ownBlock] at hk,by simp⟩ ?_
 rintro ⟨i,v⟩ h2 ⟨hi,hx2,ho2,hm2,hall⟩ ih
 dsimp only at hi hx2 ho2 hm2 hall ih ⊢
 have hz2:=hx2.size
 have htl:(pl.take i).length≤i:=by simp;omega
 by_cases hlt':i<pl.length
 ·have hget:pl[i]? = some pl[i]:=List.getElem?_eq_getElem hlt'
  have hzn:=hpl _ (List.getElem_mem hlt')
  have hsn:pl.take (i+1)=pl.take i++[pl[i]]:=List.take_succ_eq_append_getElem hlt'
  generalize pl[i]=z at *
  obtain ⟨b0,p0,cap0,hv,_,hcell⟩:=(hp.ext hx2).cell (ints_get hget)
  cases hv
  have d1:decide ((i:Int)<(pl.length:Int))=true:=decide_eq_true (by omega)
  refine zgo ?_
  rw [d1]
  refine zgo ?_
  refine WO.call rfl rfl rfl rfl plain_isShownFirst rfl (isShownFirst_ret _ (y.ext hx2) hf hr hb hs z a hzn ha) fun v3 h3 ⟨hx3,hv3⟩=>?_
  subst hv3
  have hx03:=hx2.trans hx3
  have hz3:=hx3.size
  cases hF:firstW fx bk rk sd z a
  rotate_left
  ·have hc3:=hx3.xc hcell
   refine zgo ?_
   refine zh (one_int _) (ho2.fr hx3 (by simp)) ?_
   intro v' h4 o1 o2 o3
   refine zgo ?_
   refine ih ⟨i+1,v'⟩ _ _ (by dsimp only;omega) ⟨rfl,rfl,rfl,rfl,rfl,trivial⟩ ⟨hlt',hx03.trans_new (o2.mono (fun k _ e=>.inr (hm2 k e))),?_,?_,?_⟩
   ·dsimp only;rw [hsn];simpa [ints] using o1
   ·intro k hk
    rcases o3 k hk with e | e
    ·exact hm2 k e
    ·omega
   ·dsimp only
    intro q hq
    rw [hsn] at hq
    rcases List.mem_append.1 hq with e | e
    ·exact hall q e
    ·simp at e;subst e;exact hF
  ·obtain ⟨e1,e2⟩:=span_ltS (f:=fun q=>firstW fx bk rk sd q a) hall (fun q hq=>by rw [hget] at hq;cases hq;exact hF)
   have hres:insW (firstW fx bk rk sd) a pl=pl.take i++a::pl.drop i:=by unfold insW;rw [e1,e2]
   rw [hres]
   refine zgo ?_
   refine zh (one_int _) (ho2.fr hx3 (by simp)) ?_
   intro v' h4 o1 o2 o3
   refine zgo ?_
   refine Runs.loop (X:=IV) (fun u=>[(1,.slice (some ⟨b0,p0,none⟩) pl.length cap),(7,u.v),(8,.int .i64 (u.i:Int))])
    (fun u h'=>i≤u.i∧u.i≤pl.length∧Ext h h'∧Own h' 3 1 u.v (pl.take i++a::(pl.drop i).take (u.i-i)).length (ints (pl.take i++a::(pl.drop i).take (u.i-i)))∧(∀ k,u.v.ownBlock=some k→h.size≤k))
    (fun u=>pl.length-u.i) ⟨i,v'⟩ ⟨rfl,rfl,rfl,trivial⟩ ⟨Nat.le_refl _,hi,hx03.trans_new (o2.mono (fun k _ e=>.inr (hm2 k e))),by simpa [ints] using o1,fun k hk=>by
     rcases o3 k hk with e | e
     ·exact hm2 k e
     ·omega⟩ ?_
   rintro ⟨j,v5⟩ h5 ⟨hij,hj,hx5,ho5,hm5⟩ ih5
   dsimp only at hij hj hx5 ho5 hm5 ih5 ⊢
   have hz5:=hx5.size
   have hl5:(pl.take i++a::(pl.drop i).take (j-i)).length≤100001+100001:=by simp;omega
   refine zgo ?_
   refine Runs.cond_dec rfl (fun hlt5=>?_) (fun hge5=>?_)
   ·have hltj:j<pl.length:=by omega
    have hgetj:pl[j]? = some pl[j]:=List.getElem?_eq_getElem hltj
    have hsnj:(pl.drop i).take (j+1-i)=(pl.drop i).take (j-i)++[pl[j]]:=by
     rw [show j+1-i=(j-i)+1 by omega,List.take_succ_eq_append_getElem (by simp;omega)]
     congr 2
     simp;congr 1;omega
    generalize pl[j]=q at *
    obtain ⟨b6,p6,cap6,hv6,_,hcell6⟩:=(hp.ext hx5).cell (ints_get hgetj)
    cases hv6
    refine zgo ?_
    refine zh (one_int _) ho5 ?_
    intro v6 h6 q1 q2 q3
    refine zgo ?_
    refine ih5 ⟨j+1,v6⟩ _ _ (by dsimp only;omega) ⟨rfl,rfl,rfl,trivial⟩ ⟨by dsimp only;omega,hltj,hx5.trans_new (q2.mono (fun k _ e=>.inr (hm5 k e))),?_,?_⟩
    ·dsimp only
     rw [hsnj]
     simpa [ints,Nat.add_assoc] using q1
    ·intro k hk
     rcases q3 k hk with e | e
     ·exact hm5 k e
     ·omega
   ·have e:(pl.drop i).take (j-i)=pl.drop i:=List.take_of_length_le (by simp;omega)
    rw [e] at ho5
    refine zgo ?_
    exact Runs.ret Tryd.func101 (ret1 Tryd.results101 rfl) ⟨hx5,ho5,hm5⟩
 ·have d1:decide ((i:Int)<(pl.length:Int))=false:=decide_eq_false (by omega)
  obtain ⟨e1,e2⟩:=span_ltS (f:=fun q=>firstW fx bk rk sd q a) hall (fun q hq=>by rw [List.getElem?_eq_none (by omega)] at hq;cases hq)
  have hres:insW (firstW fx bk rk sd) a pl=pl.take i++[a]:=by unfold insW;rw [e1,e2,List.drop_of_length_le (by omega)]
  rw [hres]
  refine zgo ?_
  rw [d1]
  refine zgo ?_
  refine zh (one_int _) ho2 ?_
  intro v' h4 o1 o2 o3
  have hx4:Ext h h4:=hx2.trans_new (o2.mono (fun k _ e=>.inr (hm2 k e)))
  refine zgo ?_
  refine Runs.loop (X:=Nat) (fun _=>[(1,.slice ad pl.length cap),(7,v'),(8,.int .i64 (i:Int))]) (fun _ h'=>h4=h') (fun u=>u) 0 ⟨rfl,rfl,rfl,trivial⟩ rfl ?_
  rintro _ _ rfl _
  refine zgo ?_
  rw [d1]
  refine zgo ?_
  refine Runs.ret Tryd.func101 (ret1 Tryd.results101 rfl) ⟨hx4,by simpa [ints] using o1,fun k hk=>?_⟩
  rcases o3 k hk with e | e
  ·exact hm2 k e
  ·omega
theorem worder_ret {w:Nat→WL} {dd fx:Nat→Bool} {rk bk:Nat→Nat} {sd:Nat→Int} (h:Heap) (y:Web F G h wb x l pa n w on) (hd:∀ k,k<n→(w k).dead=dd k) (hf:∀ k,k<n→(w k).settled=fx k) (hr:∀ k,k<n→(w k).ahead=rk k) (hb:∀ k,k<n→(w k).block=bk k) (hs:∀ k,k<n→(w k).strand=sd k) (hn:n≤100000) :
  Ret Tryd.prog 87 #[.pointer (some ⟨wb,0,none⟩)] h fun v h'=>Ext h h'∧Own h' 3 1 v (ordTo dd (firstW fx bk rk sd) n).length (ints (ordTo dd (firstW fx bk rk sd) n))∧∀ k,v.ownBlock=some k→h.size≤k:=by
 refine Ret.of_body Tryd.func87 rfl Tryd.ntmps87 rfl rfl ?_
 have w2:=y.blk.cell (j:=2) rfl
 obtain ⟨ad,cap,hlv⟩:=y.own.rd.form
 rw [hlv] at w2
 refine zgo ?_
 refine Runs.loop (X:=IV) (fun u=>[(0,.pointer (some ⟨wb,0,none⟩)),(3,u.v),(4,.int .i64 (u.i:Int))])
  (fun u h'=>u.i≤n∧Ext h h'∧Own h' 3 1 u.v (ordTo dd (firstW fx bk rk sd) u.i).length (ints (ordTo dd (firstW fx bk rk sd) u.i))∧(∀ k,u.v.ownBlock=some k→h.size≤k))
  (fun u=>n-u.i) ⟨0,.slice none 0 0⟩ ⟨rfl,rfl,rfl,trivial⟩ ⟨Nat.zero_le _,Fr.refl _ _,Own.nil _ _ _,fun k hk=>by simp [Value.ownBlock] at hk⟩ ?_
 rintro ⟨i,v⟩ h2 ⟨hi,hx2,ho2,hm2⟩ ih
 dsimp only at hi hx2 ho2 hm2 ih ⊢
 have hz2:=hx2.size
 have w3:=hx2.xc w2
 have hsn:=ordTo_succ dd (firstW fx bk rk sd) i
 have hol:=ordTo_length dd (firstW fx bk rk sd) i
 have hom:=fun k hk=>(ordTo_mem (dd:=dd) (fst:=firstW fx bk rk sd) (t:=i) k hk).1
 refine zgo ?_
 refine Runs.cond_dec rfl (fun hlt=>?_) (fun hge=>?_)
 rotate_left
 ·have e:i=n:=by omega
  subst e
  refine zgo ?_
  exact Runs.ret Tryd.func87 (ret1 Tryd.results87 rfl) ⟨hx2,ho2,hm2⟩
 have hlt':i<n:=by omega
 have y2:=y.ext hx2
 obtain ⟨g,p,cap',hlv',ci⟩:=y2.line hlt'
 rw [hlv] at hlv'
 cases hlv'
 have c8:=ci 8 _ rfl
 rw [hd i hlt'] at c8
 cases e1:dd i
 ·rw [e1] at c8 hsn
  rw [if_neg (by simp)] at hsn
  refine zgo ?_
  refine WO.call rfl rfl rfl rfl plain_insert rfl (insert_ret _ y2 hf hr hb hs _ v i hlt' ho2.rd (fun k hk=>by have:=hom k hk;omega) (by omega)) fun v3 h3 ⟨hx3,ho3,hm3⟩=>?_
  refine zgo ?_
  refine ih ⟨i+1,v3⟩ _ _ (by dsimp only;omega) ⟨rfl,rfl,rfl,trivial⟩ ⟨hlt',hx2.trans hx3,?_,fun k hk=>by have:=hm3 k hk;omega⟩
  dsimp only;rw [hsn];exact ho3
 ·rw [e1] at c8 hsn
  rw [if_pos rfl] at hsn
  refine zgo ?_
  refine ih ⟨i+1,v⟩ _ _ (by dsimp only;omega) ⟨rfl,rfl,rfl,trivial⟩ ⟨hlt',hx2,?_,hm2⟩
  dsimp only;rw [hsn];exact ho2
end
end Go.Proofs.YtlaffgagmncgjabDoor
namespace Go.Pat
open Go
theorem ox_make {P:Program} {n:Nat} {env:Env} {h:Heap} {o:Oper} {T:Tab} {K:Value→Heap→Prop} {t e:TypeId} {x:Operand} {m:Nat} {kk:IntKind} {q:Int} {sz by_ eby:Nat} {z ez z1:Value} {ek:TK} (hT:T.ok P) (ho:o.op = .makeSlice t x x)
  (ht:T.get? t=some ⟨sz,by_,z,.slice e⟩) (he:T.get? e=some ⟨1,eby,ez,ek⟩) (hz:oneList ez=some [z1]) (hx:env.ev? x=some (.int kk q)) (hq:natOf q=some m) (hby:Nat.ble eby 1000=true) (hm:m≤1000000)
  (hk:∀ h1,Blk h1 h.size (List.replicate m z1) e→Ext h h1→h1.size=h.size+1→K (.slice (some ⟨h.size,0,none⟩) m m) h1):OpEx P n env o h K:=fun w a hw ha=>by
 subst hw
 replace hq:=natOf_eq hq
 subst hq
 have hu:P.underlying t=some (.slice e):=(Tab.fits hT ht).2
 obtain ⟨⟨info,i1,i2,i3,i4⟩,_⟩:=Tab.fits hT he
 dsimp only at i2 i3 i4
 have hby':=Nat.le_of_ble_eq_true hby
 have hmul:(info.bytes:Int)*(m:Int)≤281474976710656:=by
  rw [i3]
  have:eby*m≤1000*1000000:=Nat.mul_le_mul hby' hm
  have h2:((eby*m:Nat):Int)≤((1000*1000000:Nat):Int):=Int.ofNat_le.2 this
  rw [Int.natCast_mul] at h2
  omega
 have hr:=run_make w t e info ez hu i1 i4 kk kk (m:Int) (m:Int) (by omega) (Int.le_refl _) hmul (by omega)
 rw [i2,Nat.mul_one,Int.toNat_natCast,made_one z1 _ (by rw [oneList_cells hz])] at hr
 refine ⟨_,w.alloc _,?_,⟨rfl,rfl,rfl⟩,hk _ (Blk.push w.heap _ e) (Fr.push _ _ _) (by simp)⟩
 simp [execOp,ho,ha.ev hx,hr]
end Go.Pat
namespace Go.Proofs.YtlaffgagmncgjabDoor
open Go Go.Pat Go.Proofs
theorem plain_lead:Plain Tryd.prog 83:=⟨_,Tryd.func83,by decide +kernel,by rfl⟩
theorem plain_leadOn:Plain Tryd.prog 84:=⟨_,Tryd.func84,by decide +kernel,by rfl⟩
structure LDX where
 (i:Nat) (dv:Value) (rbs:List Nat)
structure LD0 (h:Heap) (lo n:Nat) (i:Nat) (dv:Value) (rbs:List Nat):Prop where
 len:rbs.length=i
 own:Own h 58 1 dv i (rowsV n rbs)
 row:∀ b∈rbs,Blk h b (List.replicate n (.bool false)) 4∧lo≤b
 nodup:rbs.Nodup
 apart:∀ k,dv.ownBlock=some k→k∉rbs∧lo≤k
theorem LD0.lm {h:Heap} {lo n:Nat} {dv:Value} {rbs:List Nat} (x:LD0 h lo n n dv rbs):LM h 4 n dv rbs (zeros n):=by
 refine ⟨x.len,zeros_sq n,x.own.rd,fun i b r hi hr=>?_,x.nodup,fun k hk=>(x.apart k hk).1⟩
 have hm:r∈zeros n:=List.mem_of_getElem? hr
 simp [zeros] at hm
 rw [hm.2,bools_replicate]
 exact (x.row b (List.mem_of_getElem? hi)).1
theorem lead_ret {F:Nat→Prop} (lo wb n:Nat) (w:Nat→WL) (pv qv lv:Value) (l:List PD3) (h:Heap) (hb:Blk h wb [pv,qv,lv,.slice none 0 0] 126) (hs:XS F h pv l) (hF:∀ k,F k→k<lo) (hwb:lo≤wb) (ho:Own h 130 13 lv n (wlsC n w)) (hlv:∀ k,lv.ownBlock=some k→k≠wb) (hn:n≤100000) (hl:l.length≤1000) (hcl:∀ y∈l,y.p.changes.length≤1000) :
  Ret Tryd.prog 83 #[.pointer (some ⟨wb,0,none⟩)] h fun _ h'=>Fr (fun k=>k=wb) h h'∧∃ dv rbs,Blk h' wb [pv,qv,lv,dv] 126∧LM h' 4 n dv rbs (saidP (lnsOf n w) (l.map PD3.p) (saidL (lnsOf n w) (lnsOf n w) (zeros n)))∧(∀ k∈rbs,h.size≤k)∧∀ k,dv.ownBlock=some k→h.size≤k:=by
 refine Ret.of_body Tryd.func83 rfl Tryd.ntmps83 rfl rfl ?_
 obtain ⟨ad,cap,hlvf⟩:=ho.rd.form
 have hwl:=hb.lt
 have hol:=ho.lt
 refine zgo ?_
 refine Runs.loop (X:=LDX) (fun u=>[(0,.pointer (some ⟨wb,0,none⟩)),(2,.int .i64 (u.i:Int))])
  (fun u h'=>u.i≤n∧Fr (fun k=>k=wb) h h'∧Blk h' wb [pv,qv,lv,u.dv] 126∧LD0 h' h.size n u.i u.dv u.rbs) (fun u=>n-u.i) ⟨0,.slice none 0 0,[]⟩ ⟨rfl,rfl,trivial⟩
  ⟨Nat.zero_le _,Fr.refl _ _,hb,⟨rfl,Own.nil _ _ _,by simp,by simp,fun k hk=>by simp [Value.ownBlock] at hk⟩⟩ ?_
 rintro ⟨i,dv,rbs⟩ h2 ⟨hi,hf2,hb2,hd⟩ ih
 dsimp only at hi hf2 hb2 hd ih ⊢
 have hz2:=hf2.size
 have w2:=hb2.cell (j:=2) rfl
 have w3:=hb2.cell (j:=3) rfl
 rw [hlvf] at w2
 refine zgo ?_
 refine Runs.cond_dec rfl (fun hlt=>?_) (fun hge=>?_)
 ·have hlt':i<n:=by omega
  have hdw:∀ k,dv.ownBlock=some k→k≠wb:=fun k hk e=>by have:=(hd.apart k hk).2;omega
  have hS0:cellAt h2 wb (0+3)=some dv∧cellAt h2 wb (0+2)=some (.slice ad n cap):=⟨w3,w2⟩
  refine zgo ?_
  refine Runs.drawn (m:=16) (fun h'=>cellAt h' wb (0+3)=some dv∧cellAt h' wb (0+2)=some (.slice ad n cap)) (fun i=>Nat.beq i 15) mixed rfl ?_
  refine zp 0 hS0 ?_
  refine zp 1 hS0 ?_
  refine zp 2 hS0 ?_
  refine zp 3 hS0 ?_
  refine zl 4 (fun _ hS=>hS.1) hS0 ?_
  refine zp 5 hS0 ?_
  refine zp 6 hS0 ?_
  refine zp 7 hS0 ?_
  refine zl 8 (fun _ hS=>hS.2) hS0 ?_
  refine zp 9 hS0 ?_
  refine WF.ex 10 (by kernel_rfl) rfl rfl rfl rfl (ox_make tab_ok rfl rfl rfl rfl rfl rfl rfl (by omega) fun h3 hb3 hx3 hs3=>⟨.inr ⟨hx3.xc w3,hx3.xc w2⟩,?_⟩)
  have hSS:∀ h',Fr (fun k=>dv.ownBlock=some k) h3 h'→cellAt h' wb (0+3)=some dv∧cellAt h' wb (0+2)=some (.slice ad n cap):=fun h' hf =>
   ⟨hf.cell (fun e=>hdw _ e rfl) (hx3.xc w3),hf.cell (fun e=>hdw _ e rfl) (hx3.xc w2)⟩
  refine WF.push 11 12 tab_ok (by kernel_rfl) (by kernel_rfl) rfl rfl rfl rfl rfl rfl rfl rfl rfl rfl rfl rfl rfl rfl rfl rfl rfl rfl rfl (by simp) (one_slice _ _ _) (hd.own.fr hx3 (by simp)) (by omega) hSS ?_
  intro v4 h4 o1 o2 o3
  have hS4:=hSS _ o2
  refine zx 13 hS4 ?_
  refine zx 14 hS4 ?_
  have hb4:=(hb2.ext hx3).fr o2 (fun e=>hdw _ e rfl)
  obtain ⟨ad4,cap4,hv4⟩:=o1.rd.form
  have hone4:One [v4]:=by rw [hv4];exact one_slice _ _ _
  subst hv4
  refine WF.put 15 tab_ok (by kernel_rfl) rfl rfl rfl rfl rfl rfl rfl rfl rfl hone4 hb4 rfl rfl fun h5 hb5 hx5 hs5=>?_
  refine WF.done (by kernel_rfl) ?_
  refine zgo ?_
  have hz4:=o2.size
  have hrl:∀ b∈rbs,b<h2.size:=fun b hb'=>(hd.row b hb').1.lt
  refine ih ⟨i+1,_,rbs++[h2.size]⟩ _ _ (by dsimp only;omega) ⟨rfl,rfl,trivial⟩ ⟨hlt',?_,hb5,⟨by simp [hd.len],?_,fun b hb'=>?_,?_,fun k hk=>?_⟩⟩
  ·exact ((hf2.ex hx3).trans_new (o2.mono fun k _ e=>.inr (hd.apart k e).2)).trans hx5
  ·have e:rowsV n (rbs++[h2.size])=rowsV n rbs++[.slice (some ⟨h2.size,0,none⟩) n n]:=by simp [rowsV]
   rw [e]
   refine o1.fr hx5 fun k hk e=>?_
   subst e
   rcases o3 k hk with e' | e'
   ·exact hdw _ e' rfl
   ·omega
  ·dsimp only at hb'
   rcases List.mem_append.1 hb' with e | e
   ·obtain ⟨r1,r2⟩:=hd.row b e
    exact ⟨((r1.ext hx3).fr o2 fun e'=>(hd.apart b e').1 e).fr hx5 (by omega),r2⟩
   ·simp at e
    subst e
    exact ⟨(hb3.fr o2 fun e'=>by have:=hd.own.lt _ e';omega).fr hx5 (by omega),hz2⟩
  ·dsimp only
   rw [List.nodup_append]
   exact ⟨hd.nodup,by simp,fun p hp q hq e=>by simp at hq;subst hq;subst e;have:=hrl _ hp;omega⟩
  ·rcases o3 k hk with e | e
   ·obtain ⟨a1,a2⟩:=hd.apart k e
    have:=hd.own.lt k e
    exact ⟨fun hm=>by
     rcases List.mem_append.1 hm with e' | e'
     ·exact a1 e'
     ·simp at e';omega,a2⟩
   ·exact ⟨fun hm=>by
     rcases List.mem_append.1 hm with e' | e'
     ·have:=hrl k e';omega
     ·simp at e';omega,by omega⟩
 have e:i=n:=by omega
 subst e
 have hlm0:=hd.lm
 have hrb:∀ b∈rbs,h.size≤b:=fun b hb'=>(hd.row b hb').2
 have hrw:∀ b∈rbs,b≠wb:=fun b hb' e=>by have:=hrb b hb';omega
 have hdv:∀ k,dv.ownBlock=some k→h.size≤k:=fun k hk=>(hd.apart k hk).2
 have base:∀ h',Fr (fun k=>k∈rbs) h2 h'→Fr (fun k=>k=wb) h h':=fun h' hf=>hf2.trans_new (hf.mono fun k _ e=>.inr (hrb k e))
 have lns:∀ h',Fr (fun k=>k∈rbs) h2 h'→Rd h' 13 lv i (wlsC i w):=fun h' hf=>ho.rd.fr (base h' hf) fun k hk e=>hlv k hk e
 have webb:∀ h',Fr (fun k=>k∈rbs) h2 h'→Blk h' wb [pv,qv,lv,dv] 126:=fun h' hf=>hb2.fr hf fun e=>hrw _ e rfl
 have pats:∀ h',Fr (fun k=>k∈rbs) h2 h'→XS F h' pv l:=fun h' hf=>hs.fr (base h' hf) fun k hk e=>by subst e;have:=hF _ hk;omega
 refine zgo ?_
 refine Runs.loop (X:=Nat) (fun j=>[(0,.pointer (some ⟨wb,0,none⟩)),(3,.int .i64 (j:Int))])
  (fun j h'=>j≤i∧Fr (fun k=>k∈rbs) h2 h'∧LM h' 4 i dv rbs (saidL (lnsOf i w) ((lnsOf i w).take j) (zeros i))) (fun j=>i-j) 0 ⟨rfl,rfl,trivial⟩ ⟨Nat.zero_le _,Fr.refl _ _,by simpa [saidL] using hlm0⟩ ?_
 rintro j h3 ⟨hj,hf3,hm3⟩ ih3
 have hb3:=webb h3 hf3
 have hl3:=lns h3 hf3
 have u2:=hb3.cell (j:=2) rfl
 rw [hlvf] at u2
 refine zgo ?_
 refine Runs.cond_dec rfl (fun hlt3=>?_) (fun hge3=>?_)
 ·have hltj:j<i:=by omega
  have hgj:(lnsOf i w)[j]? = some (w j).l:=lnsOf_get hltj
  have hsn:saidL (lnsOf i w) ((lnsOf i w).take (j+1)) (zeros i)=sayS (lnsOf i w) (w j).l.ref (w j).l.down (sayS (lnsOf i w) (w j).l.up (w j).l.ref (saidL (lnsOf i w) ((lnsOf i w).take j) (zeros i))):=by
   have hjl:j<(lnsOf i w).length:=by rw [lnsOf_length];exact hltj
   rw [List.take_succ_eq_append_getElem hjl]
   have e:(lnsOf i w)[j]=(w j).l:=by rw [List.getElem?_eq_getElem hjl] at hgj;simpa using hgj
   unfold saidL
   rw [List.foldl_append,e];rfl
  obtain ⟨g,p,cap',hv',_,hcs⟩:=hl3.pos (by omega)
  have hcj:=wlsC_cells hcs hltj
  rw [hlvf] at hv'
  cases hv'
  refine zgo ?_
  refine zv (w j).one fun h4 hb4 hx4 hs4=>?_
  have hf4:=hf3.ex hx4
  have e1:Cells h4 h3.size (0+0) (w j).l.ref.cells:=hb4.cells.take 2
  have e2:Cells h4 h3.size (0+2) (w j).l.up.cells:=hb4.cells.tail.tail.take 2
  refine zgo ?_
  refine WO.call rfl rfl rfl rfl plain_join rfl (join_ret wb i w lv dv rbs _ (w j).l.up (w j).l.ref _ ((webb h4 hf4).cell (j:=2) rfl) ((webb h4 hf4).cell (j:=3) rfl) (lns h4 hf4) hn (hm3.ext hx4)) fun v5 h5 ⟨hf5,hm5⟩=>?_
  have hf25:=hf4.trans hf5
  have hz4:=hf3.size
  have hb5:=hb4.fr hf5 (fun e=>by have:=(hd.row _ e).1.lt;omega)
  have e3:Cells h5 h3.size (0+0) (w j).l.ref.cells:=hb5.cells.take 2
  have e4:Cells h5 h3.size (0+4) (w j).l.down.cells:=hb5.cells.tail.tail.tail.tail.take 2
  refine zgo ?_
  refine WO.call rfl rfl rfl rfl plain_join rfl (join_ret wb i w lv dv rbs _ (w j).l.ref (w j).l.down _ ((webb h5 hf25).cell (j:=2) rfl) ((webb h5 hf25).cell (j:=3) rfl) (lns h5 hf25) hn hm5) fun v6 h6 ⟨hf6,hm6⟩=>?_
  refine zgo ?_
  exact ih3 (j+1) _ _ (by omega) ⟨rfl,rfl,trivial⟩ ⟨hltj,hf25.trans hf6,by rw [hsn];exact hm6⟩
 rw [List.take_of_length_le (by rw [lnsOf_length];omega)] at hm3
 generalize saidL (lnsOf i w) (lnsOf i w) (zeros i)=m0 at *
 obtain ⟨adp,capp,hpvf⟩:=hs.rd.form
 refine zgo ?_
 refine Runs.loop (X:=Nat) (fun j=>[(0,.pointer (some ⟨wb,0,none⟩)),(5,.int .i64 (j:Int))])
  (fun j h'=>j≤l.length∧Fr (fun k=>k∈rbs) h2 h'∧LM h' 4 i dv rbs (saidP (lnsOf i w) ((l.map PD3.p).take j) m0)) (fun j=>l.length-j) 0 ⟨rfl,rfl,trivial⟩ ⟨Nat.zero_le _,hf3,by simpa [saidP] using hm3⟩ ?_
 rintro q h4 ⟨hq,hf4,hm4⟩ ih4
 have hb4:=webb h4 hf4
 have hs4:=pats h4 hf4
 have u0:=hb4.cell (j:=0) rfl
 rw [hpvf] at u0
 refine zgo ?_
 refine Runs.cond_dec rfl (fun hlt4=>?_) (fun hge4=>?_)
 rotate_left
 ·rw [List.take_of_length_le (by simp;omega)] at hm4
  refine zgo ?_
  exact Runs.fall Tryd.func83 (ret0 Tryd.results83) ⟨base h4 hf4,dv,rbs,hb4,hm4,hrb,hdv⟩
 have hltq:q<l.length:=by omega
 have hgq:l[q]? = some l[q]:=List.getElem?_eq_getElem hltq
 have hmemq:l[q]∈l:=List.getElem_mem hltq
 have hsnq:saidP (lnsOf i w) ((l.map PD3.p).take (q+1)) m0=saidC (lnsOf i w) l[q].p.changes (saidP (lnsOf i w) ((l.map PD3.p).take q) m0):=by
  rw [List.take_succ_eq_append_getElem (by simp;exact hltq)]
  unfold saidP
  rw [List.foldl_append];simp
 generalize l[q]=y at *
 generalize saidP (lnsOf i w) ((l.map PD3.p).take q) m0=m1 at *
 obtain ⟨b0,p0,cap0,hv0,hyc,hyv⟩:=hs4.get hgq
 rw [hpvf] at hv0
 cases hv0
 have hcy:=hcl y hmemq
 have c2:=hyc.tail.tail.head
 obtain ⟨adc,capc,hcv⟩:=hyv.changes.form
 rw [hcv] at c2
 refine zgo ?_
 refine Runs.loop (X:=Nat) (fun j=>[(0,.pointer (some ⟨wb,0,none⟩)),(5,.int .i64 (q:Int)),(6,.slice adc y.p.changes.length capc),(7,.int .i64 (j:Int))])
  (fun j h'=>j≤y.p.changes.length∧Fr (fun k=>k∈rbs) h2 h'∧LM h' 4 i dv rbs (saidC (lnsOf i w) (y.p.changes.take j) m1)) (fun j=>y.p.changes.length-j) 0 ⟨rfl,rfl,rfl,rfl,trivial⟩ ⟨Nat.zero_le _,hf4,by simpa [saidC] using hm4⟩ ?_
 rintro j h5 ⟨hj5,hf5,hm5⟩ ih5
 refine zgo ?_
 refine Runs.cond_dec rfl (fun hlt5=>?_) (fun hge5=>?_)
 rotate_left
 ·rw [List.take_of_length_le (by omega)] at hm5
  refine zgo ?_
  exact ih4 (q+1) _ _ (by omega) ⟨rfl,rfl,trivial⟩ ⟨hltq,hf5,by rw [hsnq];exact hm5⟩
 have hltc:j<y.p.changes.length:=by omega
 have hgc:y.p.changes[j]? = some y.p.changes[j]:=List.getElem?_eq_getElem hltc
 have hsnc:saidC (lnsOf i w) (y.p.changes.take (j+1)) m1=if y.p.changes[j].kind=3 then sayS (lnsOf i w) y.p.changes[j].up y.p.changes[j].down (saidC (lnsOf i w) (y.p.changes.take j) m1) else saidC (lnsOf i w) (y.p.changes.take j) m1:=by
  rw [List.take_succ_eq_append_getElem hltc]
  unfold saidC
  rw [List.foldl_append];rfl
 generalize y.p.changes[j]=c at *
 have hyv5:=(pats h5 hf5).pv y hmemq
 have hch5:=hyv5.changes
 rw [hcv] at hch5
 obtain ⟨b6,p6,cap6,hv6,_,hcells⟩:=hch5.pos (by omega)
 cases hv6
 have hcc:=changes_get hcells hgc
 have k0:cellAt h5 b6 (p6+j*6+0)=some (.int .i64 (c.kind:Int)):=hcc.head
 have hbF:∀ k∈rbs,k≠b6:=fun k hk e=>by
  have h1:=hF b6 (hyv5.fc b6 (by rw [hcv];rfl))
  have:=hrb k hk
  omega
 refine zgo ?_
 refine Runs.cond_dec rfl (fun hk3=>?_) (fun hk3=>?_)
 rotate_left
 ·rw [if_neg (by omega)] at hsnc
  refine zgo ?_
  exact ih5 (j+1) _ _ (by omega) ⟨rfl,rfl,rfl,rfl,trivial⟩ ⟨hltc,hf5,by rw [hsnc];exact hm5⟩
 rw [if_pos (by omega)] at hsnc
 have hup:∀ h',Cells h' b6 (p6+j*6) c.cells→Cells h' b6 (p6+j*6+1) c.up.cells:=fun h' hc=>hc.tail.take 2
 have hdn:∀ h',Cells h' b6 (p6+j*6) c.cells→Cells h' b6 (p6+j*6+3) c.down.cells:=fun h' hc=>hc.tail.tail.tail.take 2
 refine zgo ?_
 refine Runs.drawn (m:=12) (fun h'=>Cells h' b6 (p6+j*6) c.cells) (fun _=>false) mixed rfl ?_
 refine zp 0 hcc ?_
 refine zp 1 hcc ?_
 refine zp 2 hcc ?_
 refine WF.take 3 rfl (fun _ _=>ov_indexAddr tab_ok rfl rfl rfl rfl rfl rfl (by omega)) hcc rfl rfl rfl (by kernel_rfl) ?_
 refine zp 4 hcc ?_
 refine zL 5 (fun _ hS=>(hup _ hS)) hcc ?_
 refine zp 6 hcc ?_
 refine zp 7 hcc ?_
 refine WF.take 8 rfl (fun _ _=>ov_indexAddr tab_ok rfl rfl rfl rfl rfl rfl (by omega)) hcc rfl rfl rfl (by kernel_rfl) ?_
 refine zp 9 hcc ?_
 refine zL 10 (fun _ hS=>(hdn _ hS)) hcc ?_
 refine WF.call 11 (by kernel_rfl) rfl rfl rfl rfl rfl plain_join rfl (join_ret wb i w lv dv rbs _ c.up c.down _ ((webb h5 hf5).cell (j:=2) rfl) ((webb h5 hf5).cell (j:=3) rfl) (lns h5 hf5) hn hm5) fun v6 h6 ⟨hf6,hm6⟩=>⟨.inr (hf6.cells (fun e=>hbF _ e rfl) hcc),?_⟩
 refine WF.done (by kernel_rfl) ?_
 refine zgo ?_
 exact ih5 (j+1) _ _ (by omega) ⟨rfl,rfl,rfl,rfl,trivial⟩ ⟨hltc,hf5.trans hf6,by rw [hsnc];exact hm6⟩
theorem leadOn_ret (wb n:Nat) (w:Nat→WL) (pv qv lv dv:Value) (rbs:List Nat) (m:List (List Bool)) (h:Heap) (hb:Blk h wb [pv,qv,lv,dv] 126) (hr:Rd h 13 lv n (wlsC n w)) (hn:n≤100000) (hom:LM h 4 n dv rbs m) (hwb:wb∉rbs) :
  Ret Tryd.prog 84 #[.pointer (some ⟨wb,0,none⟩)] h fun _ h'=>Fr (fun k=>k∈rbs) h h'∧LM h' 4 n dv rbs (wayK n (List.range n) m):=by
 refine Ret.of_body Tryd.func84 rfl Tryd.ntmps84 rfl rfl ?_
 obtain ⟨ad,cap,hlv⟩:=hr.form
 have w2:=hb.cell (j:=2) rfl
 rw [hlv] at w2
 refine zgo ?_
 refine Runs.loop (X:=Nat) (fun k=>[(0,.pointer (some ⟨wb,0,none⟩)),(2,.int .i64 (n:Int)),(3,.int .i64 (k:Int))])
  (fun k h'=>k≤n∧Fr (fun k=>k∈rbs) h h'∧LM h' 4 n dv rbs (wayK n (List.range k) m)) (fun k=>n-k) 0 ⟨rfl,rfl,rfl,trivial⟩ ⟨Nat.zero_le _,Fr.refl _ _,by simpa [wayK] using hom⟩ ?_
 rintro k h2 ⟨hk,hf2,hm2⟩ ih
 refine zgo ?_
 refine Runs.cond_dec rfl (fun hlt=>?_) (fun hge=>?_)
 rotate_left
 ·have e:k=n:=by omega
  subst e
  refine zgo ?_
  exact Runs.fall Tryd.func84 (ret0 Tryd.results84) ⟨hf2,hm2⟩
 have hltk:k<n:=by omega
 have hsk:=wayK_succ n k m
 generalize wayK n (List.range k) m=mk at *
 refine zgo ?_
 refine Runs.loop (X:=Nat) (fun a=>[(0,.pointer (some ⟨wb,0,none⟩)),(2,.int .i64 (n:Int)),(3,.int .i64 (k:Int)),(4,.int .i64 (a:Int))])
  (fun a h'=>a≤n∧Fr (fun k=>k∈rbs) h h'∧LM h' 4 n dv rbs (wayI n k (List.range a) mk)) (fun a=>n-a) 0 ⟨rfl,rfl,rfl,rfl,trivial⟩ ⟨Nat.zero_le _,hf2,by simpa [wayI] using hm2⟩ ?_
 rintro a h3 ⟨ha,hf3,hm3⟩ ih3
 refine zgo ?_
 refine Runs.cond_dec rfl (fun hlt3=>?_) (fun hge3=>?_)
 rotate_left
 ·have e:a=n:=by omega
  subst e
  refine zgo ?_
  exact ih (k+1) _ _ (by omega) ⟨rfl,rfl,rfl,trivial⟩ ⟨hltk,hf3,by rw [hsk];exact hm3⟩
 have hlta:a<n:=by omega
 have hsa:=wayI_succ n k a mk
 generalize wayI n k (List.range a) mk=mi at *
 have w3:=(hb.fr hf3 hwb).cell (j:=3) rfl
 obtain ⟨ob,p,dcap,rb,r,hdv,_,_,_,hcell,_,hget⟩:=hm3.get hlta
 rw [hdv] at w3
 have c1:=hget k hltk
 cases hv:getB mi a k
 ·rw [hv] at c1 hsa
  rw [if_neg (by simp)] at hsa
  refine zgo ?_
  exact ih3 (a+1) _ _ (by omega) ⟨rfl,rfl,rfl,rfl,trivial⟩ ⟨hlta,hf3,by rw [hsa];exact hm3⟩
 rw [hv] at c1 hsa
 rw [if_pos rfl] at hsa
 refine zgo ?_
 refine Runs.loop (X:=Nat) (fun b=>[(0,.pointer (some ⟨wb,0,none⟩)),(2,.int .i64 (n:Int)),(3,.int .i64 (k:Int)),(4,.int .i64 (a:Int)),(5,.int .i64 (b:Int))])
  (fun b h'=>b≤n∧Fr (fun k=>k∈rbs) h h'∧LM h' 4 n dv rbs (wayJ k a (List.range b) mi)) (fun b=>n-b) 0 ⟨rfl,rfl,rfl,rfl,rfl,trivial⟩ ⟨Nat.zero_le _,hf3,by simpa [wayJ] using hm3⟩ ?_
 rintro b h4 ⟨hb4,hf4,hm4⟩ ih4
 refine zgo ?_
 refine Runs.cond_dec rfl (fun hlt4=>?_) (fun hge4=>?_)
 rotate_left
 ·have e:b=n:=by omega
  subst e
  refine zgo ?_
  exact ih3 (a+1) _ _ (by omega) ⟨rfl,rfl,rfl,rfl,trivial⟩ ⟨hlta,hf4,by rw [hsa];exact hm4⟩
 have hltb:b<n:=by omega
 have hsb:=wayJ_succ k a b mi
 generalize wayJ k a (List.range b) mi=mj at *
 have w4:=(hb.fr hf4 hwb).cell (j:=3) rfl
 obtain ⟨ob4,p4,dcap4,rb4,r4,hdv4,_,_,_,hcell4,_,hget4⟩:=hm4.get hltk
 obtain ⟨ob5,p5,dcap5,rb5,r5,hdv5,hrb5,hmr5,hrl5,hcell5,hblk5,_⟩:=hm4.get hlta
 rw [hdv4] at hdv5 w4
 cases hdv5
 have c2:=hget4 b hltb
 cases hv2:getB mj k b
 ·rw [hv2] at c2 hsb
  rw [if_neg (by simp)] at hsb
  refine zgo ?_
  exact ih4 (b+1) _ _ (by omega) ⟨rfl,rfl,rfl,rfl,rfl,trivial⟩ ⟨hltb,hf4,by rw [hsb];exact hm4⟩
 rw [hv2] at c2 hsb
 rw [if_pos rfl] at hsb
 refine zgo ?_
 refine WO.put1 tab_ok rfl rfl rfl rfl rfl rfl rfl (one_bool _) hblk5 (by simp [bools];omega) fun h6 hb6 hx6 hs6=>?_
 rw [Nat.zero_add,Nat.mul_one] at hb6
 refine zgo ?_
 exact ih4 (b+1) _ _ (by omega) ⟨rfl,rfl,rfl,rfl,rfl,trivial⟩ ⟨hltb,hf4.trans (hx6.mono fun q _ e=>by subst e;exact List.mem_of_getElem? hrb5),by rw [hsb];exact hm4.set hrb5 hmr5 hb6 hx6⟩
end Go.Proofs.YtlaffgagmncgjabDoor
