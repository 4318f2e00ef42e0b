import Derived.Test.YtlaffgagmncgjaaGreatDoorT19
set_option maxRecDepth 20000
set_option maxHeartbeats 3200000
namespace Go.Proofs.YtlaffgagmncgjaaGreatDoor
open Tryz Go Go.Pat Go.Proofs
theorem plain80:Plain Tryz.prog 78:=⟨_,func78,by decide +kernel,by rfl⟩
def saidL (all:List LineD) (l:List LineD) (m:List (List Bool)):List (List Bool):=l.foldl (fun m x=>sayS all x.ref x.down (sayS all x.up x.ref m)) m
def saidC (all:List LineD) (l:List ChangeD) (m:List (List Bool)):List (List Bool):=l.foldl (fun m c=>if c.kind=3 then sayS all c.up c.down m else m) m
def saidP (all:List LineD) (l:List PatchD) (m:List (List Bool)):List (List Bool):=l.foldl (fun m p=>saidC all p.changes m) m
def zeros (n:Nat):List (List Bool):=List.replicate n (List.replicate n false)
def thrS (m:List (List Bool)) (k i j:Nat):List (List Bool):=setB m i j (getB m i j||getB m i k&&getB m k j)
def thrJ (k i:Nat) (l:List Nat) (m:List (List Bool)):List (List Bool):=l.foldl (fun m j=>thrS m k i j) m
def thrI (n k:Nat) (l:List Nat) (m:List (List Bool)):List (List Bool):=l.foldl (fun m i=>thrJ k i (List.range n) m) m
def thrK (n:Nat) (l:List Nat) (m:List (List Bool)):List (List Bool):=l.foldl (fun m k=>thrI n k (List.range n) m) m
def onS (ps:List PatchD):List (List Bool) :=
 thrK (linesS ps).length (List.range (linesS ps).length) (saidP (linesS ps) ps (saidL (linesS ps) (linesS ps) (zeros (linesS ps).length)))
theorem bools_replicate (n:Nat):bools (List.replicate n false)=List.replicate n (.bool false):=by simp [bools]
def isLive (ps:List PatchD) (all:List LineD) (k:Nat):Bool:=match all[k]? with
 | some l=>decide ((killersS l.ref ps).length=0)
 | none=>false
def liveTo (ps:List PatchD) (all:List LineD) (i:Nat):List Nat:=(List.range i).filter (isLive ps all)
def alOf (all:List LineD) (live:List Nat):List LineD:=live.filterMap fun k=>all[k]?
def ldS (on:List (List Bool)) (live:List Nat) (to:List Nat):List (List Bool):=to.map fun i=>live.map fun j=>getB on i j
def RowsIn (lo:Nat) (h:Heap) (dv:Value) (rvs:List Value) (rows:List (List Bool)):Prop :=
 rvs.length=rows.length∧∀ (x:Nat) (rv:Value) (row:List Bool),rvs[x]? = some rv→rows[x]? = some row→Rd h 1 rv row.length (bools row)∧∀ k,rv.ownBlock=some k→lo≤k∧k<h.size∧dv.ownBlock≠some k
theorem RowsIn.fr {lo:Nat} {h h':Heap} {dv dv':Value} {rvs:List Value} {rows:List (List Bool)} {S:Nat→Prop} (x:RowsIn lo h dv rvs rows) (f:Fr S h h') (hS:∀ k,S k→dv.ownBlock=some k∨k<lo) (hd:Moved h dv dv'):RowsIn lo h' dv' rvs rows:=by
 refine ⟨x.1,fun i rv row hi hr=>?_⟩
 obtain ⟨e1,e2⟩:=x.2 i rv row hi hr
 refine ⟨e1.fr f fun k hk hs=>?_,fun k hk=>?_⟩
 ·obtain ⟨a1,a2,a3⟩:=e2 k hk
  rcases hS k hs with e | e
  ·exact a3 e
  ·omega
 ·obtain ⟨a1,a2,a3⟩:=e2 k hk
  have:=f.size
  refine ⟨a1,by omega,fun e=>?_⟩
  rcases hd k e with e' | e'
  ·exact a3 e'
  ·omega
theorem Moved.refl (h:Heap) (v:Value):Moved h v v:=fun _ hk=>.inl hk
theorem RowsIn.snoc {lo:Nat} {h:Heap} {dv rv:Value} {rvs:List Value} {rows:List (List Bool)} {row:List Bool} (x:RowsIn lo h dv rvs rows) (hr:Rd h 1 rv row.length (bools row)) (hk:∀ k,rv.ownBlock=some k→lo≤k∧k<h.size∧dv.ownBlock≠some k):RowsIn lo h dv (rvs++[rv]) (rows++[row]):=by
 refine ⟨by simp [x.1],fun i rv' row' hi hr'=>?_⟩
 rcases Nat.lt_or_ge i rvs.length with e | e
 ·rw [List.getElem?_append_left e] at hi
  rw [List.getElem?_append_left (by rw [← x.1];exact e)] at hr'
  exact x.2 i rv' row' hi hr'
 ·have hi':i<rvs.length+1:=by have:=(List.getElem?_eq_some_iff.1 hi).1;simpa using this
  have hie:i=rvs.length:=by omega
  rw [List.getElem?_append_right e,hie] at hi
  rw [List.getElem?_append_right (by rw [← x.1];exact e),hie,x.1] at hr'
  simp at hi hr'
  subst hi hr'
  exact ⟨hr,hk⟩
def intsI (l:List Int):List Value:=l.map fun x=>.int .i64 x
structure MG (h:Heap) (b sb:Nat) (al:List LineD) (ld:List (List Bool)) (fx:List Bool) (bl:List Int):Prop where
 out:∃ alv ldv fxv blv,Cells h b 0 [.pointer (some ⟨sb,0,none⟩),alv,ldv,fxv,blv]∧Rd h 7 alv al.length (linesC al)∧Mat h ldv ld∧Rd h 1 fxv fx.length (bools fx)∧Rd h 1 blv bl.length (intsI bl)
 sq:Square al.length ld
 fxl:fx.length=al.length
 bll:bl.length=al.length
def fxS (n:Nat) (ld:List (List Bool)):List Bool:=(List.range n).map (settledS n ld)
def blS (n:Nat) (ld:List (List Bool)) (fx:List Bool):List Int:=(List.range n).map (blockS n ld fx)
def liveS (ps:List PatchD):List Nat:=liveTo ps (linesS ps) (linesS ps).length
def alS (ps:List PatchD):List LineD:=alOf (linesS ps) (liveS ps)
def leadS (ps:List PatchD):List (List Bool):=ldS (onS ps) (liveS ps) (liveS ps)
def fixS (ps:List PatchD):List Bool:=fxS (alS ps).length (leadS ps)
def blkS (ps:List PatchD):List Int:=blS (alS ps).length (leadS ps) (fixS ps)
structure DX where
 (a:Nat) (dv:Value) (rvs:List Value)
structure LX where
 (i:Nat) (lv av:Value)
structure OX where
 (k:Nat) (rbs:List Nat)
theorem of_ret {F:Nat→Prop} (b:Nat) (bs:List Nat) (ps:List PatchD) (h:Heap) (hs:SA F h b bs ps) (hl:bs.length≤100) (hcl:∀ p∈ps,p.changes.length≤1000) (hll:(linesS ps).length≤100000):Ret Tryz.prog 78 #[.pointer (some ⟨b,0,none⟩)] h fun v h' =>
  Ext h h'∧∃ mb:Nat,v = .pointer (some ⟨mb,0,none⟩)∧MG h' mb b (alS ps) (leadS ps) (fixS ps) (blkS ps):=by
 refine Ret.of_body func78 rfl ntmps78 rfl rfl ?_
 unfold blkS fixS leadS alS liveS onS
 refine zgo ?_
 refine zb fun h1 hb1 hx1 hs1=>?_
 refine zgo ?_
 refine WO.call rfl rfl rfl rfl plain72 rfl (lines_ret b bs ps _ (hs.ext hx1) hl hcl) fun v2 h2 ⟨hx2,ho2,hm2⟩=>?_
 generalize hall:linesS ps=all at *
 obtain ⟨ad,cap,hv2⟩:=ho2.rd.form
 subst hv2
 have hr2:=ho2.rd
 refine zgo ?_
 refine WO.make tab_ok rfl rfl rfl rfl rfl rfl rfl rfl rfl rfl (by omega) fun h3 hb3 hx3 hs3=>?_
 refine zgo ?_
 have hx03:=(hx1.trans hx2).trans hx3
 have hz1:=hx1.size
 have hz2:=hx2.size
 refine Runs.loop (X:=OX) (fun x=>[(0,.pointer (some ⟨b,0,none⟩)),(3,.pointer (some ⟨h.size,0,none⟩)),(4,.slice ad all.length cap),(5,.int .i64 (all.length:Int)),(6,.slice (some ⟨h2.size,0,none⟩) all.length all.length),(37,.int .i64 (all.length:Int)),(38,.int .i64 (x.k:Int))])
  (fun x h'=>x.k≤all.length∧x.rbs.length=x.k∧Ext h2 h'∧Blk h' h2.size (rowsV all.length x.rbs++List.replicate (all.length-x.k) (.slice none 0 0)) 129∧(∀ rb∈x.rbs,Blk h' rb (bools (List.replicate all.length false)) 4∧h2.size<rb)∧x.rbs.Nodup)
  (fun x=>all.length-x.k) ⟨0,[]⟩ ⟨rfl,rfl,rfl,rfl,rfl,rfl,rfl,trivial⟩ ⟨Nat.zero_le _,rfl,hx3,hb3,by simp,by simp⟩ ?_
 rintro ⟨k,rbs⟩ h4 ⟨hk,hkl,hx4,hb4,hrow4,hnd4⟩ ih
 dsimp only at hk hkl hx4 hb4 hrow4 hnd4 ih ⊢
 have hlt4:=hb4.lt
 refine zgo ?_
 refine Runs.cond_dec rfl (fun hlt=>?_) (fun hge=>?_)
 ·have hlt':k<all.length:=by omega
  refine zgo ?_
  refine WO.make tab_ok rfl rfl rfl rfl rfl rfl rfl rfl rfl rfl (by omega) fun h5 hb5 hx5 hs5=>?_
  refine zgo ?_
  refine WO.put1 tab_ok rfl rfl rfl rfl rfl rfl rfl (one_slice _ _ _) (hb4.ext hx5) (by simp [rowsV];omega) fun h6 hb6 hx6 hs6=>?_
  refine zgo ?_
  have hb6':Blk h6 h2.size (rowsV all.length (rbs++[h4.size])++List.replicate (all.length-(k+1)) (.slice none 0 0)) 129:=by
   have e:all.length-k=(all.length-(k+1))+1:=by omega
   rw [Nat.zero_add,Nat.mul_one,e,List.replicate_succ,List.set_append,if_neg (by simp [rowsV];omega),show k-(rowsV all.length rbs).length=0 by simp [rowsV];omega] at hb6
   simpa [rowsV] using hb6
  refine ih ⟨k+1,rbs++[h4.size]⟩ _ _ (by dsimp only;omega) ⟨rfl,rfl,rfl,rfl,rfl,rfl,rfl,trivial⟩ ⟨hlt',by simp;omega,?_,hb6',fun rb hrb=>?_,?_⟩
  ·exact (hx4.trans hx5).trans_new (hx6.mono (fun k _ e=>.inr (by subst e;exact Nat.le_refl _)))
  ·rcases List.mem_append.1 hrb with e | e
   ·obtain ⟨e1,e2⟩:=hrow4 rb e
    exact ⟨(e1.ext hx5).fr hx6 (by omega),e2⟩
   ·simp at e;subst e
    exact ⟨by rw [bools_replicate];exact hb5.fr hx6 (by omega),by omega⟩
  ·rw [List.nodup_append]
   refine ⟨hnd4,by simp,fun x hx y hy e=>?_⟩
   simp at hy;subst hy;subst e
   have:=(hrow4 _ hx).1.lt
   omega
 ·have hk':k=all.length:=by omega
  subst hk'
  have hom:OM h4 129 4 all.length h2.size rbs (zeros all.length):=by
   refine ⟨hkl,⟨by simp [zeros],fun r hr=>?_⟩,by simpa using hb4,fun i rb r hi hr=>?_,hnd4,fun e=>?_⟩
   ·simp [zeros] at hr;rw [hr.2];simp
   ·have:=List.mem_of_getElem? hr
    simp [zeros] at this
    rw [this.2];exact (hrow4 rb (List.mem_of_getElem? hi)).1
   ·have:=(hrow4 _ e).2;omega
  have hrb4:∀ rb∈rbs,h2.size<rb∧rb<h4.size:=fun rb hrb=>⟨(hrow4 rb hrb).2,(hrow4 rb hrb).1.lt⟩
  have hx04:=(hx1.trans hx2).trans hx4
  have hs04:=hx04.size
  have hmb4:Blk h4 h.size [.pointer (some ⟨b,0,none⟩),.slice none 0 0,.slice none 0 0,.slice none 0 0,.slice none 0 0] 131:=hb1.ext (hx2.trans hx4)
  have hr4:=hr2.ext hx4
  have hown2:=ho2.lt
  have hExt:∀ h',Fr (fun k=>k∈rbs) h4 h'→Ext h h':=fun h' hf=>hx04.trans_new (hf.mono fun k _ e=>.inr (by have:=hrb4 k e;omega))
  have hAll:∀ h',Fr (fun k=>k∈rbs) h4 h'→Rd h' 7 (.slice ad all.length cap) all.length (linesC all):=fun h' hf=>hr4.fr hf (fun k hk e=>by have:=hrb4 k e;have:=hown2 k hk;omega)
  have hfe:∀ h' h'',Fr (fun k=>k∈rbs) h4 h'→Ext h' h''→Fr (fun k=>k∈rbs) h4 h'':=fun h' h'' x y=>x.trans (y.mono fun _ _ e=>e.elim)
  clear hb4 hrow4 ih
  refine zgo ?_
  refine Runs.loop (X:=Nat) (fun i=>[(0,.pointer (some ⟨b,0,none⟩)),(3,.pointer (some ⟨h.size,0,none⟩)),(4,.slice ad all.length cap),(5,.int .i64 (all.length:Int)),(6,.slice (some ⟨h2.size,0,none⟩) all.length all.length),(47,.slice ad all.length cap),(48,.int .i64 (all.length:Int)),(49,.int .i64 (i:Int))])
   (fun i h'=>i≤all.length∧Fr (fun k=>k∈rbs) h4 h'∧OM h' 129 4 all.length h2.size rbs (saidL all (all.take i) (zeros all.length)))
   (fun i=>all.length-i) 0 ⟨rfl,rfl,rfl,rfl,rfl,rfl,rfl,rfl,trivial⟩ ⟨Nat.zero_le _,Fr.refl _ _,hom⟩ ?_
  rintro i h5 ⟨hi,hf5,hom5⟩ ih
  refine zgo ?_
  refine Runs.cond_dec rfl (fun hlt=>?_) (fun hge=>?_)
  ·have hlt':i<all.length:=by omega
   have hget:all[i]? = some all[i]:=List.getElem?_eq_getElem hlt'
   have hsn:saidL all (all.take (i+1)) (zeros all.length)=sayS all all[i].ref all[i].down (sayS all all[i].up all[i].ref (saidL all (all.take i) (zeros all.length))):=by
    rw [List.take_succ_eq_append_getElem hlt',saidL,List.foldl_append];rfl
   generalize all[i]=x at *
   obtain ⟨b0,p0,cap0,hv,_,hcells⟩:=(hAll h5 hf5).pos (by omega)
   cases hv
   have hcc:=linesC_get hcells hget
   refine zgo ?_
   refine zv x.one fun h6 hb6 hx6 hs6=>?_
   have hf6:=hfe h5 h6 hf5 hx6
   have hom6:=hom5.ext hx6
   have e1:Cells h6 h5.size (0+2) x.up.cells:=hb6.cells.tail.tail.take 2
   have e2:Cells h6 h5.size (0+0) x.ref.cells:=hb6.cells.take 2
   have e2':Cells h6 h5.size 0 x.ref.cells:=hb6.cells.take 2
   have hlt6:=hb6.lt
   refine zgo ?_
   refine WO.call rfl rfl rfl rfl plain107 rfl (say_ret all x.up x.ref h2.size rbs _ _ _ (hAll h6 hf6) hll hom6) fun v7 h7 ⟨hf7,hom7⟩=>?_
   have hne:¬ h5.size∈rbs:=fun e=>by have:=hrb4 _ e;have:=hf5.size;omega
   have hb7:=hb6.fr hf7 hne
   have hf7':=hf6.trans hf7
   have e3:Cells h7 h5.size (0+0) x.ref.cells:=hb7.cells.take 2
   have e4:Cells h7 h5.size (0+4) x.down.cells:=hb7.cells.tail.tail.tail.tail.take 2
   have e3':Cells h7 h5.size 0 x.ref.cells:=hb7.cells.take 2
   refine zgo ?_
   refine WO.call rfl rfl rfl rfl plain107 rfl (say_ret all x.ref x.down h2.size rbs _ _ _ (hAll h7 hf7') hll hom7) fun v8 h8 ⟨hf8,hom8⟩=>?_
   refine zgo ?_
   exact ih (i+1) _ _ (by omega) ⟨rfl,rfl,rfl,rfl,rfl,rfl,rfl,rfl,trivial⟩ ⟨hlt',hf7'.trans hf8,by rw [hsn];exact hom8⟩
  ·rw [List.take_of_length_le (by omega)] at hom5
   generalize hm5:saidL all all (zeros all.length)=m5 at *
   have hs5:=hs.ext (hExt h5 hf5)
   have hs0:=hs
   obtain ⟨lv,hc,hr,hps,_⟩:=hs
   obtain ⟨adp,capp,hv⟩:=hr.form
   subst hv
   have hxh5:=hExt h5 hf5
   have g0:=hxh5.xc hc.head
   clear ih
   refine zgo ?_
   refine Runs.loop (X:=Nat) (fun i=>[(0,.pointer (some ⟨b,0,none⟩)),(3,.pointer (some ⟨h.size,0,none⟩)),(4,.slice ad all.length cap),(5,.int .i64 (all.length:Int)),(6,.slice (some ⟨h2.size,0,none⟩) all.length all.length),(71,.slice adp bs.length capp),(72,.int .i64 (bs.length:Int)),(73,.int .i64 (i:Int))])
    (fun i h'=>i≤bs.length∧Fr (fun k=>k∈rbs) h4 h'∧OM h' 129 4 all.length h2.size rbs (saidP all (ps.take i) m5))
    (fun i=>bs.length-i) 0 ⟨rfl,rfl,rfl,rfl,rfl,rfl,rfl,rfl,trivial⟩ ⟨Nat.zero_le _,hf5,hom5⟩ ?_
   rintro i h6 ⟨hi,hf6,hom6⟩ ih
   have hxh6:=hExt h6 hf6
   refine zgo ?_
   refine Runs.cond_dec rfl (fun hlt=>?_) (fun hge=>?_)
   ·have hlt':i<bs.length:=by omega
    have hltp:i<ps.length:=by rw [← hps.1];exact hlt'
    have hget:bs[i]? = some bs[i]:=List.getElem?_eq_getElem hlt'
    have hgetp:ps[i]? = some ps[i]:=List.getElem?_eq_getElem hltp
    have hsn:saidP all (ps.take (i+1)) m5=saidC all ps[i].changes (saidP all (ps.take i) m5):=by rw [List.take_succ_eq_append_getElem hltp,saidP,List.foldl_append];rfl
    have hpl:=hcl ps[i] (List.getElem_mem hltp)
    generalize bs[i]=bb at *
    generalize ps[i]=p at *
    generalize saidP all (ps.take i) m5=m6 at *
    obtain ⟨nv,cv,hpc,_,hcs,_⟩:=hps.2 i bb p hget hgetp
    have g2:=hxh6.xc hpc.tail.tail.head
    obtain ⟨b0,p0,cap0,hv,_,hcell⟩:=(hr.ext hxh6).cell (ptrs_get hget)
    cases hv
    obtain ⟨adc,capc,hcv⟩:=hcs.form
    subst hcv
    refine zgo ?_
    refine Runs.loop (X:=Nat) (fun j=>[(0,.pointer (some ⟨b,0,none⟩)),(3,.pointer (some ⟨h.size,0,none⟩)),(4,.slice ad all.length cap),(5,.int .i64 (all.length:Int)),(6,.slice (some ⟨h2.size,0,none⟩) all.length all.length),(71,.slice (some ⟨b0,p0,none⟩) bs.length capp),(72,.int .i64 (bs.length:Int)),(73,.int .i64 (i:Int)),(80,.slice adc p.changes.length capc),(81,.int .i64 (p.changes.length:Int)),(82,.int .i64 (j:Int))])
     (fun j h'=>j≤p.changes.length∧Fr (fun k=>k∈rbs) h4 h'∧OM h' 129 4 all.length h2.size rbs (saidC all (p.changes.take j) m6))
     (fun j=>p.changes.length-j) 0 ⟨rfl,rfl,rfl,rfl,rfl,rfl,rfl,rfl,rfl,rfl,rfl,trivial⟩ ⟨Nat.zero_le _,hf6,hom6⟩ ?_
    rintro j h7 ⟨hj,hf7,hom7⟩ ih7
    have hxh7:=hExt h7 hf7
    refine zgo ?_
    refine Runs.cond_dec rfl (fun hlt7=>?_) (fun hge7=>?_)
    ·have hltj:j<p.changes.length:=by omega
     have hgetj:p.changes[j]? = some p.changes[j]:=List.getElem?_eq_getElem hltj
     have hsn7:saidC all (p.changes.take (j+1)) m6=(if p.changes[j].kind=3 then sayS all p.changes[j].up p.changes[j].down (saidC all (p.changes.take j) m6) else saidC all (p.changes.take j) m6):=by rw [List.take_succ_eq_append_getElem hltj,saidC,List.foldl_append];rfl
     generalize p.changes[j]=c at *
     obtain ⟨b8,p8,cap8,hv8,_,hcells⟩:=(hcs.ext hxh7).pos (by omega)
     cases hv8
     have hcc:=changes_get hcells hgetj
     refine zgo ?_
     refine zv c.one fun h8 hb8 hx8 hs8=>?_
     have e0:=hb8.cell (j:=0) rfl
     have hf8:=hfe h7 h8 hf7 hx8
     have hom8:=hom7.ext hx8
     refine zgo ?_
     refine Runs.cond_dec rfl (fun q1=>?_) (fun q1=>?_)
     ·rw [if_pos (by omega)] at hsn7
      have e1:Cells h8 h7.size (0+1) c.up.cells:=hb8.cells.tail.take 2
      have e2:Cells h8 h7.size (0+3) c.down.cells:=hb8.cells.tail.tail.tail.take 2
      refine zgo ?_
      refine WO.call rfl rfl rfl rfl plain107 rfl (say_ret all c.up c.down h2.size rbs _ _ _ (hAll h8 hf8) hll hom8) fun v9 h9 ⟨hf9,hom9⟩=>?_
      refine zgo ?_
      exact ih7 (j+1) _ _ (by omega) ⟨rfl,rfl,rfl,rfl,rfl,rfl,rfl,rfl,rfl,rfl,rfl,trivial⟩ ⟨hltj,hf8.trans hf9,by rw [hsn7];exact hom9⟩
     ·rw [if_neg (by omega)] at hsn7
      refine zgo ?_
      exact ih7 (j+1) _ _ (by omega) ⟨rfl,rfl,rfl,rfl,rfl,rfl,rfl,rfl,rfl,rfl,rfl,trivial⟩ ⟨hltj,hf8,by rw [hsn7];exact hom8⟩
    ·rw [List.take_of_length_le (by omega)] at hom7
     refine zgo ?_
     exact ih (i+1) _ _ (by omega) ⟨rfl,rfl,rfl,rfl,rfl,rfl,rfl,rfl,trivial⟩ ⟨hlt',hf7,by rw [hsn];exact hom7⟩
   ·rw [List.take_of_length_le (by rw [← hps.1];omega)] at hom6
    generalize hm6:saidP all ps m5=m6 at *
    clear ih
    refine zgo ?_
    refine Runs.loop (X:=Nat) (fun k=>[(0,.pointer (some ⟨b,0,none⟩)),(3,.pointer (some ⟨h.size,0,none⟩)),(4,.slice ad all.length cap),(5,.int .i64 (all.length:Int)),(6,.slice (some ⟨h2.size,0,none⟩) all.length all.length),(14,.int .i64 (k:Int))])
     (fun k h'=>k≤all.length∧Fr (fun k=>k∈rbs) h4 h'∧OM h' 129 4 all.length h2.size rbs (thrK all.length (List.range k) m6))
     (fun k=>all.length-k) 0 ⟨rfl,rfl,rfl,rfl,rfl,rfl,trivial⟩ ⟨Nat.zero_le _,hf6,hom6⟩ ?_
    rintro k h7 ⟨hk,hf7,hom7⟩ ih7
    refine zgo ?_
    refine Runs.cond_dec rfl (fun hlt7=>?_) (fun hge7=>?_)
    ·have hlt7':k<all.length:=by omega
     have hsn7:thrK all.length (List.range (k+1)) m6=thrI all.length k (List.range all.length) (thrK all.length (List.range k) m6):=by rw [List.range_succ,thrK,List.foldl_append];rfl
     generalize thrK all.length (List.range k) m6=m7 at *
     refine zgo ?_
     refine Runs.loop (X:=Nat) (fun i=>[(0,.pointer (some ⟨b,0,none⟩)),(3,.pointer (some ⟨h.size,0,none⟩)),(4,.slice ad all.length cap),(5,.int .i64 (all.length:Int)),(6,.slice (some ⟨h2.size,0,none⟩) all.length all.length),(14,.int .i64 (k:Int)),(15,.int .i64 (i:Int))])
      (fun i h'=>i≤all.length∧Fr (fun k=>k∈rbs) h4 h'∧OM h' 129 4 all.length h2.size rbs (thrI all.length k (List.range i) m7))
      (fun i=>all.length-i) 0 ⟨rfl,rfl,rfl,rfl,rfl,rfl,rfl,trivial⟩ ⟨Nat.zero_le _,hf7,hom7⟩ ?_
     rintro i h8 ⟨hi8,hf8,hom8⟩ ih8
     refine zgo ?_
     refine Runs.cond_dec rfl (fun hlt8=>?_) (fun hge8=>?_)
     ·have hlt8':i<all.length:=by omega
      have hsn8:thrI all.length k (List.range (i+1)) m7=thrJ k i (List.range all.length) (thrI all.length k (List.range i) m7):=by rw [List.range_succ,thrI,List.foldl_append];rfl
      generalize thrI all.length k (List.range i) m7=m8 at *
      refine zgo ?_
      refine Runs.loop (X:=Nat) (fun j=>[(0,.pointer (some ⟨b,0,none⟩)),(3,.pointer (some ⟨h.size,0,none⟩)),(4,.slice ad all.length cap),(5,.int .i64 (all.length:Int)),(6,.slice (some ⟨h2.size,0,none⟩) all.length all.length),(14,.int .i64 (k:Int)),(15,.int .i64 (i:Int)),(16,.int .i64 (j:Int))])
       (fun j h'=>j≤all.length∧Fr (fun k=>k∈rbs) h4 h'∧OM h' 129 4 all.length h2.size rbs (thrJ k i (List.range j) m8))
       (fun j=>all.length-j) 0 ⟨rfl,rfl,rfl,rfl,rfl,rfl,rfl,rfl,trivial⟩ ⟨Nat.zero_le _,hf8,hom8⟩ ?_
      rintro j h9 ⟨hj9,hf9,hom9⟩ ih9
      refine zgo ?_
      refine Runs.cond_dec rfl (fun hlt9=>?_) (fun hge9=>?_)
      ·have hlt9':j<all.length:=by omega
       have hsn9:thrJ k i (List.range (j+1)) m8=thrS (thrJ k i (List.range j) m8) k i j:=by rw [List.range_succ,thrJ,List.foldl_append];rfl
       generalize thrJ k i (List.range j) m8=m9 at *
       obtain ⟨rbi,ri,hrbi,hmi,hrli,ci,hbi,hgi⟩:=hom9.get hlt8'
       obtain ⟨rbk,rk,hrbk,hmk,hrlk,ck,hbk,hgk⟩:=hom9.get hlt7'
       have dij:cellAt h9 rbi (0+j*1)=some (.bool (getB m9 i j)):=by rw [Nat.zero_add,Nat.mul_one];exact hbi.cell (hgi j hlt9')
       have dik:cellAt h9 rbi (0+k*1)=some (.bool (getB m9 i k)):=by rw [Nat.zero_add,Nat.mul_one];exact hbi.cell (hgi k hlt7')
       have dkj:cellAt h9 rbk (0+j*1)=some (.bool (getB m9 k j)):=by rw [Nat.zero_add,Nat.mul_one];exact hbk.cell (hgk j hlt9')
       refine zgo ?_
       cases eij:getB m9 i j
       ·rw [eij] at dij
        cases eik:getB m9 i k
        ·rw [eik] at dik
         refine Runs.drawn (m:=32) (fun h'=>h'=h9) (fun i=>Nat.beq i 31) mixed rfl ?_
         refine zp 0 rfl ?_
         refine zp 1 rfl ?_
         refine WF.take 2 rfl (fun _ _=>ov_indexAddr tab_ok rfl rfl rfl rfl rfl rfl (by omega)) rfl rfl rfl rfl (by kernel_rfl) ?_
         refine WF.take 3 rfl (fun _ hS=>by rw [hS];exact ov_load tab_ok rfl rfl rfl rfl ci) rfl rfl rfl rfl (by kernel_rfl) ?_
         refine zp 4 rfl ?_
         refine zp 5 rfl ?_
         refine zp 6 rfl ?_
         refine WF.take 7 rfl (fun _ _=>ov_indexAddr tab_ok rfl rfl rfl rfl rfl rfl (by omega)) rfl rfl rfl rfl (by kernel_rfl) ?_
         refine WF.take 8 rfl (fun _ hS=>by rw [hS];exact ov_load tab_ok rfl rfl rfl rfl ci) rfl rfl rfl rfl (by kernel_rfl) ?_
         refine zp 9 rfl ?_
         refine WF.take 10 rfl (fun _ _=>ov_indexAddr tab_ok rfl rfl rfl rfl rfl rfl (by omega)) rfl rfl rfl rfl (by kernel_rfl) ?_
         refine WF.take 11 rfl (fun _ hS=>by rw [hS];exact ov_load tab_ok rfl rfl rfl rfl dij) rfl rfl rfl rfl (by kernel_rfl) ?_
         refine zp 12 rfl ?_
         refine zp 13 rfl ?_
         refine zp 14 rfl ?_
         refine WF.take 15 rfl (fun _ _=>ov_indexAddr tab_ok rfl rfl rfl rfl rfl rfl (by omega)) rfl rfl rfl rfl (by kernel_rfl) ?_
         refine WF.take 16 rfl (fun _ hS=>by rw [hS];exact ov_load tab_ok rfl rfl rfl rfl ci) rfl rfl rfl rfl (by kernel_rfl) ?_
         refine zp 17 rfl ?_
         refine WF.take 18 rfl (fun _ _=>ov_indexAddr tab_ok rfl rfl rfl rfl rfl rfl (by omega)) rfl rfl rfl rfl (by kernel_rfl) ?_
         refine WF.take 19 rfl (fun _ hS=>by rw [hS];exact ov_load tab_ok rfl rfl rfl rfl dik) rfl rfl rfl rfl (by kernel_rfl) ?_
         refine zp 20 rfl ?_
         refine zq 21 rfl ?_
         refine zq 22 rfl ?_
         refine zq 23 rfl ?_
         refine zq 24 rfl ?_
         refine zq 25 rfl ?_
         refine zq 26 rfl ?_
         refine zq 27 rfl ?_
         refine zp 28 rfl ?_
         refine zp 29 rfl ?_
         refine WF.take 30 rfl (fun _ _=>ov_indexAddr tab_ok rfl rfl rfl rfl rfl rfl (by omega)) rfl rfl rfl rfl (by kernel_rfl) ?_
         refine WF.put1 31 tab_ok (by kernel_rfl) rfl rfl rfl rfl rfl rfl rfl rfl (one_bool _) hbi (by simp [bools];omega) rfl fun h10 hb10 hx10 hs10=>?_
         refine zd ?_
         rw [Nat.zero_add,Nat.mul_one] at hb10
         have hom10:=hom9.set hrbi hmi hb10 hx10
         refine zgo ?_
         refine ih9 (j+1) _ _ (by omega) ⟨rfl,rfl,rfl,rfl,rfl,rfl,rfl,rfl,trivial⟩ ⟨hlt9',hf9.trans (hx10.mono fun k _ e=>by subst e;exact List.mem_of_getElem? hrbi),?_⟩
         rw [hsn9];unfold thrS;rw [eij,eik];simpa using hom10
        ·rw [eik] at dik
         refine Runs.drawn (m:=32) (fun h'=>h'=h9) (fun i=>Nat.beq i 31) mixed rfl ?_
         refine zp 0 rfl ?_
         refine zp 1 rfl ?_
         refine WF.take 2 rfl (fun _ _=>ov_indexAddr tab_ok rfl rfl rfl rfl rfl rfl (by omega)) rfl rfl rfl rfl (by kernel_rfl) ?_
         refine WF.take 3 rfl (fun _ hS=>by rw [hS];exact ov_load tab_ok rfl rfl rfl rfl ci) rfl rfl rfl rfl (by kernel_rfl) ?_
         refine zp 4 rfl ?_
         refine zp 5 rfl ?_
         refine zp 6 rfl ?_
         refine WF.take 7 rfl (fun _ _=>ov_indexAddr tab_ok rfl rfl rfl rfl rfl rfl (by omega)) rfl rfl rfl rfl (by kernel_rfl) ?_
         refine WF.take 8 rfl (fun _ hS=>by rw [hS];exact ov_load tab_ok rfl rfl rfl rfl ci) rfl rfl rfl rfl (by kernel_rfl) ?_
         refine zp 9 rfl ?_
         refine WF.take 10 rfl (fun _ _=>ov_indexAddr tab_ok rfl rfl rfl rfl rfl rfl (by omega)) rfl rfl rfl rfl (by kernel_rfl) ?_
         refine WF.take 11 rfl (fun _ hS=>by rw [hS];exact ov_load tab_ok rfl rfl rfl rfl dij) rfl rfl rfl rfl (by kernel_rfl) ?_
         refine zp 12 rfl ?_
         refine zp 13 rfl ?_
         refine zp 14 rfl ?_
         refine WF.take 15 rfl (fun _ _=>ov_indexAddr tab_ok rfl rfl rfl rfl rfl rfl (by omega)) rfl rfl rfl rfl (by kernel_rfl) ?_
         refine WF.take 16 rfl (fun _ hS=>by rw [hS];exact ov_load tab_ok rfl rfl rfl rfl ci) rfl rfl rfl rfl (by kernel_rfl) ?_
         refine zp 17 rfl ?_
         refine WF.take 18 rfl (fun _ _=>ov_indexAddr tab_ok rfl rfl rfl rfl rfl rfl (by omega)) rfl rfl rfl rfl (by kernel_rfl) ?_
         refine WF.take 19 rfl (fun _ hS=>by rw [hS];exact ov_load tab_ok rfl rfl rfl rfl dik) rfl rfl rfl rfl (by kernel_rfl) ?_
         refine zp 20 rfl ?_
         refine zp 21 rfl ?_
         refine zp 22 rfl ?_
         refine WF.take 23 rfl (fun _ _=>ov_indexAddr tab_ok rfl rfl rfl rfl rfl rfl (by omega)) rfl rfl rfl rfl (by kernel_rfl) ?_
         refine WF.take 24 rfl (fun _ hS=>by rw [hS];exact ov_load tab_ok rfl rfl rfl rfl ck) rfl rfl rfl rfl (by kernel_rfl) ?_
         refine zp 25 rfl ?_
         refine WF.take 26 rfl (fun _ _=>ov_indexAddr tab_ok rfl rfl rfl rfl rfl rfl (by omega)) rfl rfl rfl rfl (by kernel_rfl) ?_
         refine WF.take 27 rfl (fun _ hS=>by rw [hS];exact ov_load tab_ok rfl rfl rfl rfl dkj) rfl rfl rfl rfl (by kernel_rfl) ?_
         refine zp 28 rfl ?_
         refine zp 29 rfl ?_
         refine WF.take 30 rfl (fun _ _=>ov_indexAddr tab_ok rfl rfl rfl rfl rfl rfl (by omega)) rfl rfl rfl rfl (by kernel_rfl) ?_
         refine WF.put1 31 tab_ok (by kernel_rfl) rfl rfl rfl rfl rfl rfl rfl rfl (one_bool _) hbi (by simp [bools];omega) rfl fun h10 hb10 hx10 hs10=>?_
         refine zd ?_
         rw [Nat.zero_add,Nat.mul_one] at hb10
         have hom10:=hom9.set hrbi hmi hb10 hx10
         refine zgo ?_
         refine ih9 (j+1) _ _ (by omega) ⟨rfl,rfl,rfl,rfl,rfl,rfl,rfl,rfl,trivial⟩ ⟨hlt9',hf9.trans (hx10.mono fun k _ e=>by subst e;exact List.mem_of_getElem? hrbi),?_⟩
         rw [hsn9];unfold thrS;rw [eij,eik];simpa using hom10
       ·rw [eij] at dij
        refine Runs.drawn (m:=32) (fun h'=>h'=h9) (fun i=>Nat.beq i 31) mixed rfl ?_
        refine zp 0 rfl ?_
        refine zp 1 rfl ?_
        refine WF.take 2 rfl (fun _ _=>ov_indexAddr tab_ok rfl rfl rfl rfl rfl rfl (by omega)) rfl rfl rfl rfl (by kernel_rfl) ?_
        refine WF.take 3 rfl (fun _ hS=>by rw [hS];exact ov_load tab_ok rfl rfl rfl rfl ci) rfl rfl rfl rfl (by kernel_rfl) ?_
        refine zp 4 rfl ?_
        refine zp 5 rfl ?_
        refine zp 6 rfl ?_
        refine WF.take 7 rfl (fun _ _=>ov_indexAddr tab_ok rfl rfl rfl rfl rfl rfl (by omega)) rfl rfl rfl rfl (by kernel_rfl) ?_
        refine WF.take 8 rfl (fun _ hS=>by rw [hS];exact ov_load tab_ok rfl rfl rfl rfl ci) rfl rfl rfl rfl (by kernel_rfl) ?_
        refine zp 9 rfl ?_
        refine WF.take 10 rfl (fun _ _=>ov_indexAddr tab_ok rfl rfl rfl rfl rfl rfl (by omega)) rfl rfl rfl rfl (by kernel_rfl) ?_
        refine WF.take 11 rfl (fun _ hS=>by rw [hS];exact ov_load tab_ok rfl rfl rfl rfl dij) rfl rfl rfl rfl (by kernel_rfl) ?_
        refine zp 12 rfl ?_
        refine zq 13 rfl ?_
        refine zq 14 rfl ?_
        refine zq 15 rfl ?_
        refine zq 16 rfl ?_
        refine zq 17 rfl ?_
        refine zq 18 rfl ?_
        refine zq 19 rfl ?_
        refine zq 20 rfl ?_
        refine zq 21 rfl ?_
        refine zq 22 rfl ?_
        refine zq 23 rfl ?_
        refine zq 24 rfl ?_
        refine zq 25 rfl ?_
        refine zq 26 rfl ?_
        refine zq 27 rfl ?_
        refine zq 28 rfl ?_
        refine zp 29 rfl ?_
        refine WF.take 30 rfl (fun _ _=>ov_indexAddr tab_ok rfl rfl rfl rfl rfl rfl (by omega)) rfl rfl rfl rfl (by kernel_rfl) ?_
        refine WF.put1 31 tab_ok (by kernel_rfl) rfl rfl rfl rfl rfl rfl rfl rfl (one_bool _) hbi (by simp [bools];omega) rfl fun h10 hb10 hx10 hs10=>?_
        refine zd ?_
        rw [Nat.zero_add,Nat.mul_one] at hb10
        have hom10:=hom9.set hrbi hmi hb10 hx10
        refine zgo ?_
        refine ih9 (j+1) _ _ (by omega) ⟨rfl,rfl,rfl,rfl,rfl,rfl,rfl,rfl,trivial⟩ ⟨hlt9',hf9.trans (hx10.mono fun k _ e=>by subst e;exact List.mem_of_getElem? hrbi),?_⟩
        rw [hsn9];unfold thrS;rw [eij];simpa using hom10
      ·refine zgo ?_
       have:j=all.length:=by omega
       subst this
       exact ih8 (i+1) _ _ (by omega) ⟨rfl,rfl,rfl,rfl,rfl,rfl,rfl,trivial⟩ ⟨hlt8',hf9,by rw [hsn8];exact hom9⟩
     ·refine zgo ?_
      have:i=all.length:=by omega
      subst this
      exact ih7 (k+1) _ _ (by omega) ⟨rfl,rfl,rfl,rfl,rfl,rfl,trivial⟩ ⟨hlt7',hf8,by rw [hsn7];exact hom8⟩
    ·have hk7:k=all.length:=by omega
     subst hk7
     generalize hon:thrK all.length (List.range all.length) m6=on at *
     clear ih7
     have hf47:=hf7
     have hx07:=hExt h7 hf7
     have hs07:=hx07.size
     have hs47:=hf7.size
     have hs24:=hx4.size
     have hmb7:=hmb4.fr hf7 (fun e=>by have:=hrb4 _ e;omega)
     have hall7:=hAll h7 hf7
     have hownA:∀ k,Value.ownBlock (.slice ad all.length cap)=some k→h.size<k∧k<h2.size:=fun k hk=>⟨(hm2 k hk).elim (fun e=>by simp [Value.ownBlock] at e) (fun e=>by omega),hown2 k hk⟩
     have hXh:∀ h',Fr (fun k=>k=h.size) h7 h'→Ext h h':=fun h' hf=>hx07.trans_new (hf.mono fun k _ e=>.inr (by omega))
     have hXa:∀ h',Fr (fun k=>k=h.size) h7 h'→Rd h' 7 (.slice ad all.length cap) all.length (linesC all):=fun h' hf=>hall7.fr hf (fun k hk e=>by have:=hownA k hk;omega)
     refine zgo ?_
     refine Runs.loop (X:=LX) (fun x=>[(0,.pointer (some ⟨b,0,none⟩)),(3,.pointer (some ⟨h.size,0,none⟩)),(4,.slice ad all.length cap),(6,.slice (some ⟨h2.size,0,none⟩) all.length all.length),(17,x.lv),(145,.int .i64 (all.length:Int)),(146,.int .i64 (x.i:Int))])
      (fun x h'=>x.i≤all.length∧Fr (fun k=>k=h.size) h7 h'∧Blk h' h.size [.pointer (some ⟨b,0,none⟩),x.av,.slice none 0 0,.slice none 0 0,.slice none 0 0] 131∧Own h' 3 1 x.lv (liveTo ps all x.i).length (ints (liveTo ps all x.i))∧Own h' 127 7 x.av (alOf all (liveTo ps all x.i)).length (linesC (alOf all (liveTo ps all x.i)))∧(∀ k,x.lv.ownBlock=some k→h7.size≤k)∧(∀ k,x.av.ownBlock=some k→h7.size≤k)∧(∀ k,x.lv.ownBlock=some k→x.av.ownBlock≠some k)∧(liveTo ps all x.i).length=(alOf all (liveTo ps all x.i)).length)
      (fun x=>all.length-x.i) ⟨0,.slice none 0 0,.slice none 0 0⟩ ⟨rfl,rfl,rfl,rfl,rfl,rfl,rfl,trivial⟩ ⟨Nat.zero_le _,Fr.refl _ _,hmb7,Own.nil _ _ _,Own.nil _ _ _,fun k hk=>by simp [Value.ownBlock] at hk,fun k hk=>by simp [Value.ownBlock] at hk,fun k hk=>by simp [Value.ownBlock] at hk,rfl⟩ ?_
     rintro ⟨i,lv,av⟩ h8 ⟨hi8,hf8,hmb8,hol8,hoa8,hml8,hma8,hap8,hla8⟩ ih8
     dsimp only at hi8 hf8 hmb8 hol8 hoa8 hml8 hma8 hap8 hla8 ih8 ⊢
     have hs78:=hf8.size
     refine zgo ?_
     refine Runs.cond_dec rfl (fun hlt8=>?_) (fun hge8=>?_)
     ·have hlt8':i<all.length:=by omega
      have hget:all[i]? = some all[i]:=List.getElem?_eq_getElem hlt8'
      have hlen8:(liveTo ps all i).length≤i:=filter_range_le _ _
      have hsn8:liveTo ps all (i+1)=liveTo ps all i++(if (killersS all[i].ref ps).length=0 then [i] else []):=by
       unfold liveTo
       rw [List.range_succ,List.filter_append]
       congr 1
       have:isLive ps all i=decide ((killersS all[i].ref ps).length=0):=by unfold isLive;rw [hget]
       by_cases e:(killersS all[i].ref ps).length=0
       ·rw [if_pos e,List.filter_cons,this];simp [e]
       ·rw [if_neg e,List.filter_cons,this];simp only [e,decide_false];simp
      have hal8:alOf all (liveTo ps all i++[i])=alOf all (liveTo ps all i)++[all[i]]:=by unfold alOf;rw [List.filterMap_append];simp [hget]
      generalize all[i]=x at *
      generalize liveTo ps all i=live at *
      obtain ⟨b0,p0,cap0,hv,_,hcells⟩:=(hXa h8 hf8).pos (by omega)
      cases hv
      have hcc:=linesC_get hcells hget
      have e2:Cells h8 b0 (p0+i*7+0) x.ref.cells:=hcc.take 2
      refine zgo ?_
      refine WO.call rfl rfl rfl rfl plain108 rfl (killers_ret b bs ps x.ref _ (hs0.ext (hXh h8 hf8)) hl hcl) fun v9 h9 ⟨hx9,ho9,hm9,hl9⟩=>?_
      obtain ⟨ad9,cap9,hv9⟩:=ho9.rd.form
      subst hv9
      have hf9:Fr (fun k=>k=h.size) h7 h9:=hf8.trans (hx9.mono fun _ _ e=>e.elim)
      have hmb9:=hmb8.ext hx9
      have hol9:=hol8.fr hx9 (by simp)
      have hoa9:=hoa8.fr hx9 (by simp)
      refine zgo ?_
      refine Runs.cond_dec rfl (fun q1=>?_) (fun q1=>?_)
      ·rw [if_pos (by omega)] at hsn8
       refine zgo ?_
       refine zh (one_int _) hol9 ?_
       intro v10 h10 o1 o2 o3
       have hs710:=hf9.size
       have hs910:=o2.size
       have hmb10:=hmb9.fr o2 (fun e=>by have:=hml8 _ e;omega)
       have hoa10:=hoa9.fr o2 (fun k hk e=>hap8 k e hk)
       have hf10:Fr (fun k=>k=h.size) h7 h10:=hf9.trans_new (o2.mono fun k _ e=>.inr (hml8 k e))
       have hc10:Cells h10 b0 (p0+i*7) x.cells:=linesC_get ((hXa h10 hf10).cells_of) hget
       have ho10:=o1.rd
       obtain ⟨adl,capl,hvl⟩:=ho10.form
       subst hvl
       obtain ⟨ada,capa,hva⟩:=hoa10.rd.form
       subst hva
       have hS0:cellAt h10 h.size (0+1)=some (.slice ada (alOf all live).length capa)∧Cells h10 b0 (p0+i*7) x.cells:=⟨hmb10.cell (j:=1) rfl,hc10⟩
       have hSS:∀ h',Fr (fun k=>Value.ownBlock (.slice ada (alOf all live).length capa)=some k) h10 h'→cellAt h' h.size (0+1)=some (.slice ada (alOf all live).length capa)∧Cells h' b0 (p0+i*7) x.cells:=fun h' hf =>
        ⟨hf.cell (fun e=>by have:=hma8 _ e;omega) hS0.1,hf.cells (fun e=>by have:=hma8 _ e;have:=hownA b0 rfl;omega) hS0.2⟩
       refine zgo ?_
       refine Runs.drawn (m:=14) (fun h'=>cellAt h' h.size (0+1)=some (.slice ada (alOf all live).length capa)∧Cells h' b0 (p0+i*7) x.cells) (fun i=>Nat.beq i 13) mixed rfl ?_
       refine zp 0 hS0 ?_
       refine zp 1 hS0 ?_
       refine zp 2 hS0 ?_
       refine zp 3 hS0 ?_
       refine zl 4 (fun _ hS=>hS.1) hS0 ?_
       refine zp 5 hS0 ?_
       refine zp 6 hS0 ?_
       refine WF.take 7 rfl (fun _ _=>ov_indexAddr tab_ok rfl rfl rfl rfl rfl rfl (by omega)) hS0 rfl rfl rfl (by kernel_rfl) ?_
       refine zL 8 (fun _ hS=>hS.2) hS0 ?_
       refine WF.push 9 10 tab_ok (by kernel_rfl) (by kernel_rfl) rfl rfl rfl rfl rfl rfl rfl rfl rfl rfl rfl rfl rfl rfl rfl rfl rfl rfl rfl (by simp) x.one hoa10 (by omega) hSS ?_
       intro v11 h11 o4 o5 o6
       have hS11:=hSS _ o5
       refine zx 11 hS11 ?_
       refine zx 12 hS11 ?_
       have hmb11:=hmb10.fr o5 (fun e=>by have:=hma8 _ e;omega)
       obtain ⟨adb,capb,hvb⟩:=o4.rd.form
       subst hvb
       refine WF.put 13 tab_ok (by kernel_rfl) rfl rfl rfl rfl rfl rfl rfl rfl rfl (one_slice _ _ _) hmb11 rfl rfl fun h12 hb12 hx12 hs12=>?_
       refine zd ?_
       refine zgo ?_
       have hf12:Fr (fun k=>k=h.size) h7 h12:=(hf10.trans_new (o5.mono fun k _ e=>.inr (hma8 k e))).trans hx12
       have hs1011:=o5.size
       refine ih8 ⟨i+1,_,_⟩ _ _ (by dsimp only;omega) ⟨rfl,rfl,rfl,rfl,rfl,rfl,rfl,trivial⟩ ⟨hlt8',hf12,hb12,?_,?_,?_,?_,?_,?_⟩
       ·dsimp only;rw [hsn8,ints_append,List.length_append]
        refine (o1.fr o5 (fun k hk e=>?_)).fr hx12 (fun k hk e=>?_)
        ·rcases o3 k hk with e' | e'
         ·exact hap8 k e' e
         ·have:=hoa9.lt k e;omega
        ·rcases o3 k hk with e' | e'
         ·have:=hml8 k e';omega
         ·omega
       ·dsimp only;rw [hsn8,hal8,linesC_append,List.length_append]
        have o4':=o4.fr hx12 (fun k hk e=>by
         rcases o6 k hk with e' | e'
         ·have:=hma8 k e';omega
         ·omega)
        simpa [linesC] using o4'
       ·intro k hk
        rcases o3 k hk with e' | e'
        ·exact hml8 k e'
        ·omega
       ·intro k hk
        rcases o6 k hk with e' | e'
        ·exact hma8 k e'
        ·omega
       ·intro k hk e
        have hkl:=o1.lt k hk
        rcases o6 k e with e' | e'
        ·rcases o3 k hk with e'' | e''
         ·exact hap8 k e'' e'
         ·have:=hoa9.lt k e';omega
        ·omega
       ·dsimp only;rw [hsn8,hal8,List.length_append,List.length_append,hla8];rfl
      ·rw [if_neg (by omega),List.append_nil] at hsn8
       refine zgo ?_
       refine ih8 ⟨i+1,lv,av⟩ _ _ (by dsimp only;omega) ⟨rfl,rfl,rfl,rfl,rfl,rfl,rfl,trivial⟩ ⟨hlt8',hf9,hmb9,?_,?_,hml8,hma8,hap8,?_⟩
       ·dsimp only;rw [hsn8];exact hol9
       ·dsimp only;rw [hsn8];exact hoa9
       ·dsimp only;rw [hsn8];exact hla8
     ·have hi8':i=all.length:=by omega
      subst hi8'
      clear ih8
      have hltr:∀ i∈liveTo ps all all.length,i<all.length:=fun i hi=>by
       have:=(List.mem_filter.1 hi).1
       simpa using this
      have hlen8:(liveTo ps all all.length).length≤all.length:=filter_range_le _ _
      generalize hlive:liveTo ps all all.length=live at *
      generalize hal:alOf all live=al at *
      obtain ⟨adl,capl,hvl⟩:=hol8.rd.form
      subst hvl
      have hom8:=hom7.fr hf8 (fun k hk e=>by
       rcases hk with e' | e'
       ·omega
       ·have:=hrb4 k e';omega)
      have hll8:=hol8.lt
      have hoal8:=hoa8.lt
      have hx08:=hXh h8 hf8
      have hXl:∀ h',Fr (fun k=>k=h.size) h8 h'→Rd h' 1 (.slice adl live.length capl) live.length (ints live):=fun h' hf=>hol8.rd.fr hf (fun k hk e=>by have:=hml8 k hk;omega)
      have hXo:∀ h',Fr (fun k=>k=h.size) h8 h'→OM h' 129 4 all.length h2.size rbs on:=fun h' hf=>hom8.fr hf (fun k hk e=>by
       rcases hk with e' | e'
       ·omega
       ·have:=hrb4 k e';omega)
      refine zgo ?_
      refine Runs.loop (X:=DX) (fun x=>[(3,.pointer (some ⟨h.size,0,none⟩)),(6,.slice (some ⟨h2.size,0,none⟩) all.length all.length),(17,.slice adl live.length capl),(176,.slice adl live.length capl),(177,.int .i64 (live.length:Int)),(178,.int .i64 (x.a:Int))])
       (fun x h'=>x.a≤live.length∧Fr (fun k=>k=h.size) h8 h'∧Blk h' h.size [.pointer (some ⟨b,0,none⟩),av,x.dv,.slice none 0 0,.slice none 0 0] 131∧Own h' 129 1 x.dv x.a x.rvs∧RowsIn h8.size h' x.dv x.rvs (ldS on live (live.take x.a))∧(∀ k,x.dv.ownBlock=some k→h8.size≤k))
       (fun x=>live.length-x.a) ⟨0,.slice none 0 0,[]⟩ ⟨rfl,rfl,rfl,rfl,rfl,rfl,trivial⟩ ⟨Nat.zero_le _,Fr.refl _ _,hmb8,Own.nil _ _ _,⟨rfl,fun x rv row hx=>by simp at hx⟩,fun k hk=>by simp [Value.ownBlock] at hk⟩ ?_
      rintro ⟨a,dv,rvs⟩ h9 ⟨ha9,hf9,hmb9,hod9,hrw9,hmd9⟩ ih9
      dsimp only at ha9 hf9 hmb9 hod9 hrw9 hmd9 ih9 ⊢
      have hs89:=hf9.size
      refine zgo ?_
      refine Runs.cond_dec rfl (fun hlt9=>?_) (fun hge9=>?_)
      ·have hlt9':a<live.length:=by omega
       have hget9:live[a]? = some live[a]:=List.getElem?_eq_getElem hlt9'
       have hmem9:=hltr live[a] (List.getElem_mem hlt9')
       have hsn9:ldS on live (live.take (a+1))=ldS on live (live.take a)++[live.map fun j=>getB on live[a] j]:=by unfold ldS;rw [List.take_succ_eq_append_getElem hlt9',List.map_append];rfl
       generalize live[a]=i at *
       obtain ⟨b10,p10,cap10,hv10,_,c10⟩:=(hXl h9 hf9).cell (ints_get hget9)
       cases hv10
       refine zgo ?_
       refine Runs.loop (X:=IV) (fun y=>[(3,.pointer (some ⟨h.size,0,none⟩)),(6,.slice (some ⟨h2.size,0,none⟩) all.length all.length),(17,.slice (some ⟨b10,p10,none⟩) live.length capl),(176,.slice (some ⟨b10,p10,none⟩) live.length capl),(177,.int .i64 (live.length:Int)),(178,.int .i64 (a:Int)),(20,.int .i64 (i:Int)),(21,y.v),(182,.slice (some ⟨b10,p10,none⟩) live.length capl),(183,.int .i64 (live.length:Int)),(184,.int .i64 (y.i:Int))])
        (fun y h'=>y.i≤live.length∧Ext h9 h'∧Own h' 4 1 y.v y.i (bools ((live.take y.i).map fun j=>getB on i j))∧(∀ k,y.v.ownBlock=some k→h9.size≤k))
        (fun y=>live.length-y.i) ⟨0,.slice none 0 0⟩ ⟨rfl,rfl,rfl,rfl,rfl,rfl,rfl,rfl,rfl,rfl,rfl,trivial⟩ ⟨Nat.zero_le _,Fr.refl _ _,Own.nil _ _ _,fun k hk=>by simp [Value.ownBlock] at hk⟩ ?_
       rintro ⟨c,rv⟩ h10 ⟨hc10,hx10,hor10,hmr10⟩ ih10
       dsimp only at hc10 hx10 hor10 hmr10 ih10 ⊢
       have hs910:=hx10.size
       have hf10:Fr (fun k=>k=h.size) h8 h10:=hf9.trans (hx10.mono fun _ _ e=>e.elim)
       refine zgo ?_
       refine Runs.cond_dec rfl (fun hlt10=>?_) (fun hge10=>?_)
       ·have hlt10':c<live.length:=by omega
        have hget10:live[c]? = some live[c]:=List.getElem?_eq_getElem hlt10'
        have hmem10:=hltr live[c] (List.getElem_mem hlt10')
        have hsn10:(live.take (c+1)).map (fun j=>getB on i j)=(live.take c).map (fun j=>getB on i j)++[getB on i live[c]]:=by rw [List.take_succ_eq_append_getElem hlt10',List.map_append];rfl
        generalize live[c]=j at *
        obtain ⟨b11,p11,cap11,hv11,_,c11⟩:=(hXl h10 hf10).cell (ints_get hget10)
        cases hv11
        obtain ⟨rbi,ri,hrbi,hmi,hrli,ci,hbi,hgi⟩:=(hXo h10 hf10).get hmem9
        have dij:cellAt h10 rbi (0+j*1)=some (.bool (getB on i j)):=by rw [Nat.zero_add,Nat.mul_one];exact hbi.cell (hgi j hmem10)
        refine zgo ?_
        refine zh (one_bool _) hor10 ?_
        intro v11 h11 o1 o2 o3
        refine zgo ?_
        refine ih10 ⟨c+1,v11⟩ _ _ (by dsimp only;omega) ⟨rfl,rfl,rfl,rfl,rfl,rfl,rfl,rfl,rfl,rfl,rfl,trivial⟩ ⟨hlt10',hx10.trans_new (o2.mono fun k _ e=>.inr (hmr10 k e)),?_,?_⟩
        ·dsimp only;rw [hsn10];simpa [bools] using o1
        ·intro k hk
         rcases o3 k hk with e | e
         ·exact hmr10 k e
         ·omega
       ·have hcl10:c=live.length:=by omega
        subst hcl10
        rw [List.take_of_length_le (Nat.le_refl _)] at hor10
        obtain ⟨adr,capr,hvr⟩:=hor10.rd.form
        subst hvr
        have hmb10:=hmb9.ext hx10
        have hod10:=hod9.fr hx10 (by simp)
        have g2:cellAt h10 h.size (0+2)=some dv:=hmb10.cell (j:=2) rfl
        obtain ⟨add,capd,hvd⟩:=hod10.rd.form
        subst hvd
        refine zgo ?_
        refine zh (one_slice _ _ _) hod10 ?_
        intro v11 h11 o1 o2 o3
        have hmb11:=hmb10.fr o2 (fun e=>by have:=hmd9 _ e;omega)
        obtain ⟨ade,cape,hve⟩:=o1.rd.form
        subst hve
        refine zgo ?_
        refine zt (one_slice _ _ _) hmb11 fun h12 hb12 hx12 hs12=>?_
        refine zgo ?_
        have hs1011:=o2.size
        have hrw10:RowsIn h8.size h10 (.slice add a capd) rvs (ldS on live (live.take a)):=hrw9.fr hx10 (fun _ e=>e.elim) (Moved.refl _ _)
        have hrw10':=hrw10.snoc (row:=live.map fun j=>getB on i j) (rv:=.slice adr live.length capr) (by rw [List.length_map];exact hor10.rd) (fun k hk=>⟨by have:=hmr10 k hk;omega,hor10.lt k hk,fun e=>by have:=hod9.lt k e;have:=hmr10 k hk;omega⟩)
        have hrw11:=hrw10'.fr o2 (fun k e=>.inl e) o3
        have hrw12:=hrw11.fr hx12 (fun k e=>.inr (by omega)) (Moved.refl _ _)
        refine ih9 ⟨a+1,_,rvs++[.slice adr live.length capr]⟩ _ _ (by dsimp only;omega) ⟨rfl,rfl,rfl,rfl,rfl,rfl,trivial⟩ ⟨hlt9',?_,hb12,?_,?_,?_⟩
        ·exact (hf10.trans_new (o2.mono fun k _ e=>.inr (hmd9 k e))).trans hx12
        ·exact o1.fr hx12 (fun k hk e=>by
          rcases o3 k hk with e' | e'
          ·have:=hmd9 k e';omega
          ·omega)
        ·dsimp only;rw [hsn9];exact hrw12
        ·intro k hk
         rcases o3 k hk with e' | e'
         ·exact hmd9 k e'
         ·omega
      ·have ha9':a=live.length:=by omega
       subst ha9'
       rw [List.take_of_length_le (Nat.le_refl _)] at hrw9
       clear ih9
       have hox:∀ k,av.ownBlock=some k→h7.size≤k∧k<h8.size:=fun k hk=>⟨hma8 k hk,hoal8 k hk⟩
       obtain ⟨ada,capa,hva⟩:=hoa8.rd.form
       subst hva
       generalize hld:ldS on live live=ld at *
       have hlsz:al.length≤100000:=by omega
       have hsq:Square al.length ld:=by
        rw [← hld]
        refine ⟨by simp [ldS,hla8],fun r hr=>?_⟩
        unfold ldS at hr
        obtain ⟨i,_,e⟩:=List.mem_map.1 hr
        rw [← e];simp [hla8]
       have hllen:ld.length=live.length:=by rw [hsq.len];exact hla8.symm
       have hal9:∀ h',Fr (fun k=>k=h.size) h9 h'→Rd h' 7 (.slice ada al.length capa) al.length (linesC al):=fun h' hf=>(hoa8.rd.fr hf9 (fun k hk e=>by have:=hox k hk;omega)).fr hf (fun k hk e=>by have:=hox k hk;omega)
       have hmat9:∀ h',Fr (fun k=>k=h.size) h9 h'→Mat h' dv ld:=fun h' hf=>by
        refine ⟨rvs,?_,fun i row hi=>?_⟩
        ·rw [hllen];exact hod9.rd.fr hf (fun k hk e=>by have:=hmd9 k hk;omega)
        ·have hlt:i<rvs.length:=by rw [hrw9.1];exact (List.getElem?_eq_some_iff.1 hi).1
         have hg:rvs[i]? = some rvs[i]:=List.getElem?_eq_getElem hlt
         obtain ⟨e1,e2⟩:=hrw9.2 i _ row hg hi
         exact ⟨_,hg,e1.fr hf (fun k hk e=>by have:=e2 k hk;omega)⟩
       have hML:∀ h' fxv blv,Fr (fun k=>k=h.size) h9 h'→Cells h' h.size 0 [.pointer (some ⟨b,0,none⟩),.slice ada al.length capa,dv,fxv,blv]→ML h' h.size al ld:=fun h' fxv blv hf hc=>⟨_,_,_,fxv,blv,hc,hal9 h' hf,hmat9 h' hf,hsq⟩
       have gA:=hmb9.cell (j:=1) rfl
       refine zgo ?_
       refine Runs.loop (X:=IV) (fun x=>[(3,.pointer (some ⟨h.size,0,none⟩)),(215,.int .i64 (al.length:Int)),(216,.int .i64 (x.i:Int))])
        (fun x h'=>x.i≤al.length∧Fr (fun k=>k=h.size) h9 h'∧Blk h' h.size [.pointer (some ⟨b,0,none⟩),.slice ada al.length capa,dv,x.v,.slice none 0 0] 131∧Own h' 4 1 x.v x.i (bools ((List.range x.i).map (settledS al.length ld)))∧(∀ k,x.v.ownBlock=some k→h9.size≤k))
        (fun x=>al.length-x.i) ⟨0,.slice none 0 0⟩ ⟨rfl,rfl,rfl,trivial⟩ ⟨Nat.zero_le _,Fr.refl _ _,hmb9,Own.nil _ _ _,fun k hk=>by simp [Value.ownBlock] at hk⟩ ?_
       rintro ⟨i,v11⟩ h11 ⟨hi11,hf11,hmb11,hov11,hmv11⟩ ih11
       dsimp only at hi11 hf11 hmb11 hov11 hmv11 ih11 ⊢
       have hs911:=hf11.size
       refine zgo ?_
       refine Runs.cond_dec rfl (fun hlt11=>?_) (fun hge11=>?_)
       ·have hlt11':i<al.length:=by omega
        have hsn11:(List.range (i+1)).map (settledS al.length ld)=(List.range i).map (settledS al.length ld)++[settledS al.length ld i]:=by rw [List.range_succ,List.map_append];rfl
        have hml11:=hML h11 _ _ hf11 hmb11.cells
        obtain ⟨ad11,cap11,hv11⟩:=hov11.rd.form
        subst hv11
        have hS0:cellAt h11 h.size (0+3)=some (.slice ad11 i cap11):=hmb11.cell (j:=3) rfl
        have hSS:∀ h',Fr (fun k=>Value.ownBlock (.slice ad11 i cap11)=some k) h11 h'→cellAt h' h.size (0+3)=some (.slice ad11 i cap11):=fun h' hf=>hf.cell (fun e=>by have:=hmv11 _ e;omega) hS0
        refine zgo ?_
        refine Runs.drawn (m:=13) (fun h'=>cellAt h' h.size (0+3)=some (.slice ad11 i cap11)) (fun i=>Nat.beq i 12) mixed rfl ?_
        refine zp 0 hS0 ?_
        refine zp 1 hS0 ?_
        refine zp 2 hS0 ?_
        refine zp 3 hS0 ?_
        refine zl 4 (fun _ hS=>hS) hS0 ?_
        refine zp 5 hS0 ?_
        refine zp 6 hS0 ?_
        refine WF.call 7 (by kernel_rfl) rfl rfl rfl rfl rfl plain109 rfl (settled_ret h.size i al ld h11 hml11 hlt11' (by omega)) fun v12 h12 ⟨hh12,hv12⟩=>⟨.inr (by rw [hh12];exact hS0),?_⟩
        subst hh12 hv12
        refine WF.push 8 9 tab_ok (by kernel_rfl) (by kernel_rfl) rfl rfl rfl rfl rfl rfl rfl rfl rfl rfl rfl rfl rfl rfl rfl rfl rfl rfl rfl (by simp) (one_bool _) hov11 (by omega) hSS ?_
        intro v13 h13 o4 o5 o6
        have hS13:=hSS _ o5
        refine zx 10 hS13 ?_
        refine zx 11 hS13 ?_
        have hmb13:=hmb11.fr o5 (fun e=>by have:=hmv11 _ e;omega)
        obtain ⟨ad13,cap13,hv13⟩:=o4.rd.form
        subst hv13
        refine WF.put 12 tab_ok (by kernel_rfl) rfl rfl rfl rfl rfl rfl rfl rfl rfl (one_slice _ _ _) hmb13 rfl rfl fun h14 hb14 hx14 hs14=>?_
        refine zd ?_
        refine zgo ?_
        have hs1113:=o5.size
        refine ih11 ⟨i+1,_⟩ _ _ (by dsimp only;omega) ⟨rfl,rfl,rfl,trivial⟩ ⟨hlt11',(hf11.trans_new (o5.mono fun k _ e=>.inr (hmv11 k e))).trans hx14,hb14,?_,?_⟩
        ·dsimp only;rw [hsn11]
         have:=o4.fr hx14 (fun k hk e=>by
          rcases o6 k hk with e' | e'
          ·have:=hmv11 k e';omega
          ·omega)
         simpa [bools] using this
        ·intro k hk
         rcases o6 k hk with e' | e'
         ·exact hmv11 k e'
         ·omega
       ·have hi11':i=al.length:=by omega
        subst hi11'
        generalize hfx:(List.range al.length).map (settledS al.length ld)=fx at *
        have hfxl:fx.length=al.length:=by rw [← hfx];simp
        have hov11l:=hov11.lt
        obtain ⟨adf,capf,hvf⟩:=hov11.rd.form
        subst hvf
        have hbase:Fr (fun k=>k=h.size) h9 h11:=hf11
        have hfx11:∀ h',Fr (fun k=>k=h.size) h11 h'→Rd h' 1 (.slice adf al.length capf) al.length (bools fx):=fun h' hf=>hov11.rd.fr hf (fun k hk e=>by have:=hmv11 k hk;omega)
        have hmb':=hmb11
        have gA:=hmb11.cell (j:=1) rfl
        have hs11:=hf11.size
        clear ih11 hmb9
        generalize h11=hB at *
        refine zgo ?_
        refine Runs.loop (X:=IV) (fun x=>[(3,.pointer (some ⟨h.size,0,none⟩)),(236,.int .i64 (al.length:Int)),(237,.int .i64 (x.i:Int))])
         (fun x h'=>x.i≤al.length∧Fr (fun k=>k=h.size) hB h'∧Blk h' h.size [.pointer (some ⟨b,0,none⟩),.slice ada al.length capa,dv,.slice adf al.length capf,x.v] 131∧Own h' 3 1 x.v x.i (intsI ((List.range x.i).map (blockS al.length ld fx)))∧(∀ k,x.v.ownBlock=some k→hB.size≤k))
         (fun x=>al.length-x.i) ⟨0,.slice none 0 0⟩ ⟨rfl,rfl,rfl,trivial⟩ ⟨Nat.zero_le _,Fr.refl _ _,hmb',Own.nil _ _ _,fun k hk=>by simp [Value.ownBlock] at hk⟩ ?_
        rintro ⟨i,v11⟩ h11 ⟨hi11,hf11,hmb11,hov11,hmv11⟩ ih11
        dsimp only at hi11 hf11 hmb11 hov11 hmv11 ih11 ⊢
        have hsB11:=hf11.size
        have hmlx:=hML h11 _ _ (hbase.trans hf11) hmb11.cells
        refine zgo ?_
        refine Runs.cond_dec rfl (fun hlt11=>?_) (fun hge11=>?_)
        ·have hlt11':i<al.length:=by omega
         have hsn11:(List.range (i+1)).map (blockS al.length ld fx)=(List.range i).map (blockS al.length ld fx)++[blockS al.length ld fx i]:=by rw [List.range_succ,List.map_append];rfl
         have hml11:=hmlx
         have hmf11:MF h11 h.size fx:=⟨_,hmb11.cell (j:=3) rfl,by rw [hfxl];exact hfx11 h11 hf11⟩
         obtain ⟨ad11,cap11,hv11⟩:=hov11.rd.form
         subst hv11
         have hS0:cellAt h11 h.size (0+4)=some (.slice ad11 i cap11):=hmb11.cell (j:=4) rfl
         have hSS:∀ h',Fr (fun k=>Value.ownBlock (.slice ad11 i cap11)=some k) h11 h'→cellAt h' h.size (0+4)=some (.slice ad11 i cap11):=fun h' hf=>hf.cell (fun e=>by have:=hmv11 _ e;omega) hS0
         refine zgo ?_
         refine Runs.drawn (m:=13) (fun h'=>cellAt h' h.size (0+4)=some (.slice ad11 i cap11)) (fun i=>Nat.beq i 12) mixed rfl ?_
         refine zp 0 hS0 ?_
         refine zp 1 hS0 ?_
         refine zp 2 hS0 ?_
         refine zp 3 hS0 ?_
         refine zl 4 (fun _ hS=>hS) hS0 ?_
         refine zp 5 hS0 ?_
         refine zp 6 hS0 ?_
         refine WF.call 7 (by kernel_rfl) rfl rfl rfl rfl rfl plain110 rfl (block_ret h.size i al ld fx h11 hml11 hmf11 hfxl hlt11' (by omega)) fun v12 h12 ⟨hh12,hv12⟩=>⟨.inr (by rw [hh12];exact hS0),?_⟩
         subst hh12 hv12
         refine WF.push 8 9 tab_ok (by kernel_rfl) (by kernel_rfl) rfl rfl rfl rfl rfl rfl rfl rfl rfl rfl rfl rfl rfl rfl rfl rfl rfl rfl rfl (by simp) (one_int _) hov11 (by omega) hSS ?_
         intro v13 h13 o4 o5 o6
         have hS13:=hSS _ o5
         refine zx 10 hS13 ?_
         refine zx 11 hS13 ?_
         have hmb13:=hmb11.fr o5 (fun e=>by have:=hmv11 _ e;omega)
         obtain ⟨ad13,cap13,hv13⟩:=o4.rd.form
         subst hv13
         refine WF.put 12 tab_ok (by kernel_rfl) rfl rfl rfl rfl rfl rfl rfl rfl rfl (one_slice _ _ _) hmb13 rfl rfl fun h14 hb14 hx14 hs14=>?_
         refine zd ?_
         refine zgo ?_
         have hs1113:=o5.size
         refine ih11 ⟨i+1,_⟩ _ _ (by dsimp only;omega) ⟨rfl,rfl,rfl,trivial⟩ ⟨hlt11',(hf11.trans_new (o5.mono fun k _ e=>.inr (hmv11 k e))).trans hx14,hb14,?_,?_⟩
         ·dsimp only;rw [hsn11]
          have:=o4.fr hx14 (fun k hk e=>by
           rcases o6 k hk with e' | e'
           ·have:=hmv11 k e';omega
           ·omega)
          simpa [intsI] using this
         ·intro k hk
          rcases o6 k hk with e' | e'
          ·exact hmv11 k e'
          ·omega
        ·have hi11':i=al.length:=by omega
         subst hi11'
         refine zgo ?_
         refine Runs.ret func78 (ret1 results78 rfl) ⟨?_,h.size,rfl,?_⟩
         ·exact hx08.trans_new (((hf9.trans hbase).trans hf11).mono fun k _ e=>.inr (by omega))
         ·have hfx':fxS al.length ld=fx:=hfx
          rw [hfx']
          have hbll:(blS al.length ld fx).length=al.length:=by simp [blS]
          exact ⟨⟨_,_,_,_,hmb11.cells,hal9 h11 (hbase.trans hf11),hmat9 h11 (hbase.trans hf11),by rw [hfxl];exact hfx11 h11 hf11,by rw [hbll];exact hov11.rd⟩,hsq,hfxl,hbll⟩
end Go.Proofs.YtlaffgagmncgjaaGreatDoor
