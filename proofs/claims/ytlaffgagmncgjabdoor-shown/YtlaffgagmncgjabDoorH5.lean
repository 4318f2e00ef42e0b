import Derived.Test.YtlaffgagmncgjabDoorH3
set_option maxRecDepth 20000
set_option maxHeartbeats 6400000
namespace Go.Proofs.YtlaffgagmncgjabDoor
open Go Go.Pat Go.Proofs
theorem hinOrder_ret {A:List SL} {T M:List (List UInt8)} (hp:Put A T M) (hA:A.length≤1000) (hT:T.length≤1000) (av tv mv:Value) (h:Heap) (ha:Rd h 4 av A.length (slC A)) (htv:Rd h 1 tv T.length (strs T)) (hmv:Rd h 1 mv M.length (strs M)) :
  Ret Tryd.prog 34 #[av,tv,mv] h fun v h'=>Ext h h'∧v = .bool true:=by
 refine Ret.of_body Tryd.func34 rfl Tryd.ntmps34 rfl rfl ?_
 obtain ⟨aa,ca,ea⟩:=ha.form
 obtain ⟨at',ct,et⟩:=htv.form
 obtain ⟨am,cm,em⟩:=hmv.form
 subst ea et em
 refine zgo ?_
 refine Runs.loop (X:=Nat) (fun i=>[(0,.slice aa A.length ca),(1,.slice at' T.length ct),(2,.slice am M.length cm),(14,.slice aa A.length ca),(15,.int .i64 (A.length:Int)),(16,.int .i64 (i:Int))])
  (fun i h'=>i≤A.length∧Ext h h') (fun i=>A.length-i) 0 ⟨rfl,rfl,rfl,rfl,rfl,rfl,trivial⟩ ⟨Nat.zero_le _,Fr.refl _ _⟩ ?_
 rintro i h1 ⟨hi,hx1⟩ ih
 refine zgo ?_
 refine Runs.cond_dec rfl (fun hlt=>?_) (fun hge=>?_)
 rotate_left
 ·refine zgo ?_
  exact Runs.ret Tryd.func34 (ret1 Tryd.results34 rfl) ⟨hx1,rfl⟩
 have hlt':i<A.length:=by omega
 have hgl:A[i]? = some A[i]:=List.getElem?_eq_getElem hlt'
 have hlm:A[i]∈A:=List.getElem_mem hlt'
 generalize A[i]=l at *
 obtain ⟨b0,p0,cap0,hv0,_,hcs⟩:=(ha.ext hx1).pos (by omega)
 cases hv0
 have hc:Cells h1 b0 (p0+i*4) l.cells:=flat_get SL.len hcs hgl
 refine zgo ?_
 refine zv l.one fun h2 hb2 hx2 hs2=>?_
 have hx02:=hx1.trans hx2
 have l3:=hb2.cell (j:=3) rfl
 clear hcs hc
 refine zgo ?_
 refine WO.call rfl rfl rfl rfl plain_hamong rfl (hamong_ret T l.tx _ _ (by omega) (htv.ext hx02)) fun v3 h3 ⟨hh3,z3,hz3,hv3⟩=>?_
 subst hh3 hv3
 obtain ⟨k,hk,rfl⟩:∃ k:Nat,T[k]? = some l.tx∧z3=(k:Int):=by
  rcases hz3 with ⟨k,e1,_,e2⟩ | ⟨e1,_⟩
  ·exact ⟨k,e1,e2⟩
  ·obtain ⟨k,e⟩:=hp.at_ l hlm
   exact absurd (List.mem_of_getElem? e) e1
 clear hz3
 have hkT:=(List.getElem?_eq_some_iff.1 hk).1
 refine zgo ?_
 refine Runs.loop (X:=Nat) (fun j=>[(0,.slice (some ⟨b0,p0,none⟩) A.length ca),(1,.slice at' T.length ct),(2,.slice am M.length cm),(8,.pointer (some ⟨h1.size,0,none⟩)),(9,.int .i64 (k:Int)),(14,.slice (some ⟨b0,p0,none⟩) A.length ca),(15,.int .i64 (A.length:Int)),(16,.int .i64 (i:Int)),(24,.slice (some ⟨b0,p0,none⟩) A.length ca),(25,.int .i64 (A.length:Int)),(26,.int .i64 (j:Int))])
  (fun j h'=>j≤A.length∧Ext h3 h') (fun j=>A.length-j) 0 ⟨rfl,rfl,rfl,rfl,rfl,rfl,rfl,rfl,rfl,rfl,rfl,trivial⟩ ⟨Nat.zero_le _,Fr.refl _ _⟩ ?_
 rintro j h4 ⟨hj,hx4⟩ ih2
 have hx04:=hx02.trans hx4
 refine zgo ?_
 refine Runs.cond_dec rfl (fun hlt2=>?_) (fun hge2=>?_)
 rotate_left
 ·refine zgo ?_
  exact ih (i+1) _ _ (by omega) ⟨rfl,rfl,rfl,rfl,rfl,rfl,trivial⟩ ⟨by omega,hx04⟩
 clear ih
 have hlt2':j<A.length:=by omega
 have hgx:A[j]? = some A[j]:=List.getElem?_eq_getElem hlt2'
 have hxm:A[j]∈A:=List.getElem_mem hlt2'
 generalize A[j]=x at *
 obtain ⟨b1,p1,cap1,hv1,_,hcs⟩:=(ha.ext hx04).pos (by omega)
 cases hv1
 have hc:Cells h4 b0 (p0+j*4) x.cells:=flat_get SL.len hcs hgx
 refine zgo ?_
 refine zv x.one fun h5 hb5 hx5 hs5=>?_
 have hx05:=hx04.trans hx5
 have x0:=hb5.cell (j:=0) rfl
 have x3:=hb5.cell (j:=3) rfl
 have hb25:=hb2.ext (hx4.trans hx5)
 have l1:=hb25.cell (j:=1) rfl
 have l2:=hb25.cell (j:=2) rfl
 clear hcs hc l3
 refine zgo ?_
 refine WO.call rfl rfl rfl rfl plain_hamong rfl (hamong_ret T x.tx _ _ (by omega) (htv.ext hx05)) fun v6 h6 ⟨hh6,z6,hz6,hv6⟩=>?_
 subst hh6 hv6
 obtain ⟨m,hm,rfl⟩:∃ k:Nat,T[k]? = some x.tx∧z6=(k:Int):=by
  rcases hz6 with ⟨k,e1,_,e2⟩ | ⟨e1,_⟩
  ·exact ⟨k,e1,e2⟩
  ·obtain ⟨k,e⟩:=hp.at_ x hxm
   exact absurd (List.mem_of_getElem? e) e1
 clear hz6
 have hmT:=(List.getElem?_eq_some_iff.1 hm).1
 obtain ⟨mk,mj,hmk,hmj,hor⟩:=hp.ok l hlm x hxm k m hk hm
 obtain ⟨b2,p2,cap2,hv2,_,hcj⟩:=(hmv.ext hx05).cell (strs_get hmj)
 cases hv2
 obtain ⟨b3,p3,cap3,hv3,_,hck⟩:=(hmv.ext hx05).cell (strs_get hmk)
 cases hv3
 have hkM:=(List.getElem?_eq_some_iff.1 hmk).1
 have hmM:=(List.getElem?_eq_some_iff.1 hmj).1
 refine zgo ?_
 refine WO.join (fun env' h'=>h6=h'∧∃ f:Bool,Sub [(0,.slice (some ⟨b0,p0,none⟩) A.length ca),(1,.slice at' T.length ct),(2,.slice (some ⟨b2,p2,none⟩) M.length cm),(8,.pointer (some ⟨h1.size,0,none⟩)),(9,.int .i64 (k:Int)),(11,.pointer (some ⟨h4.size,0,none⟩)),(12,.int .i64 (m:Int)),(13,.bool f),(14,.slice (some ⟨b0,p0,none⟩) A.length ca),(15,.int .i64 (A.length:Int)),(16,.int .i64 (i:Int)),(24,.slice (some ⟨b0,p0,none⟩) A.length ca),(25,.int .i64 (A.length:Int)),(26,.int .i64 (j:Int))] env'∧(((mj=[64]∨mj=[33])∧(mk=[64]∨mk=[33]))→f=true)) ?_ ?_
 ·refine WO.split 39 _ rfl (fun q1=>?_) (fun q1=>?_)
  ·refine zgo ?_
   refine WO.split 52 _ rfl (fun q2=>?_) (fun q2=>?_)
   ·refine zgo ?_
    exact ⟨rfl,_,⟨rfl,rfl,rfl,rfl,rfl,rfl,rfl,rfl,rfl,rfl,rfl,rfl,rfl,rfl,trivial⟩,fun _=>rfl⟩
   ·have q2:=of_decide_eq_false q2
    refine zgo ?_
    exact ⟨rfl,_,⟨rfl,rfl,rfl,rfl,rfl,rfl,rfl,rfl,rfl,rfl,rfl,rfl,rfl,rfl,trivial⟩,fun e=>by rw [decide_eq_true_iff];exact e.2.resolve_left q2⟩
  ·have q1:=of_decide_eq_false q1
   refine zgo ?_
   refine WO.split 46 _ rfl (fun q3=>?_) (fun q3=>?_)
   ·refine zgo ?_
    refine WO.split 52 _ rfl (fun q2=>?_) (fun q2=>?_)
    ·refine zgo ?_
     exact ⟨rfl,_,⟨rfl,rfl,rfl,rfl,rfl,rfl,rfl,rfl,rfl,rfl,rfl,rfl,rfl,rfl,trivial⟩,fun _=>rfl⟩
    ·have q2:=of_decide_eq_false q2
     refine zgo ?_
     exact ⟨rfl,_,⟨rfl,rfl,rfl,rfl,rfl,rfl,rfl,rfl,rfl,rfl,rfl,rfl,rfl,rfl,trivial⟩,fun e=>by rw [decide_eq_true_iff];exact e.2.resolve_left q2⟩
   ·have q3:=of_decide_eq_false q3
    refine zgo ?_
    exact ⟨rfl,_,⟨rfl,rfl,rfl,rfl,rfl,rfl,rfl,rfl,rfl,rfl,rfl,rfl,rfl,rfl,trivial⟩,fun e=>absurd (e.1.resolve_left q1) q3⟩
 rintro env' _ ⟨rfl,f,hsub,hf⟩
 refine Runs.sub hsub ?_
 clear hsub env' hcj hck
 have hf1:l.up=x.nm→k<m→f=true:=fun e1 e2=>by
  rcases hor with e | ⟨e,_⟩
  ·exact hf e
  ·have:=e e1;omega
 have hf2:l.dn=x.nm→m<k→f=true:=fun e1 e2=>by
  rcases hor with e | ⟨_,e⟩
  ·exact hf e
  ·have:=e e1;omega
 clear hor hf x3
 refine zgo ?_
 refine WO.join (fun env' h'=>h6=h'∧Sub [(0,.slice (some ⟨b0,p0,none⟩) A.length ca),(1,.slice at' T.length ct),(2,.slice (some ⟨b2,p2,none⟩) M.length cm),(8,.pointer (some ⟨h1.size,0,none⟩)),(9,.int .i64 (k:Int)),(14,.slice (some ⟨b0,p0,none⟩) A.length ca),(15,.int .i64 (A.length:Int)),(16,.int .i64 (i:Int)),(24,.slice (some ⟨b0,p0,none⟩) A.length ca),(25,.int .i64 (A.length:Int)),(26,.int .i64 (j:Int)),(89,.bool false)] env') ?_ ?_
 ·refine WO.split 65 _ rfl (fun q1=>?_) (fun q1=>?_)
  ·have q1:=of_decide_eq_true q1
   refine zgo ?_
   refine WO.split 70 _ rfl (fun q2=>?_) (fun q2=>?_)
   ·have q2:=of_decide_eq_true q2
    have hft:=hf1 q1 (by omega)
    subst hft
    refine zgo ?_
    refine WO.split 80 _ rfl (fun q3=>?_) (fun q3=>?_)
    ·refine zgo ?_
     refine WO.split 85 _ rfl (fun q4=>?_) (fun q4=>?_)
     ·refine zgo ?_
      exact ⟨rfl,rfl,rfl,rfl,rfl,rfl,rfl,rfl,rfl,rfl,rfl,rfl,rfl,trivial⟩
     ·refine zgo ?_
      exact ⟨rfl,rfl,rfl,rfl,rfl,rfl,rfl,rfl,rfl,rfl,rfl,rfl,rfl,trivial⟩
    ·refine zgo ?_
     exact ⟨rfl,rfl,rfl,rfl,rfl,rfl,rfl,rfl,rfl,rfl,rfl,rfl,rfl,trivial⟩
   ·refine zgo ?_
    refine WO.split 80 _ rfl (fun q3=>?_) (fun q3=>?_)
    ·have q3:=of_decide_eq_true q3
     refine zgo ?_
     refine WO.split 85 _ rfl (fun q4=>?_) (fun q4=>?_)
     ·have q4:=of_decide_eq_true q4
      have hft:=hf2 q3 (by omega)
      subst hft
      refine zgo ?_
      exact ⟨rfl,rfl,rfl,rfl,rfl,rfl,rfl,rfl,rfl,rfl,rfl,rfl,rfl,trivial⟩
     ·refine zgo ?_
      exact ⟨rfl,rfl,rfl,rfl,rfl,rfl,rfl,rfl,rfl,rfl,rfl,rfl,rfl,trivial⟩
    ·refine zgo ?_
     exact ⟨rfl,rfl,rfl,rfl,rfl,rfl,rfl,rfl,rfl,rfl,rfl,rfl,rfl,trivial⟩
  ·refine zgo ?_
   refine WO.split 80 _ rfl (fun q3=>?_) (fun q3=>?_)
   ·have q3:=of_decide_eq_true q3
    refine zgo ?_
    refine WO.split 85 _ rfl (fun q4=>?_) (fun q4=>?_)
    ·have q4:=of_decide_eq_true q4
     have hft:=hf2 q3 (by omega)
     subst hft
     refine zgo ?_
     exact ⟨rfl,rfl,rfl,rfl,rfl,rfl,rfl,rfl,rfl,rfl,rfl,rfl,rfl,trivial⟩
    ·refine zgo ?_
     exact ⟨rfl,rfl,rfl,rfl,rfl,rfl,rfl,rfl,rfl,rfl,rfl,rfl,rfl,trivial⟩
   ·refine zgo ?_
    exact ⟨rfl,rfl,rfl,rfl,rfl,rfl,rfl,rfl,rfl,rfl,rfl,rfl,rfl,trivial⟩
 rintro env' _ ⟨rfl,hsub⟩
 refine Runs.sub hsub ?_
 clear hsub env'
 refine zgo ?_
 exact ih2 (j+1) _ _ (by omega) ⟨rfl,rfl,rfl,rfl,rfl,rfl,rfl,rfl,rfl,rfl,rfl,trivial⟩ ⟨by omega,hx4.trans hx5⟩
end Go.Proofs.YtlaffgagmncgjabDoor
