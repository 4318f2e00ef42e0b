import Derived.Test.YtlaffgagmncgjabDoorH4
import Derived.Test.YtlaffgagmncgjabDoorH5
set_option maxRecDepth 20000
set_option maxHeartbeats 12800000
namespace Go.Proofs.YtlaffgagmncgjabDoor
open Go Go.Pat Go.Proofs
theorem blank_same {ps:List PatchD} {sd sd2:Nat→Int} {orx orx2:Nat→Bool} (h:NumX ps sd orx) (h2:NumX ps sd2 orx2):blankX ps orx2 (ordX ps sd2)=blankX ps orx (ordX ps sd):=by
 have ho:∀ k,k<nX ps→orx2 k=orx k:=fun k hk=>by rw [Bool.eq_iff_iff,h.orp k hk,h2.orp k hk]
 have hm:∀ k,k<nX ps→markX ps orx2 k=markX ps orx k:=fun k hk=>by unfold markX;rw [ho k hk]
 rw [Bool.eq_iff_iff]
 unfold blankX
 rw [List.all_eq_true,List.all_eq_true]
 constructor
 ·intro H k hk
  have hk':=ordX_iff.1 hk
  rw [← hm k hk'.1]
  exact H k (ordX_iff.2 hk')
 ·intro H k hk
  have hk':=ordX_iff.1 hk
  rw [hm k hk'.1]
  exact H k (ordX_iff.2 hk')
def plN (l:List (List UInt8)):Bool:=l.all fun x=>decide (x=[32])
theorem plN_blank {ps:List PatchD} {sd:Nat→Int} {orx:Nat→Bool}:blankX ps orx (ordX ps sd)=plN (mkN ps sd orx):=by
 rw [blank_iff,Bool.eq_iff_iff,decide_eq_true_iff]
 unfold plN
 rw [List.all_eq_true]
 exact ⟨fun h x hx=>decide_eq_true (h x hx),fun h x hx=>of_decide_eq_true (h x hx)⟩
theorem dead_len {ps:List PatchD} (hinv:Inv ps):(deadN ps).length≤1000:=by
 have one:∀ q∈ps,(delsOf q.changes).length≤30:=fun q hq=>Nat.le_trans dels_len (hinv.ok hq).len
 have tot:∀ l:List PatchD,(∀ q∈l,(delsOf q.changes).length≤30)→(deadN l).length≤30*l.length:=by
  intro l
  induction l with
  | nil=>intro _;simp [deadN]
  | cons q l ih =>
   intro hq
   have h1:=ih fun x hx=>hq x (List.mem_cons_of_mem _ hx)
   have h2:=hq q (by simp)
   simp only [deadN,List.flatMap_cons,List.length_append,List.length_cons] at h1 ⊢
   omega
 have h1:=tot ps one
 have:=hinv.len
 omega
def AlJ (h:Heap) (A:List SL) (v:Value) (h':Heap):Prop:=Ext h h'∧Own h' 55 4 v A.length (slC A)∧∀ q,v.ownBlock=some q→h.size≤q
theorem AlJ.push {h h1 h2:Heap} {A:List SL} {x:SL} {v1 v2:Value} (w:AlJ h A v1 h1) (o:Own h2 55 4 v2 (A.length+1) (slC A++x.cells)) (f:Fr (fun q=>v1.ownBlock=some q) h1 h2) (nw:Moved h1 v1 v2):AlJ h (A++[x]) v2 h2:=by
 obtain ⟨w1,w2,w3⟩:=w
 refine ⟨w1.trans_new (f.mono fun q _ e=>.inr (w3 q e)),?_,fun q hq=>?_⟩
 ·rw [slC_append,slC_one,List.length_append];exact o
 ·have:=w1.size
  rcases nw q hq with e | e
  ·exact w3 q e
  ·omega
theorem AlJ.on {h h1 h2:Heap} {A:List SL} {v:Value} (w:AlJ h A v h1) (x:Ext h1 h2):AlJ h A v h2:=⟨w.1.trans x,w.2.1.fr x (by simp),w.2.2⟩
structure TmJ (h0 h':Heap) (T M:List (List UInt8)) (tv mv:Value):Prop where
 ext:Ext h0 h'
 t:Own h' 9 1 tv T.length (strs T)
 m:Own h' 9 1 mv M.length (strs M)
 tn:∀ q,tv.ownBlock=some q→h0.size≤q
 mn:∀ q,mv.ownBlock=some q→h0.size≤q
 ne:∀ q,tv.ownBlock=some q→mv.ownBlock=some q→False
theorem TmJ.pushT {h0 h1 h2:Heap} {T M:List (List UInt8)} {tv mv tv':Value} {x:List UInt8} (w:TmJ h0 h1 T M tv mv) (o:Own h2 9 1 tv' (T.length+1) (strs T++[.string (str x)])) (f:Fr (fun q=>tv.ownBlock=some q) h1 h2) (nw:Moved h1 tv tv'):TmJ h0 h2 (T++[x]) M tv' mv:=by
 have hz:=w.ext.size
 refine ⟨w.ext.trans_new (f.mono fun q _ e=>.inr (w.tn q e)),?_,w.m.fr f fun q hq e=>w.ne q e hq,fun q hq=>?_,w.mn,fun q hq hq'=>?_⟩
 ·rw [strs_append,List.length_append];exact o
 ·rcases nw q hq with e | e
  ·exact w.tn q e
  ·omega
 ·rcases nw q hq with e | e
  ·exact w.ne q e hq'
  ·have:=w.m.lt q hq';omega
theorem TmJ.pushM {h0 h1 h2:Heap} {T M:List (List UInt8)} {tv mv mv':Value} {x:List UInt8} (w:TmJ h0 h1 T M tv mv) (o:Own h2 9 1 mv' (M.length+1) (strs M++[.string (str x)])) (f:Fr (fun q=>mv.ownBlock=some q) h1 h2) (nw:Moved h1 mv mv'):TmJ h0 h2 T (M++[x]) tv mv':=by
 have hz:=w.ext.size
 refine ⟨w.ext.trans_new (f.mono fun q _ e=>.inr (w.mn q e)),w.t.fr f fun q hq e=>w.ne q hq e,?_,w.tn,fun q hq=>?_,fun q hq hq'=>?_⟩
 ·rw [strs_append,List.length_append];exact o
 ·rcases nw q hq with e | e
  ·exact w.mn q e
  ·omega
 ·rcases nw q hq' with e | e
  ·exact w.ne q hq e
  ·have:=w.t.lt q hq;omega
structure AlX where
 (i:Nat) (v:Value)
structure LpX where
 (k:Nat) (tv mv:Value) (s:LSt)
structure UsX where
 (i:Nat) (tw:Bool) (us:List Bool) (U:List Nat)
structure UtX where
 (k:Nat) (tw:Bool) (z:Int)
structure TwX where
 (i:Nat) (tw:Bool)
theorem hnothing_ret {F:Nat→Prop} {a:Nat} {ps:List PatchD} {h:Heap} (ht:Tab10 h) (hs:Sto F h a ps) (hF:∀ k,F k→k<h.size) :
  Ret Tryd.prog 15 #[.pointer (some ⟨a,0,none⟩)] h fun v h'=>Ext h h'∧v = .bool true:=by
 refine Ret.of_body Tryd.func15 rfl Tryd.ntmps15 rfl rfl ?_
 have hinv:=hs.set.inv
 have hnl:=hinv.lines
 have hdl:=dead_len hinv
 refine zgo ?_
 refine WO.call rfl rfl rfl rfl plain_hsaid rfl (hsaid_ret ht hs) fun v1 h1 ⟨lv,dv,hv1,w1⟩=>?_
 subst hv1
 have hx1:=w1.ext
 have hls:=w1.l.rd
 have hds:=w1.d.rd
 have hAe:aliveN ps=((linesS ps).map slOf).filter fun l=>!decide (l.nm∈deadN ps):=rfl
 have hll:((linesS ps).map slOf).length≤90:=by simpa using hnl
 generalize (linesS ps).map slOf=L at *
 generalize deadN ps=D at *
 obtain ⟨al,cl,el⟩:=hls.form
 obtain ⟨ad,cd,ed⟩:=hds.form
 subst el ed
 clear w1
 refine zgo ?_
 refine Runs.loop (X:=AlX) (fun u=>[(0,.pointer (some ⟨a,0,none⟩)),(4,.slice ad D.length cd),(5,u.v),(30,.slice al L.length cl),(31,.int .i64 (L.length:Int)),(32,.int .i64 (u.i:Int))])
  (fun u h'=>u.i≤L.length∧AlJ h1 ((L.take u.i).filter fun l=>!decide (l.nm∈D)) u.v h') (fun u=>L.length-u.i) ⟨0,.slice none 0 0⟩ ⟨rfl,rfl,rfl,rfl,rfl,rfl,trivial⟩ ⟨Nat.zero_le _,Fr.refl _ _,Own.nil _ _ _,fun q hq=>by simp [Value.ownBlock] at hq⟩ ?_
 rintro ⟨i,v⟩ h2 ⟨hi,w2⟩ ih
 dsimp only at hi w2 ih ⊢
 have hfl:((L.take i).filter fun l=>!decide (l.nm∈D)).length≤90:=by
  have h1:=List.length_filter_le (fun l:SL=>!decide (l.nm∈D)) (L.take i)
  rw [List.length_take] at h1
  omega
 refine zgo ?_
 refine Runs.cond_dec rfl (fun hlt=>?_) (fun hge=>?_)
 ·have hlt':i<L.length:=by omega
  have hgl:L[i]? = some L[i]:=List.getElem?_eq_getElem hlt'
  have hsn:L.take (i+1)=L.take i++[L[i]]:=List.take_succ_eq_append_getElem hlt'
  generalize L[i]=l at *
  obtain ⟨b0,p0,cap0,hv0,_,hcs⟩:=(hls.ext w2.1).pos (by omega)
  cases hv0
  have hc:Cells h2 b0 (p0+i*4) l.cells:=flat_get SL.len hcs hgl
  refine zgo ?_
  refine zv l.one fun h3 hb3 hx3 hs3=>?_
  have w3:=w2.on hx3
  have l0:=hb3.cell (j:=0) rfl
  clear hcs hc
  refine zgo ?_
  refine WO.call rfl rfl rfl rfl plain_hamong rfl (hamong_ret D l.nm _ _ (by omega) (hds.ext w3.1)) fun v4 h4 ⟨hh4,z4,hz4,hv4⟩=>?_
  subst hh4 hv4
  rcases hz4 with ⟨k,e1,_,rfl⟩ | ⟨e1,rfl⟩
  ·refine zgo ?_
   refine ih ⟨i+1,v⟩ _ _ (by dsimp only;omega) ⟨rfl,rfl,rfl,rfl,rfl,rfl,trivial⟩ ⟨by dsimp only;omega,?_⟩
   dsimp only
   have hm:l.nm∈D:=List.mem_of_getElem? e1
   rw [hsn,List.filter_append]
   simp only [List.filter_cons,hm,decide_true,Bool.not_true,Bool.false_eq_true,if_false,List.filter_nil,List.append_nil]
   exact w3
  ·have hc3:Cells h4 h2.size 0 l.cells:=hb3.cells
   refine zgo ?_
   refine zh l.one w3.2.1 ?_
   intro v5 h5 r1 r2 r3
   refine zgo ?_
   refine ih ⟨i+1,v5⟩ _ _ (by dsimp only;omega) ⟨rfl,rfl,rfl,rfl,rfl,rfl,trivial⟩ ⟨by dsimp only;omega,?_⟩
   dsimp only
   rw [hsn,List.filter_append]
   simp only [List.filter_cons,e1,decide_false,Bool.not_false,if_true,List.filter_nil]
   exact w3.push (x:=l) r1 r2 r3
 have hi':i=L.length:=by omega
 subst hi'
 rw [List.take_length,← hAe] at w2 hfl
 clear ih hge hAe hll hls hds hdl
 have hTl:∀ sd,(txN ps sd).length=(aliveN ps).length:=tx_len hinv
 have hTc:=tx_count hinv
 have hPut:∀ {sd orx},StrX ps sd→(∀ (i j:Nat) (x y:SL),(aliveN ps)[i]? = some x→(aliveN ps)[j]? = some y→i≠j→x.tx≠y.tx)→Put (aliveN ps) (txN ps sd) (mkN ps sd orx):=fun {sd orx} h1 h2=>put_ok hinv h1 h2
 generalize aliveN ps=A at *
 have hx2:=hx1.trans w2.1
 have hs2:=hs.ext hx2
 have hF2:∀ q,F q→q<h2.size:=fun q hq=>by have:=hF q hq;have:=hx2.size;omega
 have ha2:=w2.2.1
 clear w2 hx1
 obtain ⟨aa,ca,ea⟩:=ha2.rd.form
 subst ea
 refine zgo ?_
 refine WO.call rfl rfl rfl rfl plain_xShow rfl (hShow_ret hs2 hF2) fun v3 h3 ⟨hx3,sd,orx,hnx,ho3,_⟩=>?_
 obtain ⟨n0,al0,hways⟩:=ways_items (orx:=orx) hnx.str
 have hSl:=show_len hinv hnx
 generalize showW (itemsX ps sd orx)=S at *
 obtain ⟨aS,cs,es⟩:=ho3.rd.form
 subst es
 refine zgo ?_
 refine Runs.loop (X:=LpX) (fun u=>[(0,.pointer (some ⟨a,0,none⟩)),(5,.slice aa A.length ca),(8,u.tv),(9,u.mv),(10,.bool u.s.inn),(11,.int .i64 (u.s.n:Int)),(12,.int .i64 (u.s.al:Int)),(47,.slice aS S.length cs),(48,.int .i64 (S.length:Int)),(49,.int .i64 (u.k:Int))])
  (fun u h'=>u.k≤S.length∧TmJ h3 h' u.s.tx u.s.mr u.tv u.mv∧(u.s.n≤u.k∧u.s.al≤u.k∧u.s.tx.length≤u.k∧u.s.mr.length≤u.k)∧Ways u.s (S.drop u.k) ⟨txN ps sd,mkN ps sd orx,false,n0,al0⟩) (fun u=>S.length-u.k) ⟨0,.slice none 0 0,.slice none 0 0,⟨[],[],false,0,0⟩⟩ ⟨rfl,rfl,rfl,rfl,rfl,rfl,rfl,rfl,rfl,rfl,trivial⟩
  ⟨Nat.zero_le _,⟨Fr.refl _ _,Own.nil _ _ _,Own.nil _ _ _,fun q hq=>by simp [Value.ownBlock] at hq,fun q hq=>by simp [Value.ownBlock] at hq,fun q hq=>by simp [Value.ownBlock] at hq⟩,⟨Nat.le_refl _,Nat.le_refl _,Nat.le_refl _,Nat.le_refl _⟩,hways⟩ ?_
 rintro ⟨k,tv,mv,⟨T,M,inn,n,al⟩⟩ h4 ⟨hk,w4,⟨hb1,hb2,hb3,hb4⟩,hwy⟩ ih
 dsimp only at hk w4 hb1 hb2 hb3 hb4 hwy ih ⊢
 refine zgo ?_
 refine Runs.cond_dec rfl (fun hlt=>?_) (fun hge=>?_)
 ·have hlt':k<S.length:=by omega
  have hgx:S[k]? = some S[k]:=List.getElem?_eq_getElem hlt'
  have hdr:S.drop k=S[k]::S.drop (k+1):=List.drop_eq_getElem_cons hlt'
  generalize S[k]=x at *
  rw [hdr] at hwy
  obtain ⟨s1,hway,hrest⟩:=hwy
  obtain ⟨b0,p0,cap0,hv0,_,hcell⟩:=(ho3.rd.ext w4.ext).cell (strs_get hgx)
  cases hv0
  rcases hway with ⟨rfl,q1,rfl⟩ | ⟨rfl,q1,q2,rfl⟩ | ⟨rfl,q1,q2,q3,rfl⟩ | ⟨c,t,rfl,hkind,rfl⟩
  ·dsimp only at q1 hrest
   subst q1
   refine zgo ?_
   exact ih ⟨k+1,tv,mv,⟨T,M,true,0,0⟩⟩ _ _ (by dsimp only;omega) ⟨rfl,rfl,rfl,rfl,rfl,rfl,rfl,rfl,rfl,rfl,trivial⟩ ⟨by dsimp only;omega,w4,⟨by dsimp only;omega,by dsimp only;omega,by dsimp only;omega,by dsimp only;omega⟩,hrest⟩
  ·dsimp only at q1 q2 hrest
   subst q1
   have hdn:decide ((0:Int)<(n:Int))=true:=by simp;omega
   refine zgo ?_
   rw [hdn]
   refine zgo ?_
   exact ih ⟨k+1,tv,mv,⟨T,M,true,0,al⟩⟩ _ _ (by dsimp only;omega) ⟨rfl,rfl,rfl,rfl,rfl,rfl,rfl,rfl,rfl,rfl,trivial⟩ ⟨by dsimp only;omega,w4,⟨by dsimp only;omega,by dsimp only;omega,by dsimp only;omega,by dsimp only;omega⟩,hrest⟩
  ·dsimp only at q1 q2 q3 hrest
   subst q1
   have hdn:decide ((0:Int)<(n:Int))=true:=by simp;omega
   have hda:decide ((al:Int)<2)=false:=by simp;omega
   refine zgo ?_
   rw [hdn]
   refine zgo ?_
   rw [hda]
   refine zgo ?_
   exact ih ⟨k+1,tv,mv,⟨T,M,false,0,al⟩⟩ _ _ (by dsimp only;omega) ⟨rfl,rfl,rfl,rfl,rfl,rfl,rfl,rfl,rfl,rfl,trivial⟩ ⟨by dsimp only;omega,w4,⟨by dsimp only;omega,by dsimp only;omega,by dsimp only;omega,by dsimp only;omega⟩,hrest⟩
  ·dsimp only at hkind hrest
   have hne:c≠60∧c≠61∧c≠62:=by
    rcases hkind with ⟨e,_⟩ | ⟨e,_⟩ | ⟨e,_⟩ | e<;>subst e<;>decide
   have hd0:decide (c::t=[60])=false:=by simp [hne.1]
   have hd1:decide (c::t=[61])=false:=by simp [hne.2.1]
   have hd2:decide (c::t=[62])=false:=by simp [hne.2.2]
   have hget:(c::t)[0]? = some c:=rfl
   refine zgo ?_
   rw [hd0]
   refine zgo ?_
   rw [hd1]
   refine zgo ?_
   rw [hd2]
   refine zgo ?_
   refine WO.join (fun env' h'=>h4=h'∧Sub [(0,.pointer (some ⟨a,0,none⟩)),(5,.slice aa A.length ca),(8,tv),(9,mv),(10,.bool inn),(11,.int .i64 (n:Int)),(12,.int .i64 (al:Int)),(14,.string (str (c::t))),(47,.slice (some ⟨b0,p0,none⟩) S.length cs),(48,.int .i64 (S.length:Int)),(49,.int .i64 (k:Int)),(82,.bool true)] env') ?_ ?_
   ·have hdl:decide ((0:Int)<((c::t).length:Int))=true:=by simp<;>omega
    rw [hdl]
    rcases hkind with ⟨e,e'⟩ | ⟨e,e'⟩ | ⟨e,e'⟩ | e
    ·subst e e'
     refine zgo ?_
     exact ⟨rfl,rfl,rfl,rfl,rfl,rfl,rfl,rfl,rfl,rfl,rfl,rfl,rfl,trivial⟩
    ·subst e e'
     refine zgo ?_
     exact ⟨rfl,rfl,rfl,rfl,rfl,rfl,rfl,rfl,rfl,rfl,rfl,rfl,rfl,trivial⟩
    ·subst e e'
     refine zgo ?_
     exact ⟨rfl,rfl,rfl,rfl,rfl,rfl,rfl,rfl,rfl,rfl,rfl,rfl,rfl,trivial⟩
    ·subst e
     refine zgo ?_
     exact ⟨rfl,rfl,rfl,rfl,rfl,rfl,rfl,rfl,rfl,rfl,rfl,rfl,rfl,trivial⟩
   rintro env' _ ⟨rfl,hsub⟩
   refine Runs.sub hsub ?_
   clear hsub env'
   have hlc:1≤(c::t).length:=by simp
   refine zgo ?_
   refine zh (one_str _) w4.t ?_
   intro tv5 h5 r1 r2 r3
   have w5:=w4.pushT (x:=t) r1 r2 r3
   refine zgo ?_
   refine WO.val (ov_sslice_hi (j:=1) tab_ok rfl rfl rfl rfl rfl hlc) rfl rfl rfl ?_
   refine zh (one_str _) w5.m ?_
   intro mv6 h6 s1 s2 s3
   have w6:=w5.pushM (x:=[c]) s1 s2 s3
   refine zgo ?_
   exact ih ⟨k+1,tv5,mv6,⟨T++[t],M++[[c]],inn,n+1,al+1⟩⟩ _ _ (by dsimp only;omega) ⟨rfl,rfl,rfl,rfl,rfl,rfl,rfl,rfl,rfl,rfl,trivial⟩ ⟨by dsimp only;omega,w6,⟨by dsimp only;omega,by dsimp only;omega,by dsimp only;simp;omega,by dsimp only;simp;omega⟩,hrest⟩
 have hk':S.drop k=[]:=List.drop_eq_nil_of_le (by omega)
 rw [hk'] at hwy
 simp only [Ways,LSt.mk.injEq] at hwy
 obtain ⟨e1,e2,e3,_,_⟩:=hwy
 subst e1 e2 e3
 clear ih hge hk' hways
 have hTA:=hTl sd
 have hTc':=hTc sd
 have hbl:=plN_blank (ps:=ps) (sd:=sd) (orx:=orx)
 have hput:=fun hd=>hPut (orx:=orx) hnx.str hd
 have hML:(mkN ps sd orx).length=(txN ps sd).length:=by simp [mkN,txN]
 clear hPut hTl hTc
 generalize txN ps sd=T at *
 generalize mkN ps sd orx=M at *
 obtain ⟨at',ct,et⟩:=w4.t.rd.form
 obtain ⟨am,cm,em⟩:=w4.m.rd.form
 subst et em
 have ha4:=ha2.rd.ext (hx3.trans w4.ext)
 have ht4:=w4.t.rd
 have hm4:=w4.m.rd
 have hx4:=hx2.trans (hx3.trans w4.ext)
 have hla4:∀ q,(Value.slice aa A.length ca).ownBlock=some q→q<h4.size:=(ha2.fr (hx3.trans w4.ext) (by simp)).lt
 have hlt4:=w4.t.lt
 have hlm4:=w4.m.lt
 have hs4:=hs2.ext (hx3.trans w4.ext)
 have hF4:∀ q,F q→q<h4.size:=fun q hq=>by have:=hF q hq;have:=hx4.size;omega
 clear w4 ho3 hs2 hF2 ha2 hx3 hx2
 refine zgo ?_
 refine Runs.cond_ndec rfl (fun q=>?_) (fun _=>?_)
 ·exfalso;omega
 refine zgo ?_
 refine Runs.loop (X:=Nat) (fun i=>[(0,.pointer (some ⟨a,0,none⟩)),(5,.slice aa A.length ca),(8,.slice at' T.length ct),(9,.slice am M.length cm),(15,.bool (plN (M.take i))),(140,.int .i64 (M.length:Int)),(141,.int .i64 (i:Int))])
  (fun i h'=>h4=h'∧i≤M.length) (fun i=>M.length-i) 0 ⟨rfl,rfl,rfl,rfl,rfl,rfl,rfl,trivial⟩ ⟨rfl,Nat.zero_le _⟩ ?_
 rintro i _ ⟨rfl,hi3⟩ ih
 refine zgo ?_
 refine Runs.cond_dec rfl (fun hlt=>?_) (fun hge=>?_)
 ·have hlt':i<M.length:=by omega
  have hgm:M[i]? = some M[i]:=List.getElem?_eq_getElem hlt'
  have hsn:plN (M.take (i+1))=(plN (M.take i)&&decide (M[i]=[32])):=by
   unfold plN
   rw [List.take_succ_eq_append_getElem hlt',List.all_append]
   simp
  generalize M[i]=x at *
  obtain ⟨b0,p0,cap0,hv0,_,hcell⟩:=hm4.cell (strs_get hgm)
  cases hv0
  generalize plN (M.take i)=r at *
  refine zgo ?_
  refine WO.join (fun env' h'=>h4=h'∧Sub [(0,.pointer (some ⟨a,0,none⟩)),(5,.slice aa A.length ca),(8,.slice at' T.length ct),(9,.slice (some ⟨b0,p0,none⟩) M.length cm),(15,.bool (plN (M.take (i+1)))),(140,.int .i64 (M.length:Int)),(141,.int .i64 (i:Int))] env') ?_ ?_
  ·refine WO.split 145 _ rfl (fun q1=>?_) (fun q1=>?_)
   ·refine zgo ?_
    exact ⟨rfl,rfl,rfl,rfl,rfl,by show some _=some _;rw [hsn,q1];rfl,rfl,rfl,trivial⟩
   ·refine zgo ?_
    exact ⟨rfl,rfl,rfl,rfl,rfl,by show some _=some _;rw [hsn,q1];rfl,rfl,rfl,trivial⟩
  rintro env' _ ⟨rfl,hsub⟩
  refine Runs.sub hsub ?_
  clear hsub env'
  refine zgo ?_
  exact ih (i+1) _ _ (by omega) ⟨rfl,rfl,rfl,rfl,rfl,rfl,rfl,trivial⟩ ⟨rfl,by omega⟩
 rw [List.take_of_length_le (show M.length≤i by omega)]
 clear ih hge hi3
 refine zgo ?_
 refine WO.call rfl rfl rfl rfl plain_xClean rfl (hClean_ret hs4 hF4) fun v5 h5 ⟨hx5,sd5,orx5,hn5,hv5⟩=>?_
 rw [blank_same hnx hn5,hbl] at hv5
 subst hv5
 have hmake:T.length≤1000000:=by omega
 have hx05:=hx4.trans hx5
 have hz45:=hx5.size
 have ha5:=ha4.ext hx5
 have ht5:=ht4.ext hx5
 have hm5:=hm4.ext hx5
 clear ha4 ht4 hm4 hs4 hF4 hx4 hbl hx5
 generalize plN M=r
 refine WO.val (ov_bneq tab_ok rfl rfl rfl rfl) rfl rfl rfl ?_
 have hrr:(!(r == r))=false:=by simp
 rw [hrr]
 refine zgo ?_
 refine WO.make tab_ok rfl rfl rfl rfl rfl rfl rfl rfl rfl rfl hmake fun h6 hb6 hx6 hs6=>?_
 rw [← bools_replicate] at hb6
 have hz5:=hx05.size
 clear hs6
 generalize hub:h5.size=ub at *
 have hal:∀ q,(Value.slice aa A.length ca).ownBlock=some q→¬ q=ub:=fun q hq e=>by have:=hla4 q hq;omega
 have htl:∀ q,(Value.slice at' T.length ct).ownBlock=some q→¬ q=ub:=fun q hq e=>by have:=hlt4 q hq;omega
 have hml:∀ q,(Value.slice am M.length cm).ownBlock=some q→¬ q=ub:=fun q hq e=>by have:=hlm4 q hq;omega
 have ha6:=ha5.ext hx6
 have ht6:=ht5.ext hx6
 have hm6:=hm5.ext hx6
 clear ha5 ht5 hm5 hla4 hlt4 hlm4
 refine zgo ?_
 refine Runs.loop (X:=UsX) (fun u=>[(0,.pointer (some ⟨a,0,none⟩)),(5,.slice aa A.length ca),(8,.slice at' T.length ct),(9,.slice am M.length cm),(17,.slice (some ⟨ub,0,none⟩) T.length T.length),(18,.bool u.tw),(160,.slice aa A.length ca),(161,.int .i64 (A.length:Int)),(162,.int .i64 (u.i:Int))])
  (fun u h'=>u.i≤A.length∧Fr (fun q=>q=ub) h6 h'∧Blk h' ub (bools u.us) 4∧u.us.length=T.length∧(∀ k,k<T.length→u.us[k]? = some (decide (k∈u.U)))∧(u.U.map fun k=>T.getD k [])=(A.map SL.tx).take u.i) (fun u=>A.length-u.i) ⟨0,false,List.replicate T.length false,[]⟩ ⟨rfl,rfl,rfl,rfl,rfl,rfl,rfl,rfl,rfl,trivial⟩
  ⟨Nat.zero_le _,Fr.refl _ _,hb6,by simp,fun k hk=>by simp [hk],by simp⟩ ?_
 rintro ⟨i,tw,us,U⟩ h7 ⟨hi4,hf7,hb7,hul,hu,hU⟩ ih
 dsimp only at hi4 hf7 hb7 hul hu hU ih ⊢
 have ha7:=ha6.fr hf7 hal
 have ht7:=ht6.fr hf7 htl
 refine zgo ?_
 refine Runs.cond_dec rfl (fun hlt=>?_) (fun hge=>?_)
 ·have hlt':i<A.length:=by omega
  have hgl:A[i]? = some A[i]:=List.getElem?_eq_getElem hlt'
  generalize A[i]=l at *
  have hgt:(A.map SL.tx)[i]? = some l.tx:=by rw [List.getElem?_map,hgl];rfl
  obtain ⟨qf,hqf,hqU⟩:=free_ex hTc' hU hgt
  obtain ⟨b0,p0,cap0,hv0,_,hcs⟩:=ha7.pos (by omega)
  cases hv0
  have hc:Cells h7 b0 (p0+i*4) l.cells:=flat_get SL.len hcs hgl
  refine zgo ?_
  refine zv l.one fun h8 hb8 hx8 hs8=>?_
  have l3:=hb8.cell (j:=3) rfl
  have ht8:=ht7.ext hx8
  have hu8:=hb7.ext hx8
  clear hcs hc
  refine zgo ?_
  refine Runs.loop (X:=UtX) (fun u=>[(0,.pointer (some ⟨a,0,none⟩)),(5,.slice (some ⟨b0,p0,none⟩) A.length ca),(8,.slice at' T.length ct),(9,.slice am M.length cm),(17,.slice (some ⟨ub,0,none⟩) T.length T.length),(18,.bool u.tw),(20,.pointer (some ⟨h7.size,0,none⟩)),(21,.int .i64 u.z),(160,.slice (some ⟨b0,p0,none⟩) A.length ca),(161,.int .i64 (A.length:Int)),(162,.int .i64 (i:Int)),(167,.int .i64 (T.length:Int)),(168,.int .i64 (u.k:Int))])
   (fun u h'=>h8=h'∧u.k≤T.length∧((u.z = -1∧∀ q,q<u.k→T[q]? = some l.tx→q∈U)∨∃ q:Nat,u.z=(q:Int)∧T[q]? = some l.tx∧q∉U)) (fun u=>T.length-u.k) ⟨0,tw,-1⟩ ⟨rfl,rfl,rfl,rfl,rfl,rfl,rfl,rfl,rfl,rfl,rfl,rfl,rfl,trivial⟩
   ⟨rfl,Nat.zero_le _,.inl ⟨rfl,fun q hq=>absurd hq (Nat.not_lt_zero _)⟩⟩ ?_
  rintro ⟨k,tw2,z⟩ _ ⟨rfl,hk5,hz⟩ ih2
  dsimp only at hk5 hz ih2 ⊢
  refine zgo ?_
  refine Runs.cond_dec rfl (fun hlt2=>?_) (fun hge2=>?_)
  ·have hlt2':k<T.length:=by omega
   have hgx:T[k]? = some T[k]:=List.getElem?_eq_getElem hlt2'
   generalize T[k]=x at *
   obtain ⟨b1,p1,cap1,hv1,_,hcell⟩:=ht8.cell (strs_get hgx)
   cases hv1
   have huc:cellAt h8 ub (0+k*1)=some (.bool (decide (k∈U))):=by
    have:=hu8.cell (bools_get (hu k hlt2'))
    simpa using this
   have hzb:-1≤z∧z≤1000:=by
    rcases hz with ⟨e,_⟩ | ⟨q,e,e2,_⟩
    ·omega
    ·have:=(List.getElem?_eq_some_iff.1 e2).1
     omega
   refine zgo ?_
   refine Runs.still mixed (by kernel_rfl) ?_
   refine zws ?_
   refine Runs.cond_dec rfl (fun heq=>?_) (fun hne=>?_)
   ·refine zgo ?_
    refine WO.join (fun env' h'=>h8=h'∧∃ tw3:Bool,Sub [(0,.pointer (some ⟨a,0,none⟩)),(5,.slice (some ⟨b0,p0,none⟩) A.length ca),(8,.slice (some ⟨b1,p1,none⟩) T.length ct),(9,.slice am M.length cm),(17,.slice (some ⟨ub,0,none⟩) T.length T.length),(18,.bool tw3),(20,.pointer (some ⟨h7.size,0,none⟩)),(21,.int .i64 z),(22,.int .i64 (k:Int)),(160,.slice (some ⟨b0,p0,none⟩) A.length ca),(161,.int .i64 (A.length:Int)),(162,.int .i64 (i:Int)),(167,.int .i64 (T.length:Int)),(168,.int .i64 (k:Int))] env') ?_ ?_
    ·refine WO.split 179 _ rfl (fun q1=>?_) (fun q1=>?_)
     ·refine zgo ?_
      exact ⟨rfl,_,rfl,rfl,rfl,rfl,rfl,rfl,rfl,rfl,rfl,rfl,rfl,rfl,rfl,rfl,trivial⟩
     ·refine zgo ?_
      exact ⟨rfl,_,rfl,rfl,rfl,rfl,rfl,rfl,rfl,rfl,rfl,rfl,rfl,rfl,rfl,rfl,trivial⟩
    rintro env' _ ⟨rfl,tw3,hsub⟩
    refine Runs.sub hsub ?_
    clear hsub env'
    refine zgo ?_
    refine Runs.cond_ndec rfl (fun hnU=>?_) (fun hinU=>?_)
    ·refine zgo ?_
     exact ih2 ⟨k+1,tw3,(k:Int)⟩ _ _ (by dsimp only;omega) ⟨rfl,rfl,rfl,rfl,rfl,rfl,rfl,rfl,rfl,rfl,rfl,rfl,rfl,trivial⟩ ⟨rfl,by dsimp only;omega,.inr ⟨k,rfl,by rw [hgx,heq],hnU⟩⟩
    ·refine zgo ?_
     refine ih2 ⟨k+1,tw3,z⟩ _ _ (by dsimp only;omega) ⟨rfl,rfl,rfl,rfl,rfl,rfl,rfl,rfl,rfl,rfl,rfl,rfl,rfl,trivial⟩ ⟨rfl,by dsimp only;omega,?_⟩
     dsimp only
     rcases hz with ⟨e1,e2⟩ | e1
     ·refine .inl ⟨e1,fun q hq hqt=>?_⟩
      by_cases e:q=k
      ·subst e;exact hinU
      ·exact e2 q (by omega) hqt
     ·exact .inr e1
   ·refine zgo ?_
    refine ih2 ⟨k+1,tw2,z⟩ _ _ (by dsimp only;omega) ⟨rfl,rfl,rfl,rfl,rfl,rfl,rfl,rfl,rfl,rfl,rfl,rfl,rfl,trivial⟩ ⟨rfl,by dsimp only;omega,?_⟩
    dsimp only
    rcases hz with ⟨e1,e2⟩ | e1
    ·refine .inl ⟨e1,fun q hq hqt=>?_⟩
     by_cases e:q=k
     ·subst e
      rw [hgx] at hqt
      exact absurd (Option.some.inj hqt) hne
     ·exact e2 q (by omega) hqt
    ·exact .inr e1
  obtain ⟨q,rfl,hqt,hqn⟩:∃ q:Nat,z=(q:Int)∧T[q]? = some l.tx∧q∉U:=by
   rcases hz with ⟨_,e2⟩ | e
   ·have:=(List.getElem?_eq_some_iff.1 hqf).1
    exact absurd (e2 qf (by omega) hqf) hqU
   ·exact e
  have hql:=(List.getElem?_eq_some_iff.1 hqt).1
  clear ih2 hz
  refine zgo ?_
  refine WO.put1 tab_ok rfl rfl rfl rfl rfl rfl rfl (one_bool _) hu8 (by simp [bools];omega) fun h9 hb9 hx9 hs9=>?_
  rw [Nat.zero_add,Nat.mul_one] at hb9
  have hset:(bools us).set q (.bool true)=bools (us.set q true):=by simp [bools,List.map_set]
  rw [hset] at hb9
  refine zgo ?_
  refine ih ⟨i+1,tw2,us.set q true,U++[q]⟩ _ _ (by dsimp only;omega) ⟨rfl,rfl,rfl,rfl,rfl,rfl,rfl,rfl,rfl,trivial⟩ ⟨by dsimp only;omega,(hf7.ex hx8).trans hx9,hb9,by dsimp only;simp [hul],fun k hk=>?_,?_⟩
  ·dsimp only
   rw [List.getElem?_set]
   by_cases e:q=k
   ·subst e
    simp [hul,hql]
   ·rw [if_neg e,hu k hk]
    simp [show ¬ k=q from fun e'=>e e'.symm]
  ·dsimp only
   have hget:T.getD q []=l.tx:=by simp [List.getD_eq_getElem?_getD,hqt]
   rw [List.map_append,hU,List.take_succ_eq_append_getElem (by simpa using hlt'),List.map_cons,List.map_nil,hget]
   congr 1
   have:=List.getElem?_eq_some_iff.1 hgt
   rw [this.2]
 have hm7:=hm6.fr hf7 hml
 have hx07:Ext h h7:=(hx05.trans hx6).trans_new (hf7.mono fun q _ e=>.inr (by omega))
 clear ih hge hb7 hul hu hU hf7 hb6 hx6 ha6 ht6 hm6 hTc'
 refine zgo ?_
 refine Runs.loop (X:=TwX) (fun u=>[(5,.slice aa A.length ca),(8,.slice at' T.length ct),(9,.slice am M.length cm),(18,.bool u.tw),(197,.int .i64 (A.length:Int)),(198,.int .i64 (u.i:Int))])
  (fun u h'=>h7=h'∧u.i≤A.length∧(u.tw=false→∀ (p q:Nat) (x y:SL),p<u.i→A[p]? = some x→A[q]? = some y→p≠q→x.tx≠y.tx)) (fun u=>A.length-u.i) ⟨0,tw⟩ ⟨rfl,rfl,rfl,rfl,rfl,rfl,trivial⟩ ⟨rfl,Nat.zero_le _,fun _ p q x y hp=>absurd hp (Nat.not_lt_zero _)⟩ ?_
 rintro ⟨i,tw4⟩ _ ⟨rfl,hi5,hd5⟩ ih
 dsimp only at hi5 hd5 ih ⊢
 refine zgo ?_
 refine Runs.cond_dec rfl (fun hlt=>?_) (fun hge=>?_)
 ·have hlt':i<A.length:=by omega
  have hgl:A[i]? = some A[i]:=List.getElem?_eq_getElem hlt'
  generalize A[i]=l at *
  obtain ⟨b0,p0,cap0,hv0,_,hcs⟩:=ha7.pos (by omega)
  cases hv0
  have ci:=flat_get SL.len hcs hgl 3 _ rfl
  refine zgo ?_
  refine Runs.loop (X:=TwX) (fun u=>[(5,.slice (some ⟨b0,p0,none⟩) A.length ca),(8,.slice at' T.length ct),(9,.slice am M.length cm),(18,.bool u.tw),(23,.int .i64 (i:Int)),(197,.int .i64 (A.length:Int)),(198,.int .i64 (i:Int)),(202,.int .i64 (A.length:Int)),(203,.int .i64 (u.i:Int))])
   (fun u h'=>h7=h'∧u.i≤A.length∧(u.tw=false→(∀ (p q:Nat) (x y:SL),p<i→A[p]? = some x→A[q]? = some y→p≠q→x.tx≠y.tx)∧∀ (q:Nat) (y:SL),q<u.i→A[q]? = some y→i≠q→l.tx≠y.tx)) (fun u=>A.length-u.i) ⟨0,tw4⟩ ⟨rfl,rfl,rfl,rfl,rfl,rfl,rfl,rfl,rfl,trivial⟩ ⟨rfl,Nat.zero_le _,fun e=>⟨hd5 e,fun q y hq=>absurd hq (Nat.not_lt_zero _)⟩⟩ ?_
  rintro ⟨j,tw5⟩ _ ⟨rfl,hj5,he5⟩ ih2
  dsimp only at hj5 he5 ih2 ⊢
  refine zgo ?_
  refine Runs.cond_dec rfl (fun hlt2=>?_) (fun hge2=>?_)
  rotate_left
  ·refine zgo ?_
   refine ih ⟨i+1,tw5⟩ _ _ (by dsimp only;omega) ⟨rfl,rfl,rfl,rfl,rfl,rfl,trivial⟩ ⟨rfl,by dsimp only;omega,fun e p q x y hp hx hy hpq=>?_⟩
   obtain ⟨g1,g2⟩:=he5 e
   by_cases epi:p=i
   ·subst epi
    rw [hgl] at hx
    have:=(List.getElem?_eq_some_iff.1 hy).1
    rw [← Option.some.inj hx]
    exact g2 q y (by omega) hy hpq
   ·exact g1 p q x y (by dsimp only at hp;omega) hx hy hpq
  clear ih
  have hlt2':j<A.length:=by omega
  have hgy:A[j]? = some A[j]:=List.getElem?_eq_getElem hlt2'
  generalize A[j]=y0 at *
  have cj:=flat_get SL.len hcs hgy 3 _ rfl
  clear hcs
  cases tw5
  ·obtain ⟨g1,g2⟩:=he5 rfl
   refine zgo ?_
   refine Runs.still mixed (by kernel_rfl) ?_
   refine zws ?_
   refine WS.split 211 _ rfl (fun q1=>?_) (fun q1=>?_)
   ·refine zws ?_
    refine zgo ?_
    refine ih2 ⟨j+1,decide (l.tx=y0.tx)⟩ _ _ (by dsimp only;omega) ⟨rfl,rfl,rfl,rfl,rfl,rfl,rfl,rfl,rfl,trivial⟩ ⟨rfl,by dsimp only;omega,fun e=>⟨g1,fun q y hq hy hne=>?_⟩⟩
    dsimp only at e hq
    by_cases eq:q=j
    ·subst eq
     rw [hgy] at hy
     rw [← Option.some.inj hy]
     exact of_decide_eq_false e
    ·exact g2 q y (by omega) hy hne
   ·have q1':(i:Int)=(j:Int):=by simpa using q1
    refine zws ?_
    refine zgo ?_
    refine ih2 ⟨j+1,false⟩ _ _ (by dsimp only;omega) ⟨rfl,rfl,rfl,rfl,rfl,rfl,rfl,rfl,rfl,trivial⟩ ⟨rfl,by dsimp only;omega,fun e=>⟨g1,fun q y hq hy hne=>?_⟩⟩
    dsimp only at hq
    exact g2 q y (by omega) hy hne
  ·refine zgo ?_
   refine Runs.still mixed (by kernel_rfl) ?_
   refine zws ?_
   refine zgo ?_
   exact ih2 ⟨j+1,true⟩ _ _ (by dsimp only;omega) ⟨rfl,rfl,rfl,rfl,rfl,rfl,rfl,rfl,rfl,trivial⟩ ⟨rfl,by dsimp only;omega,fun e=>by cases e⟩
 clear ih
 cases tw4
 ·have hp:=hput fun p q x y hx hy hne=>hd5 rfl p q x y (by have:=(List.getElem?_eq_some_iff.1 hx).1;omega) hx hy hne
  refine zgo ?_
  refine WO.call rfl rfl rfl rfl plain_hinOrder rfl (hinOrder_ret hp (by omega) (by omega) _ _ _ _ ha7 ht7 hm7) fun v8 h8 ⟨hx8,hv8⟩=>?_
  subst hv8
  refine zgo ?_
  exact Runs.ret Tryd.func15 (ret1 Tryd.results15 rfl) ⟨hx07.trans hx8,rfl⟩
 ·refine zgo ?_
  exact Runs.ret Tryd.func15 (ret1 Tryd.results15 rfl) ⟨hx07,rfl⟩
theorem plain_hShown:Plain Tryd.prog 7:=⟨_,Tryd.func7,by decide +kernel,by rfl⟩
theorem kShown_ret (l:List (List UInt8)) (v:Value) (h:Heap) (hv:Texts h v l) (ht:Tab10 h) :
  Ret Tryd.prog 7 #[v] h fun r h'=>Ext h h'∧r = .bool true:=by
 refine Ret.of_body Tryd.func7 rfl Tryd.ntmps7 rfl rfl ?_
 refine zgo ?_
 refine WO.call rfl rfl rfl rfl plain_ksmall rfl (ksmall_ret l v _ hv.rd hv.len hv.each) fun v1 h1 ⟨hh1,r1,hv1,hr1⟩=>?_
 replace hh1:=hh1.symm
 subst hh1 hv1
 cases r1
 ·refine zgo ?_
  exact Runs.ret Tryd.func7 (ret1 Tryd.results7 rfl) ⟨Fr.refl _ _,rfl⟩
 refine zgo ?_
 refine WO.call rfl rfl rfl rfl plain_kof rfl (kof_ret l v _ ht hv.rd (hr1 rfl)) fun v3 h3 ⟨hx3,hv3,F,ps,w3,hF3⟩=>?_
 subst hv3
 refine zgo ?_
 refine WO.call rfl rfl rfl rfl plain_hnothing rfl (hnothing_ret w3.tab w3.head w3.lt) fun v5 h5 ⟨hx5,hv5⟩=>?_
 subst hv5
 refine zgo ?_
 exact Runs.ret Tryd.func7 (ret1 Tryd.results7 rfl) ⟨hx3.trans hx5,rfl⟩
end Go.Proofs.YtlaffgagmncgjabDoor
