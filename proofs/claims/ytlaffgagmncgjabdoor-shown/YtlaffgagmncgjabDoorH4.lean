import Derived.Test.YtlaffgagmncgjabDoorH3
set_option maxRecDepth 20000
set_option maxHeartbeats 6400000
namespace Go.Proofs.YtlaffgagmncgjabDoor
open Go Go.Pat Go.Proofs
structure SaJ (h0 h':Heap) (L:List SL) (D:List (List UInt8)) (lv dv:Value):Prop where
 ext:Ext h0 h'
 l:Own h' 55 4 lv L.length (slC L)
 d:Own h' 9 1 dv D.length (strs D)
 ln:∀ q,lv.ownBlock=some q→h0.size≤q
 dn:∀ q,dv.ownBlock=some q→h0.size≤q
 ne:∀ q,lv.ownBlock=some q→dv.ownBlock=some q→False
theorem SaJ.on {h0 h1 h2:Heap} {L:List SL} {D:List (List UInt8)} {lv dv:Value} (w:SaJ h0 h1 L D lv dv) (x:Ext h1 h2):SaJ h0 h2 L D lv dv:=⟨w.ext.trans x,w.l.fr x (by simp),w.d.fr x (by simp),w.ln,w.dn,w.ne⟩
theorem SaJ.pushD {h0 h1 h2:Heap} {L:List SL} {D:List (List UInt8)} {lv dv dv':Value} {x:List UInt8} (w:SaJ h0 h1 L D lv dv) (o:Own h2 9 1 dv' (D.length+1) (strs D++[.string (str x)])) (f:Fr (fun q=>dv.ownBlock=some q) h1 h2) (nw:Moved h1 dv dv'):SaJ h0 h2 L (D++[x]) lv dv':=by
 have hz:=w.ext.size
 refine ⟨w.ext.trans_new (f.mono fun q _ e=>.inr (w.dn q e)),w.l.fr f fun q hq e=>w.ne q hq e,?_,w.ln,fun q hq=>?_,fun q hq hq'=>?_⟩
 ·rw [strs_append,List.length_append];exact o
 ·rcases nw q hq with e | e
  ·exact w.dn q e
  ·omega
 ·rcases nw q hq' with e | e
  ·exact w.ne q hq e
  ·have:=w.l.lt q hq;omega
theorem SaJ.pushL {h0 h1 h2:Heap} {L:List SL} {D:List (List UInt8)} {lv dv lv':Value} {x:SL} (w:SaJ h0 h1 L D lv dv) (o:Own h2 55 4 lv' (L.length+1) (slC L++x.cells)) (f:Fr (fun q=>lv.ownBlock=some q) h1 h2) (nw:Moved h1 lv lv'):SaJ h0 h2 (L++[x]) D lv' dv:=by
 have hz:=w.ext.size
 refine ⟨w.ext.trans_new (f.mono fun q _ e=>.inr (w.ln q e)),?_,w.d.fr f fun q hq e=>w.ne q e hq,fun q hq=>?_,w.dn,fun q hq hq'=>?_⟩
 ·rw [slC_append,slC_one,List.length_append];exact o
 ·rcases nw q hq with e | e
  ·exact w.ln q e
  ·omega
 ·rcases nw q hq with e | e
  ·exact w.ne q e hq'
  ·have:=w.d.lt q hq';omega
structure SaX where
 (i:Nat) (lv dv:Value)
structure SbX where
 (k o:Nat) (lv dv:Value) (L:List SL) (D:List (List UInt8))
theorem swayl {id:Nat}:∀ {l:List (List UInt8)} {s s':SSt},SWays id s l s'→s.L.length+s.D.length+s.o≤s'.L.length+s'.D.length+s'.o
 | [],s,s',h=>by cases h;exact Nat.le_refl _
 | x::l,s,s',⟨s1,h1,h2⟩=>by
  have:=swayl h2
  rcases h1 with ⟨_,_,_,_,_,rfl⟩ | ⟨_,_,rfl⟩ | ⟨_,_,_,_,_,_,_,rfl⟩
  ·exact this
  ·simp at this;omega
  ·simp at this;omega
theorem dels_len {p:PatchD}:(delsOf p.changes).length≤p.changes.length:=by unfold delsOf;rw [List.length_map];exact List.length_filter_le _ _
theorem hsaid_ret {F:Nat→Prop} {a:Nat} {ps:List PatchD} {h:Heap} (ht:Tab10 h) (hs:Sto F h a ps) :
  Ret Tryd.prog 30 #[.pointer (some ⟨a,0,none⟩)] h fun v h'=>∃ lv dv,v = .tuple #[lv,dv]∧SaJ h h' ((linesS ps).map slOf) (deadN ps) lv dv:=by
 refine Ret.of_body Tryd.func30 rfl Tryd.ntmps30 rfl rfl ?_
 have hset:=hs.set
 have hinv:=hset.inv
 have hpl:=hinv.len
 have hnl:=hinv.lines
 refine zgo ?_
 refine WO.call rfl rfl rfl rfl plain_xLog rfl (hLog_ret hs) fun v1 h1 ⟨hx1,ho1,hm1⟩=>?_
 have hil:(idsS ps).length=ps.length:=by simp [idsS]
 rw [hil] at ho1
 obtain ⟨ad,cap,hv1⟩:=ho1.rd.form
 subst hv1
 refine zgo ?_
 refine Runs.loop (X:=SaX) (fun u=>[(0,.pointer (some ⟨a,0,none⟩)),(4,u.lv),(5,u.dv),(16,.slice ad ps.length cap),(17,.int .i64 (ps.length:Int)),(18,.int .i64 (u.i:Int))])
  (fun u h'=>u.i≤ps.length∧SaJ h1 h' ((linesS (ps.take u.i)).map slOf) (deadN (ps.take u.i)) u.lv u.dv) (fun u=>ps.length-u.i) ⟨0,.slice none 0 0,.slice none 0 0⟩ ⟨rfl,rfl,rfl,rfl,rfl,rfl,trivial⟩
  ⟨Nat.zero_le _,Fr.refl _ _,Own.nil _ _ _,Own.nil _ _ _,fun q hq=>by simp [Value.ownBlock] at hq,fun q hq=>by simp [Value.ownBlock] at hq,fun q hq=>by simp [Value.ownBlock] at hq⟩ ?_
 rintro ⟨i,lv,dv⟩ h2 ⟨hi,w2⟩ ih
 dsimp only at hi w2 ih ⊢
 refine zgo ?_
 refine Runs.cond_dec rfl (fun hlt=>?_) (fun hge=>?_)
 rotate_left
 ·have hi':i=ps.length:=by omega
  subst hi'
  rw [List.take_length] at w2
  refine zgo ?_
  have hz1:=hx1.size
  exact Runs.ret Tryd.func30 (ret2 Tryd.results30 rfl rfl) ⟨lv,dv,rfl,hx1.trans w2.ext,w2.l,w2.d,fun q hq=>Nat.le_trans hz1 (w2.ln q hq),fun q hq=>Nat.le_trans hz1 (w2.dn q hq),w2.ne⟩
 have hlt':i<ps.length:=by omega
 have hgp:ps[i]? = some ps[i]:=List.getElem?_eq_getElem hlt'
 have hpm:ps[i]∈ps:=List.getElem_mem hlt'
 have hsn:ps.take (i+1)=ps.take i++[ps[i]]:=List.take_succ_eq_append_getElem hlt'
 generalize ps[i]=p at *
 have hgi:(idsS ps)[i]? = some p.id:=by simp [idsS,hgp]
 obtain ⟨b0,p0,cap0,hv0,_,hcell⟩:=(ho1.rd.ext w2.ext).cell (ints_get hgi)
 cases hv0
 obtain ⟨t0,ht0,_⟩:=hinv.fine p hpm
 have htx:=parse_text ht0
 rw [← htx] at ht0
 clear htx
 have hpok:=hinv.ok hpm
 have hx12:=hx1.trans w2.ext
 have hs2:=hs.ext hx12
 refine zgo ?_
 refine WO.call rfl rfl rfl rfl plain_xText rfl (kText_ret (ht.fr hx12 (by simp)) hs2 (p.id:Int)) fun v3 h3 ⟨hx3,t,e,hv3,htx⟩=>?_
 subst hv3
 obtain ⟨rfl,rfl⟩:t=textS p∧e=0:=by
  rcases htx with ⟨p',hp',e1,e2,e3⟩ | ⟨hno,_⟩
  ·have e1':p'.id=p.id:=by omega
   rw [ids_inj hinv.nodup hp' hpm e1'] at e2
   exact ⟨e2,e3⟩
  ·exact absurd rfl (hno p hpm)
 clear htx
 obtain ⟨hways,hrl⟩:=says_text ht0 ((linesS (ps.take i)).map slOf) (deadN (ps.take i))
 have htl:(textS p).length≤1400:=by
  obtain ⟨hl,_⟩:=parseS_iff.1 ht0
  exact hl
 have hrowl:=splitL_len 10 (textS p)
 have w3:=w2.on hx3
 refine zgo ?_
 refine WO.call rfl rfl rfl rfl plain_hsplit rfl (hsplit_ret (textS p) 10 _ (by omega)) fun v4 h4 ⟨hx4,ho4,hm4⟩=>?_
 have w4:=w3.on hx4
 generalize hrows:splitL 10 (textS p)=rows at *
 obtain ⟨ar,cr,hv4⟩:=ho4.rd.form
 subst hv4
 have hownp:ownN p.changes≤30:=by have:=ownN_le p.changes;have:=hpok.len;omega
 have hlA:(linesS (ps.take i)).length+(linesOfS p).length≤90:=by
  have e:(linesS (ps.take (i+1))).length≤(linesS ps).length:=by
   have:linesS ps=linesS (ps.take (i+1))++linesS (ps.drop (i+1)):=by
    unfold linesS
    rw [← List.flatMap_append,List.take_append_drop]
   rw [this,List.length_append];omega
  rw [hsn] at e
  simp [linesS] at e hnl ⊢
  omega
 have hdA:(deadN (ps.take i)).length+(delsOf p.changes).length≤1000:=by
  have one:∀ q∈ps,(delsOf q.changes).length≤30:=fun q hq=>Nat.le_trans dels_len (hinv.ok hq).len
  have tot:∀ l:List PatchD,(∀ q∈l,(delsOf q.changes).length≤30)→(deadN l).length≤30*l.length:=by
   intro l
   induction l with
   | nil=>intro _;simp [deadN]
   | cons q l ih =>
    intro hq
    have h1:=ih fun x hx=>hq x (List.mem_cons_of_mem _ hx)
    have h2:=hq q (by simp)
    simp only [deadN,List.flatMap_cons,List.length_append,List.length_cons] at h1 ⊢
    omega
  have h1:=tot (ps.take i) fun q hq=>one q (List.mem_of_mem_take hq)
  have h2:=one p hpm
  rw [List.length_take] at h1
  omega
 have hfin:∀ {s:SSt} {l:List (List UInt8)},SWays p.id s l ⟨(linesS (ps.take i)).map slOf++(linesOfS p).map slOf,deadN (ps.take i)++delsOf p.changes,ownN p.changes⟩→s.L.length+s.D.length+s.o≤1200:=fun {s l} hw=>by
  have:=swayl hw
  simp at this
  omega
 have hrb:∀ q,(Value.slice ar rows.length cr).ownBlock=some q→h3.size≤q∧q<h4.size:=fun q hq=>by
  refine ⟨?_,ho4.lt q hq⟩
  rcases hm4 q hq with e | e
  ·simp [Value.ownBlock] at e
  ·exact e
 have hz3:=hx3.size
 have hz4:=hx4.size
 refine zgo ?_
 refine Runs.loop (X:=SbX) (fun u=>[(0,.pointer (some ⟨a,0,none⟩)),(4,u.lv),(5,u.dv),(7,.int .i64 (p.id:Int)),(10,.int .i64 (u.o:Int)),(16,.slice (some ⟨b0,p0,none⟩) ps.length cap),(17,.int .i64 (ps.length:Int)),(18,.int .i64 (i:Int)),(29,.slice ar rows.length cr),(30,.int .i64 (rows.length:Int)),(31,.int .i64 (u.k:Int))])
  (fun u h'=>u.k≤rows.length∧Fr (fun q=>q<h3.size∨h4.size≤q) h4 h'∧SaJ h1 h' u.L u.D u.lv u.dv∧(∀ q,u.lv.ownBlock=some q→q<h3.size∨h4.size≤q)∧(∀ q,u.dv.ownBlock=some q→q<h3.size∨h4.size≤q)∧SWays p.id ⟨u.L,u.D,u.o⟩ (rows.drop u.k) ⟨(linesS (ps.take i)).map slOf++(linesOfS p).map slOf,deadN (ps.take i)++delsOf p.changes,ownN p.changes⟩) (fun u=>rows.length-u.k) ⟨0,0,lv,dv,_,_⟩ ⟨rfl,rfl,rfl,rfl,rfl,rfl,rfl,rfl,rfl,rfl,rfl,trivial⟩
  ⟨Nat.zero_le _,Fr.refl _ _,w4,fun q hq=>.inl (by have:=w2.l.lt q hq;omega),fun q hq=>.inl (by have:=w2.d.lt q hq;omega),hways⟩ ?_
 rintro ⟨k,o,lv2,dv2,L,D⟩ h5 ⟨hk,hf5,w5,hl5,hd5,hw5⟩ ih2
 dsimp only at hk hf5 w5 hl5 hd5 hw5 ih2 ⊢
 have hbd:=hfin hw5
 dsimp only at hbd
 have hz5:=hf5.size
 refine zgo ?_
 refine Runs.cond_dec rfl (fun hlt2=>?_) (fun hge2=>?_)
 rotate_left
 ·have hk':rows.drop k=[]:=List.drop_eq_nil_of_le (by omega)
  rw [hk'] at hw5
  simp only [SWays,SSt.mk.injEq] at hw5
  obtain ⟨e1,e2,_⟩:=hw5
  rw [← e1,← e2] at w5
  refine zgo ?_
  refine ih ⟨i+1,lv2,dv2⟩ _ _ (by dsimp only;omega) ⟨rfl,rfl,rfl,rfl,rfl,rfl,trivial⟩ ⟨by dsimp only;omega,?_⟩
  dsimp only
  have e3:linesS (ps.take i++[p])=linesS (ps.take i)++linesOfS p:=by simp [linesS]
  have e4:deadN (ps.take i++[p])=deadN (ps.take i)++delsOf p.changes:=by simp [deadN]
  rw [hsn,e3,e4,List.map_append]
  exact w5
 clear ih
 have hlt3:k<rows.length:=by omega
 have hgr:rows[k]? = some rows[k]:=List.getElem?_eq_getElem hlt3
 have hxm:rows[k]∈rows:=List.getElem_mem hlt3
 have hdr:rows.drop k=rows[k]::rows.drop (k+1):=List.drop_eq_getElem_cons hlt3
 generalize rows[k]=x at *
 rw [hdr] at hw5
 obtain ⟨s1,hxw,hrest⟩:=hw5
 have hxl:x.length≤1400:=by
  have:=sum_mem_le (l:=rows.map fun p=>p.length+1) (x:=x.length+1) (List.mem_map.2 ⟨x,hxm,rfl⟩)
  omega
 have hr5:Rd h5 1 (.slice ar rows.length cr) rows.length (strs rows):=ho4.rd.fr hf5 (fun q hq e=>by have:=hrb q hq;omega)
 obtain ⟨br,pr,capr,hvr,_,hcr⟩:=hr5.cell (strs_get hgr)
 cases hvr
 refine zgo ?_
 refine WO.call rfl rfl rfl rfl plain_hsplit rfl (hsplit_ret x 32 _ (by omega)) fun v6 h6 ⟨hx6,ho6,hm6⟩=>?_
 have w6:=w5.on hx6
 have hz6:=hx6.size
 have hf6:=hf5.ex hx6
 have hwb:∀ q,v6.ownBlock=some q→h5.size≤q∧q<h6.size:=fun q hq=>by
  refine ⟨?_,ho6.lt q hq⟩
  rcases hm6 q hq with e | e
  ·simp [Value.ownBlock] at e
  ·exact e
 rcases hxw with ⟨w,ws,hsp,hne1,hne2,rfl⟩ | ⟨r,hsp,rfl⟩ | ⟨u,d,t,ws,hxe,hsp,hwl,rfl⟩
 ·rw [hsp] at ho6
  obtain ⟨b6,p6,cap6,hv6,_,hcs⟩:=ho6.rd.pos (by simp)
  subst hv6
  have c0:=hcs 0 _ (strs_get (x:=w) rfl)
  have hd1:decide (w=[100,101,108])=false:=by simp [hne1]
  have hd2:decide (w=[97,100,100])=false:=by simp [hne2]
  refine zgo ?_
  rw [hd1]
  refine zgo ?_
  rw [hd2]
  refine zgo ?_
  exact ih2 ⟨k+1,o,lv2,dv2,L,D⟩ _ _ (by dsimp only;omega) ⟨rfl,rfl,rfl,rfl,rfl,rfl,rfl,rfl,rfl,rfl,rfl,trivial⟩ ⟨by dsimp only;omega,hf6,w6,hl5,hd5,hrest⟩
 ·rw [hsp] at ho6
  obtain ⟨b6,p6,cap6,hv6,_,hcs⟩:=ho6.rd.pos (by simp)
  subst hv6
  have c0:=hcs 0 _ (strs_get (x:=[100,101,108]) rfl)
  have c1:=hcs 1 _ (strs_get (x:=r) rfl)
  have hb6:=hwb b6 rfl
  refine zgo ?_
  refine zh (one_str _) w6.d ?_
  intro dv3 h7 r1 r2 r3
  have hz7:=r2.size
  have hbne:¬ dv2.ownBlock=some b6:=fun e=>by have:=w5.d.lt b6 e;omega
  replace c0:=r2.cell hbne c0
  clear c1 hcs
  refine zgo ?_
  exact ih2 ⟨k+1,o,lv2,dv3,L,D++[r]⟩ _ _ (by dsimp only;omega) ⟨rfl,rfl,rfl,rfl,rfl,rfl,rfl,rfl,rfl,rfl,rfl,trivial⟩ ⟨by dsimp only;omega,hf6.trans (r2.mono fun q _ e=>hd5 q e),w6.pushD r1 r2 r3,hl5,fun q hq=>by
   rcases r3 q hq with e | e
   ·exact hd5 q e
   ·exact .inr (by omega),hrest⟩
 ·rw [hsp] at ho6
  obtain ⟨b6,p6,cap6,hv6,_,hcs⟩:=ho6.rd.pos (by simp)
  subst hv6
  have c0:=hcs 0 _ (strs_get (x:=[97,100,100]) rfl)
  have c1:=hcs 1 _ (strs_get (x:=u) rfl)
  have c2:=hcs 2 _ (strs_get (x:=d) rfl)
  have hb6:=hwb b6 rfl
  have hxlen:x.length=4+u.length+1+d.length+1+t.length:=by rw [hxe];simp;omega
  have hdrop:x.drop (4+u.length+1+d.length+1)=t:=by
   rw [hxe,show ([97,100,100,32]++(u++32::(d++32::t)):List UInt8)=([97,100,100,32]++u++[32]++d++[32])++t by simp]
   exact List.drop_left' (by simp;omega)
  have hd3:decide ((3:Int)<((([97,100,100]::u::d::ws:List (List UInt8)).length:Nat):Int))=true:=by simp;omega
  refine zgo ?_
  rw [hd3]
  refine zgo ?_
  refine Runs.still mixed (by kernel_rfl) ?_
  refine zws ?_
  refine WS.val (ov_sslice_lo (i:=4+u.length+1+d.length+1) tab_ok rfl rfl rfl rfl (natOf_of (by omega)) (by omega)) rfl rfl rfl ?_
  refine zws ?_
  rw [hdrop]
  refine zgo ?_
  have hbne:¬ lv2.ownBlock=some b6:=fun e=>by have:=w5.l.lt b6 e;omega
  have hS0:Fr (fun q=>lv2.ownBlock=some q) h6 h6:=Fr.refl _ _
  refine Runs.drawn (m:=18) (fun h'=>Fr (fun q=>lv2.ownBlock=some q) h6 h') (fun _=>false) mixed rfl ?_
  refine zp 0 hS0 ?_
  refine zp 1 hS0 ?_
  refine zp 4 hS0 ?_
  refine zp 7 hS0 ?_
  refine WF.take 8 rfl (fun _ _=>ov_indexAddr tab_ok rfl rfl rfl rfl rfl rfl (by simp)) hS0 rfl rfl rfl (by kernel_rfl) ?_
  refine zl 9 (fun _ hS=>(hS.cell hbne c1)) hS0 ?_
  refine zp 10 hS0 ?_
  refine WF.take 11 rfl (fun _ _=>ov_indexAddr tab_ok rfl rfl rfl rfl rfl rfl (by simp)) hS0 rfl rfl rfl (by kernel_rfl) ?_
  refine zl 12 (fun _ hS=>(hS.cell hbne c2)) hS0 ?_
  refine zp 13 hS0 ?_
  have hdl1:=decS_len 4 p.id (by have:=hpok.id;omega)
  have hdl2:=decS_len 4 o (by omega)
  refine WF.call 2 (by kernel_rfl) rfl rfl rfl rfl rfl plain_hdigits rfl (hdigits_ret p.id _ (by have:=hpok.id;omega)) fun v7 h7 ⟨hx7,hv7⟩=>⟨.inr hx7.up,?_⟩
  subst hv7
  refine WF.take 3 rfl (fun _ _=>ov_sadd rfl rfl rfl (by simp;omega)) hx7.up rfl rfl rfl (by kernel_rfl) ?_
  refine WF.call 5 (by kernel_rfl) rfl rfl rfl rfl rfl plain_hdigits rfl (hdigits_ret o _ (by omega)) fun v8 h8 ⟨hx8,hv8⟩=>⟨.inr (hx7.trans hx8).up,?_⟩
  subst hv8
  have hx68:=hx7.trans hx8
  have w8:=w6.on hx68
  have hz8:=hx68.size
  refine WF.take 6 rfl (fun _ _=>ov_sadd rfl rfl rfl (by simp;omega)) hx68.up rfl rfl rfl (by kernel_rfl) ?_
  refine zp 14 hx68.up ?_
  refine WF.push 15 16 tab_ok (by kernel_rfl) (by kernel_rfl) rfl rfl rfl rfl rfl rfl rfl rfl rfl rfl rfl rfl rfl rfl rfl rfl rfl rfl rfl (by simp) (SL.one ⟨decS p.id++[46]++decS o,u,d,t⟩) w8.l (by omega) (fun h' hf=>hx68.up.trans hf) ?_
  intro lv3 h9 r1 r2 r3
  have hz9:=r2.size
  refine zx 17 ((hx68.up.trans r2)) ?_
  refine WF.done (by kernel_rfl) ?_
  refine zgo ?_
  exact ih2 ⟨k+1,o+1,lv3,dv2,L++[⟨decS p.id++[46]++decS o,u,d,t⟩],D⟩ _ _ (by dsimp only;omega) ⟨rfl,rfl,rfl,rfl,rfl,rfl,rfl,rfl,rfl,rfl,rfl,trivial⟩ ⟨by dsimp only;omega,(hf6.ex hx68).trans (r2.mono fun q _ e=>hl5 q e),w8.pushL (x:=⟨decS p.id++[46]++decS o,u,d,t⟩) r1 r2 r3,fun q hq=>by
   rcases r3 q hq with e | e
   ·exact hl5 q e
   ·exact .inr (by omega),hd5,hrest⟩
end Go.Proofs.YtlaffgagmncgjabDoor
