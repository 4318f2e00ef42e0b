import Derived.Test.YtlaffgagmncgjaaGreatDoorQ1
import Derived.Test.YtlaffgagmncgjaaGreatDoorK6
set_option maxRecDepth 20000
set_option maxHeartbeats 6400000
namespace Go.Proofs.YtlaffgagmncgjaaGreatDoor
open Tryz Go Go.Pat Go.Proofs
theorem WI.low {base:Nat} {h h':Heap} {wb c:Nat} {ρ:Nat→Nat} {w:WS1} (x:WI base h wb ρ c w) {S:Nat→Prop} (f:Fr S h h') (hS:∀ k,k<h.size→S k→ρ k=1000000000) (hc:c≤4000000):WI base h' wb (ext ρ h.size 0) c w:=by
 have k:=x.keep (ρ':=ext ρ h.size 0) f (fun q=>q=1000000000) (fun k hk e=>hS k hk e) (by omega) (fun k hk=>ext_lt hk)
 exact ⟨k.blk (by omega),k.wr,x.wbase,k.s (by omega),k.rs,k.t (by omega),k.rt,k.f (by omega),k.rf,k.i (by omega),k.ri,fun i s hi=>k.p i s hi (by have:=(List.getElem?_eq_some_iff.1 hi).1;have:=x.cs;omega) (by have:=(List.getElem?_eq_some_iff.1 hi).1;have:=x.cs;omega),k.tab,k.r0,x.cs,x.ct,x.cf,x.ci,x.tl,k.g (by omega) (by omega) (by omega),x.cl⟩
structure RS (base:Nat) (ρ0:Nat→Nat) (hB h':Heap) (c n:Nat):Prop where
 fr:Fr (fun k=>base≤k) hB h'
 wi:∃ ρ w,WI base h' base ρ c w∧(∀ k,k<base→ρ k=ρ0 k)∧w.S.length=n
theorem RS.ex {base:Nat} {ρ0:Nat→Nat} {hB h h':Heap} {c n:Nat} (r:RS base ρ0 hB h c n) (f:Ext h h'):RS base ρ0 hB h' c n:=by
 obtain ⟨ρ,w,x,hρ,hn⟩:=r.wi
 exact ⟨r.fr.trans f.up,_,w,x.exR f (fun k _=>rfl),hρ,hn⟩
structure RawX where
 (i:Nat) (F:Nat→Prop) (s:SP)
theorem raw_ret (l m:List (List UInt8)) (v u:Value) (q:Int) (h:Heap) (hv:Rd h 1 v l.length (strs l)) (hu:Rd h 1 u m.length (strs m)) (hb:l.length+kweight l+(m.length+kweight m)≤1048576) (ht:Tab10 h) :
  Ret Tryz.prog 14 #[v,.int .i64 q,u] h fun r h'=>Ext h h'∧r = .bool true:=by
 obtain ⟨av,cv,e⟩:=hv.form
 subst e
 obtain ⟨au,cu,e⟩:=hu.form
 subst e
 refine Ret.of_body func14 rfl ntmps14 rfl rfl ?_
 have hpos:=ht.lt
 refine zgo ?_
 refine Runs.cond_dec rfl (fun hq=>?_) (fun _=>?_)
 ·omega
 refine zgo ?_
 refine Runs.loop (X:=Nat) (fun i=>[(0,.slice av l.length cv),(1,.int .i64 q),(2,.slice au m.length cu),(7,.int .i64 ((l.length+m.length+kweight (l.take i):Nat):Int)),(34,.slice av l.length cv),(35,.int .i64 (l.length:Int)),(36,.int .i64 (i:Int))])
  (fun i h'=>h=h'∧i≤l.length) (fun i=>l.length-i) 0 ⟨rfl,rfl,rfl,rfl,rfl,rfl,rfl,trivial⟩ ⟨rfl,Nat.zero_le _⟩ ?_
 rintro i _ ⟨rfl,hi⟩ ih
 refine zgo ?_
 refine Runs.cond_dec rfl (fun hlt=>?_) (fun hge=>?_)
 ·have hlt':i<l.length:=by omega
  have hget:l[i]? = some l[i]:=List.getElem?_eq_getElem hlt'
  have hsn:kweight (l.take (i+1))=kweight (l.take i)+l[i].length:=by rw [List.take_succ_eq_append_getElem hlt',kweight_append];simp [kweight]
  have htot:kweight l=kweight (l.take (i+1))+kweight (l.drop (i+1)):=by rw [← kweight_append,List.take_append_drop]
  generalize l[i]=t at *
  obtain ⟨b0,p0,cap0,hv0,_,hcell⟩:=hv.cell (strs_get hget)
  cases hv0
  refine zgo ?_
  refine ih (i+1) _ _ (by omega) ⟨rfl,rfl,rfl,?_,rfl,rfl,rfl,trivial⟩ ⟨rfl,hlt'⟩
  rw [hsn]
  exact congrArg (fun z=>some (Value.int .i64 z)) (by omega)
 have hi':i=l.length:=by omega
 subst hi'
 rw [List.take_of_length_le (Nat.le_refl _)]
 clear ih hge hi
 refine zgo ?_
 refine Runs.loop (X:=Nat) (fun i=>[(0,.slice av l.length cv),(1,.int .i64 q),(2,.slice au m.length cu),(7,.int .i64 ((l.length+m.length+kweight l+kweight (m.take i):Nat):Int)),(45,.slice au m.length cu),(46,.int .i64 (m.length:Int)),(47,.int .i64 (i:Int))])
  (fun i h'=>h=h'∧i≤m.length) (fun i=>m.length-i) 0 ⟨rfl,rfl,rfl,rfl,rfl,rfl,rfl,trivial⟩ ⟨rfl,Nat.zero_le _⟩ ?_
 rintro i _ ⟨rfl,hi⟩ ih
 refine zgo ?_
 refine Runs.cond_dec rfl (fun hlt=>?_) (fun hge=>?_)
 ·have hlt':i<m.length:=by omega
  have hget:m[i]? = some m[i]:=List.getElem?_eq_getElem hlt'
  have hsn:kweight (m.take (i+1))=kweight (m.take i)+m[i].length:=by rw [List.take_succ_eq_append_getElem hlt',kweight_append];simp [kweight]
  have htot:kweight m=kweight (m.take (i+1))+kweight (m.drop (i+1)):=by rw [← kweight_append,List.take_append_drop]
  generalize m[i]=t at *
  obtain ⟨b0,p0,cap0,hv0,_,hcell⟩:=hu.cell (strs_get hget)
  cases hv0
  refine zgo ?_
  refine ih (i+1) _ _ (by omega) ⟨rfl,rfl,rfl,?_,rfl,rfl,rfl,trivial⟩ ⟨rfl,hlt'⟩
  rw [hsn]
  exact congrArg (fun z=>some (Value.int .i64 z)) (by omega)
 have hi':i=m.length:=by omega
 subst hi'
 rw [List.take_of_length_le (Nat.le_refl _)]
 clear ih hge hi
 refine zgo ?_
 refine Runs.cond_dec rfl (fun hq=>?_) (fun _=>?_)
 ·omega
 refine zgo ?_
 refine WO.call rfl rfl rfl rfl plain_xNew rfl (xNew_ret _) fun v1 h1 ⟨hx1,hz1,hv1,hb1⟩=>?_
 subst hv1
 refine zgo ?_
 refine WO.call rfl rfl rfl rfl plain_mNew rfl (mNew_ret _) fun v2 h2 ⟨hx2,hz2,hv2,hb2,hb3⟩=>?_
 subst hv2
 rw [hz1] at hb2 hb3
 rw [hz1]
 have hx12:=hx1.trans hx2
 refine zgo ?_
 refine zb fun h3 hp3 hx3 hs3=>?_
 have hz3:h2.size=h.size+3:=by omega
 rw [hz3] at hp3
 rw [hz3]
 have hp0:PairOK (fun k=>k=h.size+1) h3 ⟨h.size,h.size+2,.slice none 0 0,[],h.size+1,[]⟩:=PairOK.fr ⟨hb1.ext hx2,⟨(Own.nil h2 0 3).rd,by simp,fun q hq=>by simp [Value.ownBlock] at hq⟩,hb3,⟨.slice none 0 0,hb2.cells,(Own.nil h2 0 1).rd,PAs.nil _ _,rfl,fun q hq=>by simp [Value.ownBlock] at hq⟩,Inv.nil⟩ hx3 (by simp) (by simp) (by simp)
 have hx03:=hx12.trans hx3
 refine zgo ?_
 refine Runs.loop (X:=RawX) (fun x=>[(0,.slice av l.length cv),(1,.int .i64 q),(2,.slice au m.length cu),(12,.pointer (some ⟨h.size+3,0,none⟩)),(62,.slice av l.length cv),(63,.int .i64 (l.length:Int)),(64,.int .i64 (x.i:Int))])
  (fun x h'=>x.i≤l.length∧Fr (fun k=>k=h.size∨k=h.size+2) h3 h'∧x.s.xb=h.size∧x.s.mb=h.size+2∧PairOK x.F h' x.s∧(∀ k,x.F k→k≠h.size∧k≠h.size+2∧k<h'.size)∧Set1 x.s.ps) (fun x=>l.length-x.i) ⟨0,_,_⟩ ⟨rfl,rfl,rfl,rfl,rfl,rfl,rfl,trivial⟩
  ⟨Nat.zero_le _,Fr.refl _ _,rfl,rfl,hp0,fun k e=>by dsimp only at e;omega,Set1.nil⟩ ?_
 rintro ⟨i,F,s⟩ h4 ⟨hi,hf4,hsx,hsm,hp4,hF4,hset⟩ ih
 dsimp only at hi hf4 hsx hsm hp4 hF4 hset ih ⊢
 have hz4:=hf4.size
 have hx4:Ext h h4:=hx03.trans_new (hf4.mono fun k _ e=>.inr (by omega))
 have ht4:Tab10 h4:=ht.fr hx4 (by simp)
 have c0:cellAt h4 (h.size+3) (0+0)=some (.pointer (some ⟨s.xb,0,none⟩)):=by rw [hsx];exact hf4.cell (by omega) (hp3.cell (j:=0) rfl)
 have c1:cellAt h4 (h.size+3) (0+1)=some (.pointer (some ⟨s.mb,0,none⟩)):=by rw [hsm];exact hf4.cell (by omega) (hp3.cell (j:=1) rfl)
 refine zgo ?_
 refine Runs.cond_dec rfl (fun hlt=>?_) (fun hge=>?_)
 ·have hlt':i<l.length:=by omega
  have hget:l[i]? = some l[i]:=List.getElem?_eq_getElem hlt'
  have hmem:=kweight_mem (List.getElem_mem hlt')
  generalize l[i]=t at *
  obtain ⟨b0,p0,cap0,hv0,_,hcell⟩:=(hv.ext hx4).cell (strs_get hget)
  cases hv0
  refine zgo ?_
  refine WO.call rfl rfl rfl rfl plain_applied rfl (applied_ret (h.size+3) 0 s t _ c0 c1 hp4 (fun k e=>by have:=hF4 k e;omega) (fun k e=>by have:=hF4 k e;omega) (by omega) (by omega) ht4 (by omega)) fun v5 h5 ⟨hv5,hf5,s5,e1,e2,hp5,hG⟩=>?_
  subst hv5
  refine zgo ?_
  have hz5:=hf5.size
  refine ih ⟨i+1,_,s5⟩ _ _ (by dsimp only;omega) ⟨rfl,rfl,rfl,rfl,rfl,rfl,rfl,trivial⟩ ⟨hlt',hf4.trans (hf5.mono fun k _ e=>by omega),by dsimp only;omega,by dsimp only;omega,hp5,fun k e=>?_,?_⟩
  ·rcases e with e | e
   ·have:=hF4 k e;omega
   ·have:=e.1;have:=e.2;omega
  ·dsimp only
   rw [hG]
   rcases apply_cases s.ps t with ⟨e,_,he⟩ | ⟨p,hp⟩
   ·rw [he];exact hset
   ·rw [lets_apply hp];exact set_lets hset hp
 clear ih hge hi
 refine zgo ?_
 refine zb fun h5 hb5 hx5 hs5=>?_
 have hz4':h.size+4≤h4.size:=by omega
 obtain ⟨ρ0,hρ0⟩:∃ ρ0:Nat→Nat,ρ0=fun k=>if k=h4.size then 1 else if k=h.size∨k=h.size+2 then 1000000000 else 0:=⟨_,rfl⟩
 have r5:RS h4.size ρ0 h5 h5 0 0:=by
  refine ⟨Fr.refl _ _,ρ0,⟨[],[],[],.slice none 0 0,.slice none 0 0,.slice none 0 0,.slice none 0 0,0,[],.slice none 0 0,0,[]⟩,?_,fun _ _=>rfl,rfl⟩
  refine ⟨hb5,by rw [hρ0];exact if_pos rfl,Nat.le_refl _,Own.nil _ _ _,fun k hk=>?_,Own.nil _ _ _,fun k hk=>?_,Fl.nil _,fun k hk=>?_,Own.nil _ _ _,fun k hk=>?_,fun i s hi=>by simp at hi,ht4.fr hx5 (by simp),by rw [hρ0];dsimp only;rw [if_neg (by omega),if_neg (by omega)],Nat.le_refl _,Nat.le_refl _,by simp,Nat.le_refl _,by simp,⟨Own.nil _ _ _,fun k hk=>?_,fun k v hk=>?_,fun k v hk=>?_⟩,Nat.le_refl _⟩<;>simp [Value.ownBlock] at hk
 have pair:∀ {h':Heap} {c n:Nat},RS h4.size ρ0 h5 h' c n→PairOK F h' s∧(∀ k,F k→k<h'.size)∧cellAt h' (h.size+3) (0+0)=some (.pointer (some ⟨s.xb,0,none⟩))∧cellAt h' (h.size+3) (0+1)=some (.pointer (some ⟨s.mb,0,none⟩)):=fun {h' c n} r=>by
  have hz:=r.fr.size
  exact ⟨(hp4.fr hx5 (by simp) (by simp) (by simp)).fr r.fr (by omega) (by omega) fun k hk e=>by have:=hF4 k hk;omega,fun k hk=>by have:=hF4 k hk;omega,r.fr.cell (by omega) (hx5.xc c0),r.fr.cell (by omega) (hx5.xc c1)⟩
 have arg:∀ {h':Heap} {c n:Nat},RS h4.size ρ0 h5 h' c n→Rd h' 1 (.slice au m.length cu) m.length (strs m):=fun {h' c n} r=>by
  obtain ⟨g1,g2⟩:=hu
  refine ⟨g1,?_⟩
  rcases g2 with e | ⟨b,p,cap,e1,e2,e3⟩
  ·exact .inl e
  ·refine .inr ⟨b,p,cap,e1,e2,fun j y hj=>?_⟩
   have hc:=e3 j y hj
   have:=lt_of_cell hc
   exact r.fr.cell (by omega) ((hx4.trans hx5).xc hc)
 obtain ⟨pk,pF,d0,d1⟩:=pair r5
 obtain ⟨ρ5,w5,x5,l5,n5⟩:=r5.wi
 refine zgo ?_
 refine WO.call rfl rfl rfl rfl plain_shown rfl (shown_ret x5 (by omega) (h.size+3) 0 s pk pF d0 d1) fun v6 h6 ⟨hv6,hf6,ρ6,w6,x6,l6,n6⟩=>?_
 subst hv6
 have r6:RS h4.size ρ0 h5 h6 2 0:=⟨r5.fr.trans hf6,ρ6,w6,x6,fun k hk=>(l6 k hk).trans (l5 k hk),by rw [n6];exact n5⟩
 clear pk pF d0 d1
 obtain ⟨pk,pF,d0,d1⟩:=pair r6
 refine zgo ?_
 refine WO.call rfl rfl rfl rfl plain_logged rfl (logged_ret x6 (by omega) (h.size+3) 0 s pk d0 d1) fun v7 h7 ⟨hv7,hf7,ρ7,w7,x7,l7,n7⟩=>?_
 subst hv7
 have r7:RS h4.size ρ0 h5 h7 4 0:=⟨r6.fr.trans hf7,ρ7,w7,x7,fun k hk=>(l7 k hk).trans ((l6 k hk).trans (l5 k hk)),by rw [n7,n6];exact n5⟩
 clear pk pF d0 d1
 obtain ⟨pk,pF,d0,d1⟩:=pair r7
 refine zgo ?_
 refine WO.call rfl rfl rfl rfl plain_recorded rfl (recorded_ret x7 (by omega) (h.size+3) 0 s q pk pF d0 d1 m _ (arg r7) (by omega) (fun t ht=>by have:=kweight_mem ht;omega)) fun v8 h8 ⟨t8,hv8,_,hf8,_,ρ8,w8,x8,l8,n8⟩=>?_
 subst hv8
 have hf8':Fr (fun k=>h4.size≤k) h7 h8:=hf8.mono fun k _ e=>by
  rcases e with e | e
  ·omega
  ·exact (x7.g.rl k e).2.1
 have r8:RS h4.size ρ0 h5 h8 5 0:=⟨r7.fr.trans hf8',ρ8,w8,x8,fun k hk=>(l8 k hk).trans ((l7 k hk).trans ((l6 k hk).trans (l5 k hk))),by rw [n8,n7,n6];exact n5⟩
 clear pk pF d0 d1
 obtain ⟨pk,pF,d0,d1⟩:=pair r8
 refine zgo ?_
 refine WO.call rfl rfl rfl rfl plain_credited rfl (credited_ret x8 (by omega) (h.size+3) 0 s q pk pF d0 d1) fun v9 h9 ⟨hv9,hf9,ρ9,w9,x9,l9,n9⟩=>?_
 subst hv9
 have r9:RS h4.size ρ0 h5 h9 7 0:=⟨r8.fr.trans hf9,ρ9,w9,x9,fun k hk=>(l9 k hk).trans ((l8 k hk).trans ((l7 k hk).trans ((l6 k hk).trans (l5 k hk)))),by rw [n9,n8,n7,n6];exact n5⟩
 clear pk pF d0 d1 x5 x6 x7 x8 x9 hv
 obtain ⟨pk,pF,d0,d1⟩:=pair r9
 refine zgo ?_
 refine WO.call rfl rfl rfl rfl plain_mBundle rfl (mBundle_ret s.mb s.b s.bs s.ps _ pk.m pk.sa pk.inv) fun va ha ⟨hxa,hva⟩=>?_
 subst hva
 have ra:=r9.ex hxa
 clear pk pF d0 d1
 obtain ⟨pk,pF,d0,d1⟩:=pair ra
 refine zgo ?_
 refine WO.call rfl rfl rfl rfl plain_xBundle rfl (xBundle_ret itoaOK s.xb s.l s.lv _ (ht4.fr hx5 (by simp) |>.fr ra.fr (by omega)) pk.x pk.xs pk.inv) fun vb hb' ⟨hxb,hvb⟩=>?_
 subst hvb
 have rb:=ra.ex hxb
 rw [show bundleS (List.map PD3.p s.l)=bundleS s.ps from rfl]
 have htl:(bundleS s.ps).length≤1100000:=by
  have:=(bun_ok pk.inv s.ps.length (Nat.le_refl _)).tl
  have:=pk.inv.len
  unfold bundleS;omega
 have hld:(loadedS (bundleS s.ps)).1=0:=by rw [load_bundle hset]
 generalize bundleS s.ps=t at *
 have hdt:decide (t=t)=true:=by simp
 obtain ⟨ρb,wb,xb,lb,nb⟩:=rb.wi
 refine zgo ?_
 refine WO.call rfl rfl rfl rfl plain_loaded rfl (loaded_ret xb (by omega) t (by omega)) fun vc hc' ⟨hvc,hfc,ρc,wc,xc,lc,nc⟩=>?_
 subst hvc
 have rc:RS h4.size ρ0 h5 hc' 8 1:=⟨rb.fr.trans hfc,ρc,wc,xc,fun k hk=>(lc k hk).trans (lb k hk),by rw [nc hld,nb]⟩
 clear pk pF d0 d1
 obtain ⟨pk,pF,d0,d1⟩:=pair rc
 refine zgo ?_
 refine WO.call rfl rfl rfl rfl plain_unapplied rfl (unapplied_ret (h.size+3) 0 s q _ d0 d1 pk (fun k e=>by have:=hF4 k e;omega) (fun k e=>by have:=hF4 k e;omega) (by omega) (by omega)) fun vd hd' ⟨hvd,hfd,sd,e1,e2,hpd,_⟩=>?_
 subst hvd
 have hzd:=hfd.size
 have hzc:=rc.fr.size
 have xd:=xc.low hfd (fun k hk e=>by
  have hk4:k<h4.size:=by omega
  have:ρc k=ρ0 k:=(lc k hk4).trans (lb k hk4)
  rw [this,hρ0];dsimp only
  rw [if_neg (by omega),if_pos (by omega)]) (by omega)
 have g0:cellAt hd' (h.size+3) (0+0)=some (.pointer (some ⟨sd.xb,0,none⟩)):=by rw [e1];exact hfd.cell (by omega) d0
 have g1:cellAt hd' (h.size+3) (0+1)=some (.pointer (some ⟨sd.mb,0,none⟩)):=by rw [e2];exact hfd.cell (by omega) d1
 refine zgo ?_
 refine WO.call rfl rfl rfl rfl plain_shown rfl (shown_ret xd (by omega) (h.size+3) 0 sd hpd (fun k e=>by
  rcases e with e | e
  ·have:=pF k e;omega
  ·exact e.2) g0 g1) fun ve he' ⟨hve,hfe,ρe,we,xe,le,ne⟩=>?_
 subst hve
 refine zgo ?_
 refine WO.call rfl rfl rfl rfl plain_looks rfl (looks_ret xe (by omega)) fun vf hf' ⟨hxf,hvf⟩=>?_
 subst hvf
 have hS1:we.S.length=1:=by rw [ne,nc hld,nb]
 have w0:=(xe.blk.ext hxf).cell (j:=0) rfl
 have hrs:=xe.s.rd
 rw [hS1] at hrs
 obtain ⟨ae,ce,ee⟩:=hrs.form
 rw [ee] at w0
 refine zgo ?_
 rw [hdt]
 refine zgo ?_
 refine Runs.ret func14 (ret1 results14 rfl) ⟨?_,rfl⟩
 have hfin:Fr (fun k=>h.size≤k) h5 hf':=(((rc.fr.mono fun k _ e=>by omega).trans (hfd.mono fun k _ e=>by omega)).trans (hfe.mono fun k _ e=>by omega)).trans hxf.up
 exact (hx4.trans hx5).trans_new (hfin.mono fun k _ e=>.inr e)
end Go.Proofs.YtlaffgagmncgjaaGreatDoor
