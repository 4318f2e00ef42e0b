import Derived.Test.YtlaffgagmncgjabDoorK6
import Derived.Test.YtlaffgagmncgjabDoorK2
set_option maxRecDepth 20000
set_option maxHeartbeats 6400000
namespace Go.Pat
open Go
section
variable {P:Program} {n:Nat} {env:Env} {h:Heap} {o:Oper} {T:Tab}
theorem kox_append_fl {s x:Operand} {t e:TypeId} {xv:Value} {ad:Option Addr} {N m:Nat} {xs news:List Value} {i:TI} {sz by_:Nat} {z:Value} {K:Value→Heap→Prop} (hT:T.ok P)
  (ho:o.op = .call { callee:=.builtin .append,args:=#[s,x],argTypes:=#[t,t] }) (hs:env.ev? s=some (.slice ad N N)) (hx:env.ev? x=some xv)
  (ht:T.get? t=some ⟨sz,by_,z,.slice e⟩) (he:T.get? e=some i) (hz:i.zero.cells.size=i.size) (hsz:Nat.blt 0 i.size=true)
  (hbase:Rd h i.size (.slice ad N N) N xs) (hr:Rd h i.size xv m news) (h1:One news) (hb:(N+m)*(i.bytes+1)≤140737488355328)
  (hk:∀ v' h',Rd h' i.size v' (N+m) (xs++news)→Ext h h'→((m=0∧v' = .slice ad N N)∨(Own h' e i.size v' (N+m) (xs++news)∧v'.ownBlock=some h.size))→K v' h'):OpEx P n env o h K:=by
 rcases Nat.eq_zero_or_pos m with hm | hm
 ·subst hm
  have hnil:news=[]:=by have:=hr.1;simp at this;exact this
  subst hnil
  refine (ov_append_none hT ho hs hx ht he hr (Nat.le_refl _)).ex (hk _ _ ?_ (Fr.refl _ _) (.inl ⟨rfl,rfl⟩))
  simpa using hbase
 ·rcases hbase.2 with ⟨e1,e2⟩ | ⟨b,p,cap,e1,e2,e3⟩
  ·cases e1
   have hnil:xs=[]:=by have:=hbase.1;simp at this;exact this
   subst hnil
   refine ox_append hT ho hs hx ht he hz hsz (Own.nil h e i.size) hr h1 hb fun v' h' q1 q2 q3=>hk v' h' q1.rd ?_ (.inr ⟨q1,?_⟩)
   ·exact q2.mono fun k _ e=>by simp [Value.ownBlock] at e
   ·rcases q3 with q3 | q3
    ·rcases q1.2 with ⟨_,e⟩ | ⟨g,c,cur,e,_⟩
     ·omega
     ·subst e;simp [Value.ownBlock] at q3
    ·exact q3
  ·cases e1
   exact ox_append_full hT ho hs hx ht he hz hbase.1 e3 hr hm hb fun v' h' q1 q2 q3=>hk v' h' q1.rd q2 (.inr ⟨q1,q3⟩)
end
end Go.Pat
namespace Go.Proofs.YtlaffgagmncgjabDoor
open Go Go.Pat Go.Proofs
theorem plain_kpick:Plain Tryd.prog 26:=⟨_,Tryd.func26,by decide +kernel,by rfl⟩
theorem plain_kordered:Plain Tryd.prog 13:=⟨_,Tryd.func13,by decide +kernel,by rfl⟩
theorem kpick_ret (c:Int) (n:Nat) (h:Heap) (hc:-9223372036854775808≤c∧c≤9223372036854775807) (hn:0<n) (hn2:n≤9223372036854775807):Ret Tryd.prog 26 #[.int .i64 c,.int .i64 (n:Int)] h fun v h'=>h'=h∧∃ r:Nat,r<n∧v = .int .i64 (r:Int):=by
 refine Ret.of_body Tryd.func26 rfl Tryd.ntmps26 rfl rfl ?_
 obtain ⟨c1,c2⟩:=hc
 have fin:∀ d:Int,0≤d→∃ r:Nat,r<n∧Value.int .i64 (d % (n:Int)) = .int .i64 (r:Int):=fun d hd=>by
  have h1:=Int.emod_nonneg d (show (n:Int)≠0 by omega)
  have h2:=Int.emod_lt_of_pos d (show (0:Int)<(n:Int) by omega)
  refine ⟨(d % (n:Int)).toNat,by omega,?_⟩
  congr 1;omega
 refine zgo ?_
 refine Runs.cond_dec rfl (fun hneg=>?_) (fun hpos=>?_)
 ·refine zgo ?_
  refine WO.val (ov_neg rfl rfl (in_i64 (by omega) (by omega))) rfl rfl rfl ?_
  refine zgo ?_
  refine WO.val (ov_rem rfl rfl rfl (by omega) (by omega)) rfl rfl rfl ?_
  refine zgo ?_
  exact Runs.ret Tryd.func26 (ret1 Tryd.results26 rfl) ⟨rfl,fin _ (by omega)⟩
 ·refine zgo ?_
  refine WO.val (ov_rem rfl rfl rfl (by omega) (by omega)) rfl rfl rfl ?_
  refine zgo ?_
  exact Runs.ret Tryd.func26 (ret1 Tryd.results26 rfl) ⟨rfl,fin _ (by omega)⟩
theorem kBundle_ret {F:Nat→Prop} {a:Nat} {ps:List PatchD} {h:Heap} (ht:Tab10 h) (hs:Sto F h a ps) :
  Ret Tryd.prog 28 #[.pointer (some ⟨a,0,none⟩)] h fun v h'=>Ext h h'∧v = .string (str (bundleS ps)):=by
 obtain ⟨lv,l,h1,h2,h3,h4⟩:=hs
 subst h3
 exact xBundle_ret itoaOK a l lv h ht h1 h2 h4.inv
theorem bundle_len {ps:List PatchD} (h:Set1 ps):(bundleS ps).length≤28000:=by
 have:=(bun_ok h.inv ps.length (Nat.le_refl _)).tl
 have:=h.inv.len
 unfold bundleS;omega
section
variable {h h':Heap} {F:Nat→Prop} {b:Nat} {ps:List PatchD} {L:List (Nat × List PatchD)}
theorem KW.add (w:KW h F L) (f:Ext h h') (hb:h.size≤b) (hs:Sto (fun k=>New h h' k∧k≠b) h' b ps):KW h' (fun k=>F k∨(New h h' k∧k≠b)) ((b,ps)::L):=by
 have hl:∀ x∈L,x.1<h.size:=fun x hx=>(w.st x hx).lt
 have hz:=f.size
 have ht:=ktab_lt w.tab
 refine ⟨fun x hx=>?_,fun k hk=>?_,fun x hx k hk=>?_,?_,w.tab.fr f (by simp),fun x hx=>?_⟩
 ·rcases List.mem_cons.1 hx with e | e
  ·subst e;exact hs.mono fun k e=>.inr e
  ·exact ((w.st x e).ext f).mono fun k e=>.inl e
 ·rcases hk with e | e
  ·have:=w.lt k e;omega
  ·exact e.1.2
 ·rcases List.mem_cons.1 hx with e | e
  ·subst e
   rcases hk with e | e
   ·have:=w.lt k e;dsimp only;omega
   ·exact e.2
  ·rcases hk with e' | e'
   ·exact w.out x e k e'
   ·have:=hl x e;have:=e'.1.1;omega
 ·simp only [List.map_cons,List.nodup_cons]
  refine ⟨fun hm=>?_,w.nd⟩
  obtain ⟨x,hx,e⟩:=List.mem_map.1 hm
  have:=hl x hx;omega
 ·rcases List.mem_cons.1 hx with e | e
  ·subst e;dsimp only;omega
  ·exact w.pos x e
end
structure OrX where
 (c:Int) (iv:Value) (ids:List Nat) (bs:List PatchD) (F:Nat→Prop)
structure OrY where
 (t:Nat) (F:Nat→Prop)
theorem kordered_ret {F0:Nat→Prop} {a:Nat} {ps:List PatchD} {h:Heap} (w:KW h F0 [(a,ps)]) (c0:Int) (hc0:-9223372036854775808≤c0∧c0≤9223372036854775807) :
  Ret Tryd.prog 13 #[.pointer (some ⟨a,0,none⟩),.int .i64 c0] h fun v h'=>Ext h h'∧v = .bool true:=by
 refine Ret.of_body Tryd.func13 rfl Tryd.ntmps13 rfl rfl ?_
 have hset:=w.head.set
 have hla:=w.head.lt
 have h20:=hset.inv.len
 refine zgo ?_
 refine WO.call rfl rfl rfl rfl plain_xNew rfl (xNew_ret _) fun v1 h1 ⟨hx1,hz1,hv1,hb1⟩=>?_
 subst hv1
 have w1:=w.add hx1 (Nat.le_refl _) (ps:=[]) ⟨_,[],hb1,⟨(Own.nil h1 0 3).rd,by simp,fun k hk=>by simp [Value.ownBlock] at hk⟩,rfl,Set1.nil⟩
 obtain ⟨lv,l,b1,s1,p1,_⟩:=w1.st (a,ps) (by simp)
 have hll:l.length≤1000:=by have:=congrArg List.length p1;simp at this;omega
 refine zgo ?_
 refine WO.call rfl rfl rfl rfl plain_xLog rfl (xLog_ret a l lv _ b1 s1 hll) fun v2 h2 ⟨hx2,ho2,hm2⟩=>?_
 rw [p1] at ho2
 have w2:=w1.ext hx2
 have hnv:∀ k,v2.ownBlock=some k→k≠h.size:=fun k hk e=>by
  rcases hm2 k hk with e' | e'
  ·simp [Value.ownBlock] at e'
  ·omega
 have hx02:=hx1.trans hx2
 refine zgo ?_
 refine Runs.loop (X:=OrX) (fun u=>[(0,.pointer (some ⟨a,0,none⟩)),(1,.int .i64 u.c),(5,.pointer (some ⟨h.size,0,none⟩)),(6,u.iv)])
  (fun u h'=>(-9223372036854775808≤u.c∧u.c≤9223372036854775807)∧Ext h h'∧KW h' u.F [(h.size,u.bs),(a,ps)]∧Rd h' 1 u.iv u.ids.length (ints u.ids)∧(∀ k,u.iv.ownBlock=some k→k≠h.size)∧(∀ p∈u.bs,p∈ps)∧u.ids.Nodup∧(∀ n,n∈u.ids↔n∈ps.map PatchD.id∧n∉u.bs.map PatchD.id)∧u.ids.length≤20) (fun u=>u.ids.length) ⟨c0,v2,idsS ps,[],_⟩ ⟨rfl,rfl,rfl,rfl,trivial⟩
  ⟨hc0,hx02,w2,ho2.rd,hnv,by simp,hset.inv.nodup,fun n=>by simp [idsS],by simp [idsS];omega⟩ ?_
 rintro ⟨c,iv,ids,bs,F⟩ h3 ⟨hc,hx3,w3,hr3,hn3,hsub,hnd,hids,hil⟩ ih
 dsimp only at hc hx3 w3 hr3 hn3 hsub hnd hids hil ih ⊢
 obtain ⟨adi,capi,hiv⟩:=hr3.form
 subst hiv
 have hbset:=w3.head.set
 refine zgo ?_
 refine Runs.cond_dec rfl (fun hlt=>?_) (fun hge=>?_)
 rotate_left
 ·
  have hnil:ids=[]:=List.eq_nil_of_length_eq_zero (by omega)
  have hbs:bs=ps:=rise_ext hbset.rise hset.rise fun p=>⟨hsub p,fun hp=>by
   have hin:p.id∈bs.map PatchD.id:=Classical.byContradiction fun hno=>by
    have:=(hids p.id).2 ⟨List.mem_map.2 ⟨p,hp,rfl⟩,hno⟩
    rw [hnil] at this;simp at this
   obtain ⟨x,hx,e⟩:=List.mem_map.1 hin
   rw [← ids_inj hset.inv.nodup (hsub x hx) hp e];exact hx⟩
  subst hbs
  have hbl:=bundle_len hset
  refine zgo ?_
  refine WO.call rfl rfl rfl rfl plain_xBundle rfl (kBundle_ret w3.tab (w3.st (a,bs) (by simp))) fun v4 h4 ⟨hx4,hv4⟩=>?_
  subst hv4
  have w4:=w3.ext hx4
  refine zgo ?_
  refine WO.call rfl rfl rfl rfl plain_xLoad rfl (xLoad_ret itoaOK (bundleS bs) _ w4.tab (by omega)) fun v5 h5 ⟨hx5,hp5⟩=>?_
  rw [load_bundle hset] at hp5
  rcases hp5 with ⟨_,zb,zv,zl,hv5,hzb,hzb5,hzs,hzp⟩ | ⟨e,_⟩
  rotate_left
  ·exact absurd rfl e
  subst hv5
  have w5:=w4.add hx5 hzb (ps:=bs) ⟨zv,zl,hzb5,hzs,hzp,hset⟩
  have hx05:=(hx3.trans hx4).trans hx5
  refine zgo ?_
  refine WO.call rfl rfl rfl rfl plain_kalike rfl (kalike_ret (w5.st (a,bs) (by simp)) w5.head w5.lt) fun v6 h6 ⟨hx6,hv6⟩=>?_
  subst hv6
  have w6:=w5.ext hx6
  refine zgo ?_
  refine WO.call rfl rfl rfl rfl plain_xBundle rfl (kBundle_ret w6.tab w6.head) fun v7 h7 ⟨hx7,hv7⟩=>?_
  subst hv7
  have w7:=w6.ext hx7
  refine zgo ?_
  refine WO.call rfl rfl rfl rfl plain_xBundle rfl (kBundle_ret w7.tab (w7.st (h.size,bs) (by simp))) fun v8 h8 ⟨hx8,hv8⟩=>?_
  subst hv8
  have w8:=w7.ext hx8
  generalize bundleS bs=B
  have hd:decide (B=B)=true:=by simp
  refine zgo ?_
  rw [hd]
  refine zgo ?_
  refine WO.call rfl rfl rfl rfl plain_kalike rfl (kalike_ret (w8.st (a,bs) (by simp)) (w8.st (h.size,bs) (by simp)) w8.lt) fun v9 h9 ⟨hx9,hv9⟩=>?_
  subst hv9
  refine zgo ?_
  exact Runs.ret Tryd.func13 (ret1 Tryd.results13 rfl) ⟨(((hx05.trans hx6).trans hx7).trans hx8).trans hx9,rfl⟩
 have hpos:0<ids.length:=by omega
 refine zgo ?_
 refine WO.call rfl rfl rfl rfl plain_kpick rfl (kpick_ret c 1073741824 _ hc (by omega) (by omega)) fun v4 h4 ⟨hh4,r,hr,hv4⟩=>?_
 subst hh4 hv4
 refine zgo ?_
 refine WO.val (ov_rem rfl rfl rfl (by omega) (by omega)) rfl rfl rfl ?_
 have hc1:∃ c1:Nat,((r:Int)*31+7) % 1000003=(c1:Int)∧c1<1000003:=⟨(r*31+7) % 1000003,by omega,Nat.mod_lt _ (by omega)⟩
 obtain ⟨c1,ec1,hc1⟩:=hc1
 rw [ec1]
 refine zgo ?_
 refine WO.val (ov_rem rfl rfl rfl (by omega) (by omega)) rfl rfl rfl ?_
 rw [show ((c1:Int) % (ids.length:Int))=((c1 % ids.length:Nat):Int) by rw [Int.natCast_emod]]
 have hk0:c1 % ids.length<ids.length:=Nat.mod_lt _ hpos
 generalize c1 % ids.length=k0 at hk0
 obtain ⟨t0,ht0,hready⟩:∃ t0,t0<ids.length∧∀ p∈ps,ids[(k0+t0) % ids.length]? = some p.id→∀ n∈p.needs,n∈bs.map PatchD.id:=by
  have hlen:(bs.map PatchD.id).length<ps.length:=by
   apply Classical.byContradiction
   intro hge
   have hs:=(rise_sub hbset.rise hset.rise hsub)
   have hl:=hs.length_le
   rw [List.length_map] at hge
   have:=hs.eq_of_length (by omega)
   subst this
   obtain ⟨n,hn⟩:=List.exists_mem_of_length_pos hpos
   exact ((hids n).1 hn).2 ((hids n).1 hn).1
  obtain ⟨p,hp⟩:=next_ex hset.inv hlen
  obtain ⟨g1,g2,g3⟩:=next_some hp
  have hin:p.id∈ids:=(hids p.id).2 ⟨List.mem_map.2 ⟨p,g1,rfl⟩,g2⟩
  obtain ⟨j,hj,ej⟩:=List.getElem_of_mem hin
  refine ⟨(j+(ids.length-k0)) % ids.length,Nat.mod_lt _ hpos,fun q hq eq=>?_⟩
  have:(k0+(j+(ids.length-k0)) % ids.length) % ids.length=j:=by
   rw [Nat.add_mod_mod,show k0+(j+(ids.length-k0))=j+ids.length by omega,Nat.add_mod_right,Nat.mod_eq_of_lt hj]
  rw [this,List.getElem?_eq_getElem hj,ej] at eq
  have:=ids_inj hset.inv.nodup g1 hq (Option.some.inj eq)
  rw [← this];exact g3
 refine zgo ?_
 refine Runs.loop (X:=OrY) (fun u=>[(0,.pointer (some ⟨a,0,none⟩)),(1,.int .i64 (c1:Int)),(5,.pointer (some ⟨h.size,0,none⟩)),(6,.slice adi ids.length capi),(7,.int .i64 (((k0+u.t) % ids.length:Nat):Int)),(8,.int .i64 (u.t:Int))])
  (fun u h'=>u.t≤t0∧Ext h h'∧KW h' u.F [(h.size,bs),(a,ps)]∧Rd h' 1 (.slice adi ids.length capi) ids.length (ints ids)) (fun u=>t0-u.t) ⟨0,F⟩ ⟨rfl,rfl,rfl,rfl,by dsimp only;rw [Nat.add_zero,Nat.mod_eq_of_lt hk0];rfl,rfl,trivial⟩ ⟨Nat.zero_le _,hx3,w3,hr3⟩ ?_
 rintro ⟨t,F1⟩ h5 ⟨ht,hx5,w5,hr5⟩ ih2
 dsimp only at ht hx5 w5 hr5 ih2 ⊢
 have hz5:=w5.head.lt
 have hk:(k0+t) % ids.length<ids.length:=Nat.mod_lt _ hpos
 have hstep:((k0+t) % ids.length+1) % ids.length=(k0+(t+1)) % ids.length:=by rw [Nat.mod_add_mod];congr 1
 have hready':t=t0→∀ p∈ps,ids[(k0+t) % ids.length]? = some p.id→∀ n∈p.needs,n∈bs.map PatchD.id:=fun e=>by rw [e];exact hready
 generalize hkk:(k0+t) % ids.length=k at *
 have hget:ids[k]? = some ids[k]:=List.getElem?_eq_getElem hk
 obtain ⟨hin,hout⟩:=(hids ids[k]).1 (List.getElem_mem hk)
 obtain ⟨p,hp,hpe⟩:=List.mem_map.1 hin
 rw [← hpe] at hget hout
 obtain ⟨bi,pi,ci,hvi,hci,hcell⟩:=hr5.cell (ints_get hget)
 cases hvi
 refine zgo ?_
 refine WO.call rfl rfl rfl rfl plain_xText rfl (kText_ret w5.tab (w5.st (a,ps) (by simp)) (p.id:Int)) fun v6 h6 ⟨hx6,t6,e6,hv6,ht6⟩=>?_
 subst hv6
 obtain ⟨rfl,rfl⟩:=tx_fun hset.inv.nodup ht6 (.inl ⟨p,hp,rfl,rfl,rfl⟩)
 have w6:=w5.ext hx6
 have hpl:=text_1400 hset.inv hp
 refine zgo ?_
 refine WO.call rfl rfl rfl rfl plain_xApply rfl (kApply_ret w6.tab w6.head w6.outH (textS p) (by omega)) fun v7 h7 ⟨hf7,hv7,hs7⟩=>?_
 subst hv7
 have w7:=w6.op hf7 hs7
 clear hs7
 have hx7:Ext h h7:=(hx5.trans hx6).wr hf7 (Nat.le_refl _)
 have hr7:=(hr5.ext hx6).fr hf7 (fun q hq=>hn3 q hq)
 by_cases hrd:∀ n∈p.needs,n∈bs.map PatchD.id
 ·have hlets:=part_lets hset hbset hsub hp hout hrd
  rw [lets_apply hlets] at w7
  rw [lets_apply hlets]
  dsimp only at w7 ⊢
  have hcut:=hr7.cut (k+1) ids.length hk (Nat.le_refl _)
  have hnews:((ints ids).take (ids.length*1)).drop ((k+1)*1)=ints (ids.drop (k+1)):=by
   rw [List.take_of_length_le (by simp [ints]),Nat.mul_one];simp [ints,List.map_drop]
  rw [hnews] at hcut
  obtain ⟨bi',pi',ci',hvi',_,hcs7⟩:=hr7.pos hpos
  cases hvi'
  have hbase:Rd h7 1 (.slice (some ⟨bi,pi,none⟩) k k) k (ints (ids.take k)):=by
   refine ⟨by simp [ints];omega,.inr ⟨bi,pi,k,rfl,Nat.le_refl _,?_⟩⟩
   have:ints (ids.take k)=(ints ids).take k:=by simp [ints,List.map_take]
   rw [this];exact hcs7.take k
  have hone:One (ints (ids.drop (k+1))):=by
   intro u hu
   obtain ⟨z,_,rfl⟩:=List.mem_map.1 hu
   rfl
  have hlen':(ids.take k++ids.drop (k+1)).length=k+(ids.length-(k+1)):=by simp;omega
  have hz7:=hf7.size
  have hz6:=hx6.size
  refine zgo ?_
  refine Runs.drawn (m:=10) (fun h'=>Ext h7 h') (fun _=>false) mixed rfl ?_
  refine zp 0 (Fr.refl _ _) ?_
  refine zp 1 (Fr.refl _ _) ?_
  refine zp 2 (Fr.refl _ _) ?_
  refine WF.take 3 rfl (fun _ _=>ov_slice3 tab_ok rfl rfl rfl rfl rfl rfl rfl rfl (show k≤capi by omega)) (Fr.refl _ _) rfl rfl rfl (by kernel_rfl) ?_
  refine zp 4 (Fr.refl _ _) ?_
  refine zp 5 (Fr.refl _ _) ?_
  refine WF.take 6 rfl (fun _ _=>ov_add rfl rfl rfl (in_i64 (by omega) (by omega))) (Fr.refl _ _) rfl rfl rfl (by kernel_rfl) ?_
  refine WF.take 7 rfl (fun _ _=>ov_slice_lo tab_ok rfl rfl rfl rfl rfl rfl (show k+1≤ids.length by omega)) (Fr.refl _ _) rfl rfl rfl (by kernel_rfl) ?_
  refine WF.ex 8 (by kernel_rfl) rfl rfl rfl rfl (kox_append_fl tab_ok rfl rfl rfl rfl rfl rfl rfl hbase hcut hone (show (k+(ids.length-(k+1)))*9≤140737488355328 by omega) fun v8 h8 q1 q2 q3=>⟨.inr q2,?_⟩)
  obtain ⟨ad8,cap8,hv8⟩:=q1.form
  subst hv8
  refine zx 9 q2 ?_
  refine WF.done (by kernel_rfl) ?_
  refine zgo ?_
  have q1':Rd h8 1 (.slice ad8 (k+(ids.length-(k+1))) cap8) (ids.take k++ids.drop (k+1)).length (ints (ids.take k++ids.drop (k+1))):=by
   rw [ints_append,hlen'];exact q1
  have hnd2:(ids.take k++ids.drop (k+1)).Nodup:=by
   have hs:(ids.take k++ids.drop (k+1)).Sublist ids:=by
    have:=(List.Sublist.refl (ids.take k)).append (List.drop_sublist 1 (ids.drop k))
    rw [List.take_append_drop,List.drop_drop] at this
    exact this
   exact hs.nodup hnd
  have hsplit:ids=ids.take k++p.id::ids.drop (k+1):=by
   have e9:ids[k]=p.id:=hpe.symm
   rw [← e9,List.getElem_cons_drop,List.take_append_drop]
  refine ih ⟨(c1:Int),_,ids.take k++ids.drop (k+1),withS p bs,_⟩ _ _ (by dsimp only;rw [hlen'];omega) ⟨rfl,rfl,rfl,rfl,trivial⟩ ⟨by dsimp only;omega,hx7.trans q2,w7.ext q2,q1',fun q hq=>?_,fun x hx=>(withS_mem.1 hx).elim (fun e=>e ▸ hp) (hsub x),hnd2,fun n=>?_,by dsimp only;rw [hlen'];omega⟩
  ·rcases q3 with ⟨_,e⟩ | ⟨_,e⟩
   ·have e1:ad8=some ⟨bi,pi,none⟩:=(Value.slice.inj e).1
    rw [e1] at hq
    exact hn3 q hq
   ·have:some q=some h7.size:=by rw [← hq];exact e
    have:=Option.some.inj this
    omega
  ·dsimp only
   have hmem:n∈ids.take k++ids.drop (k+1)↔n∈ids∧n≠p.id:=by
    have hnd3:=hnd
    rw [hsplit,List.nodup_append] at hnd3
    obtain ⟨_,n2,n3⟩:=hnd3
    rw [List.nodup_cons] at n2
    constructor
    ·intro hm
     refine ⟨?_,fun e=>?_⟩
     ·rw [hsplit]
      rcases List.mem_append.1 hm with e | e
      ·exact List.mem_append_left _ e
      ·exact List.mem_append_right _ (List.mem_cons_of_mem _ e)
     ·subst e
      rcases List.mem_append.1 hm with e | e
      ·exact n3 _ e _ (by simp) rfl
      ·exact n2.1 e
    ·rintro ⟨hm,hne⟩
     rw [hsplit] at hm
     rcases List.mem_append.1 hm with e | e
     ·exact List.mem_append_left _ e
     ·rcases List.mem_cons.1 e with e | e
      ·exact absurd e hne
      ·exact List.mem_append_right _ e
   rw [hmem,hids n]
   constructor
   ·rintro ⟨⟨m1,m2⟩,m3⟩
    refine ⟨m1,fun hm=>?_⟩
    obtain ⟨x,hx,e⟩:=List.mem_map.1 hm
    rcases withS_mem.1 hx with e' | e'
    ·subst e';exact m3 e.symm
    ·exact m2 (List.mem_map.2 ⟨x,e',e⟩)
   ·rintro ⟨m1,m2⟩
    exact ⟨⟨m1,fun hm=>by
     obtain ⟨x,hx,e⟩:=List.mem_map.1 hm
     exact m2 (List.mem_map.2 ⟨x,withS_mem.2 (.inr hx),e⟩)⟩,fun e=>m2 (List.mem_map.2 ⟨p,withS_mem.2 (.inl rfl),e.symm⟩)⟩
 ·have hlt0:t<t0:=by
   apply Classical.byContradiction
   intro hge
   exact hrd (hready' (by omega) p hp hget)
  rw [part_needs hset hp hout hrd] at w7
  rw [part_needs hset hp hout hrd]
  dsimp only at w7 ⊢
  have hd:decide ((ids.length:Int)<(t:Int)+1)=false:=decide_eq_false (by omega)
  refine zgo ?_
  rw [hd]
  refine zgo ?_
  refine WO.val (ov_rem rfl rfl rfl (by omega) (by omega)) rfl rfl rfl ?_
  rw [show ((k:Int)+1) % (ids.length:Int)=(((k+1) % ids.length:Nat):Int) by rw [Int.natCast_emod];rfl,hstep]
  refine zgo ?_
  exact ih2 ⟨t+1,_⟩ _ _ (by dsimp only;omega) ⟨rfl,rfl,rfl,rfl,rfl,rfl,trivial⟩ ⟨hlt0,hx7,w7,hr7⟩
theorem kOrdered_ret (l:List (List UInt8)) (v:Value) (q:Int) (h:Heap) (hv:Texts h v l) (hq:-9223372036854775808≤q∧q≤9223372036854775807) (ht:Tab10 h) :
  Ret Tryd.prog 5 #[v,.int .i64 q] h fun r h'=>Ext h h'∧r = .bool true:=by
 refine Ret.of_body Tryd.func5 rfl Tryd.ntmps5 rfl rfl ?_
 refine zgo ?_
 refine WO.call rfl rfl rfl rfl plain_ksmall rfl (ksmall_ret l v _ hv.rd hv.len hv.each) fun v1 h1 ⟨hh1,r1,hv1,hr1⟩=>?_
 subst hh1 hv1
 cases r1
 ·refine zgo ?_
  exact Runs.ret Tryd.func5 (ret1 Tryd.results5 rfl) ⟨Fr.refl _ _,rfl⟩
 refine zgo ?_
 refine WO.call rfl rfl rfl rfl plain_kof rfl (kof_ret l v _ ht hv.rd (hr1 rfl)) fun v3 h3 ⟨hx3,hv3,F,ps,w3,hF3⟩=>?_
 subst hv3
 refine zgo ?_
 refine WO.call rfl rfl rfl rfl plain_kordered rfl (kordered_ret w3 q hq) fun v5 h5 ⟨hx5,hv5⟩=>?_
 subst hv5
 refine zgo ?_
 exact Runs.ret Tryd.func5 (ret1 Tryd.results5 rfl) ⟨hx3.trans hx5,rfl⟩
end Go.Proofs.YtlaffgagmncgjabDoor
