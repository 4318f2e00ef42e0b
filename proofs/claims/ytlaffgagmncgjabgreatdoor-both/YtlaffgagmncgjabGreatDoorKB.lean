import Derived.Test.YtlaffgagmncgjabGreatDoorB1
set_option maxRecDepth 20000
set_option maxHeartbeats 6400000
namespace Go.Proofs.YtlaffgagmncgjabGreatDoor
open Tryz Go Go.Pat Go.Proofs
theorem plain_kdigits:Plain Tryz.prog 65:=⟨_,func65,by decide +kernel,by rfl⟩
theorem plain_kput:Plain Tryz.prog 32:=⟨_,func32,by decide +kernel,by rfl⟩
theorem plain_kwithout:Plain Tryz.prog 31:=⟨_,func31,by decide +kernel,by rfl⟩
theorem one_strs (l:List (List UInt8)):One (strs l):=by
 intro u hu
 obtain ⟨z,_,rfl⟩:=List.mem_map.1 hu
 rfl
theorem kdigits_ret (k:Nat) (hk:k<10) (h:Heap):Ret Tryz.prog 65 #[.int .i64 (k:Int)] h fun v h'=>Ext h h'∧v = .string (str [UInt8.ofNat (48+k)]):=by
 refine Ret.of_body func65 rfl ntmps65 rfl rfl ?_
 refine zgo ?_
 refine WO.val (ov_rem rfl rfl rfl (by omega) (by omega)) rfl rfl rfl ?_
 refine WO.val (ov_add rfl rfl rfl (in_i64 (by omega) (by omega))) rfl rfl rfl ?_
 refine WO.val (ov_conv tab_ok rfl rfl rfl rfl (in_u8 (by omega) (by omega))) rfl rfl rfl ?_
 refine WO.ex rfl rfl rfl (ox_build1 tab_ok rfl rfl rfl rfl rfl rfl rfl rfl ?_)
 have hdig:(UInt8.ofNat (48+k)).toNat=48+k:=by rw [UInt8.toNat_ofNat'];omega
 refine WO.val (ov_bstr (l:=[UInt8.ofNat (48+k)]) tab_ok rfl rfl rfl rfl rfl ?_) rfl rfl rfl ?_
 ·have hc:=cells_push_new (h:=h) [Value.int .u8 (48+(k:Int) % 10)] 5 (0,0)
  have e:(([UInt8.ofNat (48+k)]:List UInt8).map fun (q:UInt8)=>Value.int .u8 (q.toNat:Int))=[Value.int .u8 (48+(k:Int) % 10)]:=by
   simp only [List.map_cons,List.map_nil,hdig]
   congr 2
   omega
  rw [e]
  exact hc
 generalize hh2:(h.push (.cells ([Value.int .u8 (48+(k:Int) % 10)]:List Value).toArray 5 (0,0)))=h2
 have hx2:Ext h h2:=by rw [← hh2];exact Fr.push _ _ _
 clear hh2
 refine zgo ?_
 refine Runs.cond_dec rfl (fun _=>?_) (fun hge=>?_)
 rotate_left
 ·omega
 refine zgo ?_
 exact Runs.ret func65 (ret1 results65 rfl) ⟨hx2,rfl⟩
theorem kput_ret (l:List (List UInt8)) (k:Nat) (x:List UInt8) (lv:Value) (h:Heap) (hr:Rd h 1 lv l.length (strs l)) (h0:0<l.length) (hk:k≤l.length) (hl:l.length≤1000) :
  Ret Tryz.prog 32 #[lv,.int .i64 (k:Int),.string (str x)] h fun v h'=>Ext h h'∧Rd h' 1 v (l.take k++x::l.drop k).length (strs (l.take k++x::l.drop k))∧∀ q,v.ownBlock=some q→h.size≤q:=by
 refine Ret.of_body func32 rfl ntmps32 rfl rfl ?_
 obtain ⟨b,p,cap,e,hcap,hcs⟩:=hr.pos h0
 subst e
 have hpre:Rd h 1 (.slice (some ⟨b,p,none⟩) k cap) k (strs (l.take k)):=by
  refine ⟨by simp [strs];omega,.inr ⟨b,p,cap,rfl,by omega,?_⟩⟩
  have:strs (l.take k)=(strs l).take k:=by simp [strs,List.map_take]
  rw [this];exact Cells.take hcs k
 have hcut:=hr.cut k l.length hk (Nat.le_refl _)
 have hnews:((strs l).take (l.length*1)).drop (k*1)=strs (l.drop k):=by
  rw [List.take_of_length_le (by simp [strs]),Nat.mul_one];simp [strs,List.map_drop]
 rw [hnews] at hcut
 refine zgo ?_
 refine WO.val (ov_slice_hi tab_ok rfl rfl rfl rfl rfl rfl (show k≤cap by omega)) rfl rfl rfl ?_
 refine WO.ex rfl rfl rfl (ox_append tab_ok rfl rfl rfl rfl rfl rfl rfl (Own.nil h _ _) hpre (one_strs _) (show (0+k)*17≤140737488355328 by omega) fun v1 h1 q1 q2 q3=>?_)
 have hx1:Ext h h1:=q2.mono fun _ _ e=>by simp [Value.ownBlock] at e
 have hz1:=hx1.size
 have hn1:∀ q,v1.ownBlock=some q→h.size≤q:=fun q hq=>by
  rcases q3 with e | e
  ·rw [hq] at e;simp [Value.ownBlock] at e
  ·rw [hq] at e;cases e;exact Nat.le_refl _
 refine zgo ?_
 refine zh (one_str x) q1 ?_
 intro v2 h2 r1 r2 r3
 have hx2:Ext h h2:=hx1.trans_new (r2.mono fun q _ e=>.inr (hn1 q e))
 have hn2:∀ q,v2.ownBlock=some q→h.size≤q:=fun q hq=>by
  rcases r3 q hq with e | e
  ·exact hn1 q e
  ·omega
 refine zgo ?_
 refine WO.val (ov_slice_lo tab_ok rfl rfl rfl rfl rfl rfl hk) rfl rfl rfl ?_
 refine WO.ex rfl rfl rfl (ox_append tab_ok rfl rfl rfl rfl rfl rfl rfl r1 (hcut.ext hx2) (one_strs _) (show (0+k+1+(l.length-k))*17≤140737488355328 by omega) fun v3 h3 s1 s2 s3=>?_)
 refine zgo ?_
 refine Runs.ret func32 (ret1 results32 rfl) ⟨hx2.trans_new (s2.mono fun q _ e=>.inr (hn2 q e)),?_,fun q hq=>?_⟩
 rotate_left
 ·have:=hx2.size
  rcases s3 with e | e
  ·rw [hq] at e;exact hn2 q e.symm
  ·rw [hq] at e;cases e;exact this
 have s:=s1.rd
 have e1:0+k+1+(l.length-k)=(l.take k++x::l.drop k).length:=by simp;omega
 rw [e1] at s
 rw [strs_append]
 simpa [strs] using s
theorem kwithout_ret (l:List (List UInt8)) (k:Nat) (lv:Value) (h:Heap) (hr:Rd h 1 lv l.length (strs l)) (h0:0<l.length) (hk:k<l.length) (hl:l.length≤1000) :
  Ret Tryz.prog 31 #[lv,.int .i64 (k:Int)] h fun v h'=>Ext h h'∧Rd h' 1 v (l.take k++l.drop (k+1)).length (strs (l.take k++l.drop (k+1)))∧∀ q,v.ownBlock=some q→h.size≤q:=by
 refine Ret.of_body func31 rfl ntmps31 rfl rfl ?_
 obtain ⟨b,p,cap,e,hcap,hcs⟩:=hr.pos h0
 subst e
 have hpre:Rd h 1 (.slice (some ⟨b,p,none⟩) k cap) k (strs (l.take k)):=by
  refine ⟨by simp [strs];omega,.inr ⟨b,p,cap,rfl,by omega,?_⟩⟩
  have:strs (l.take k)=(strs l).take k:=by simp [strs,List.map_take]
  rw [this];exact Cells.take hcs k
 have hcut:=hr.cut (k+1) l.length hk (Nat.le_refl _)
 have hnews:((strs l).take (l.length*1)).drop ((k+1)*1)=strs (l.drop (k+1)):=by
  rw [List.take_of_length_le (by simp [strs]),Nat.mul_one];simp [strs,List.map_drop]
 rw [hnews] at hcut
 refine zgo ?_
 refine WO.val (ov_slice_hi tab_ok rfl rfl rfl rfl rfl rfl (show k≤cap by omega)) rfl rfl rfl ?_
 refine WO.ex rfl rfl rfl (ox_append tab_ok rfl rfl rfl rfl rfl rfl rfl (Own.nil h _ _) hpre (one_strs _) (show (0+k)*17≤140737488355328 by omega) fun v1 h1 q1 q2 q3=>?_)
 have hx1:Ext h h1:=q2.mono fun _ _ e=>by simp [Value.ownBlock] at e
 have hz1:=hx1.size
 have hn1:∀ q,v1.ownBlock=some q→h.size≤q:=fun q hq=>by
  rcases q3 with e | e
  ·rw [hq] at e;simp [Value.ownBlock] at e
  ·rw [hq] at e;cases e;exact Nat.le_refl _
 refine zgo ?_
 refine WO.val (ov_slice_lo tab_ok rfl rfl rfl rfl rfl rfl (show k+1≤l.length by omega)) rfl rfl rfl ?_
 refine WO.ex rfl rfl rfl (ox_append tab_ok rfl rfl rfl rfl rfl rfl rfl q1 (hcut.ext hx1) (one_strs _) (show (0+k+(l.length-(k+1)))*17≤140737488355328 by omega) fun v3 h3 s1 s2 s3=>?_)
 refine zgo ?_
 refine Runs.ret func31 (ret1 results31 rfl) ⟨hx1.trans_new (s2.mono fun q _ e=>.inr (hn1 q e)),?_,fun q hq=>?_⟩
 rotate_left
 ·rcases s3 with e | e
  ·rw [hq] at e;exact hn1 q e.symm
  ·rw [hq] at e;cases e;exact hz1
 have s:=s1.rd
 have e1:0+k+(l.length-(k+1))=(l.take k++l.drop (k+1)).length:=by simp;omega
 rw [e1] at s
 rw [strs_append]
 simpa [strs] using s
end Go.Proofs.YtlaffgagmncgjabGreatDoor
namespace Go.Pat
open Go
theorem ret3 {fn:Func} {n:Nat} {env:Env} {h:Heap} {t u r:Nat} {v v' v'':Value} (hr:fn.results = #[.tmp t,.tmp u,.tmp r]) (hv:env.get? t=some v) (hv':env.get? u=some v') (hv'':env.get? r=some v'') {P:Program} (a:Act) (w:World) (ha:Sat n env a) (_:w.heap=h):(results fn a.tmps).run P w = .ok (.tuple #[v,v',v'']) w:=by
 have h1:=ha.known t _ hv
 have h2:=ha.known u _ hv'
 have h3:=ha.known r _ hv''
 simp [results,hr,Array.getD_eq_getD_getElem?,h1,h2,h3]
end Go.Pat
namespace Go.Proofs.YtlaffgagmncgjabGreatDoor
open Tryz Go Go.Pat Go.Proofs
theorem plain_kbegun:Plain Tryz.prog 29:=⟨_,func29,by decide +kernel,by rfl⟩
theorem plain_kchange:Plain Tryz.prog 30:=⟨_,func30,by decide +kernel,by rfl⟩
theorem bT_eq:∀ k,k<10→[98]++[UInt8.ofNat (48+k)]=bT k:=by decide
theorem bL_len (n:Nat):(bL n).length=n:=by simp [bL]
theorem bL_short {n:Nat}:∀ t∈bL n,t.length≤16777216:=fun t ht=>by
 obtain ⟨k,_,rfl⟩:=List.mem_map.1 ht
 simp [bT]
structure BgX where
 (i:Nat) (v:Value)
theorem kbegun_ret (n:Nat) (hn:2≤n∧n≤9) (h:Heap) (ht:Tab10 h):Ret Tryz.prog 29 #[.int .i64 (n:Int)] h fun v h'=>Ext h h'∧∃ s lv F,v = .tuple #[.pointer (some ⟨s,0,none⟩),lv,.bool true]∧h.size≤s∧KW h' F [(s,[pN n])]∧Rd h' 1 lv n (strs (bL n))∧(∀ q,lv.ownBlock=some q→q<s):=by
 refine Ret.of_body func29 rfl ntmps29 rfl rfl ?_
 have hpos:=ktab_lt ht
 refine zgo ?_
 refine Runs.loop (X:=BgX) (fun u=>[(0,.int .i64 (n:Int)),(5,u.v),(6,.int .i64 (u.i:Int))])
  (fun u h'=>u.i≤n∧Ext h h'∧Own h' 9 1 u.v u.i (strs (bL u.i))∧∀ q,u.v.ownBlock=some q→h.size≤q∧q<h'.size) (fun u=>n-u.i) ⟨0,.slice none 0 0⟩ ⟨rfl,rfl,rfl,trivial⟩ ⟨Nat.zero_le _,Fr.refl _ _,Own.nil _ _ _,fun q hq=>by simp [Value.ownBlock] at hq⟩ ?_
 rintro ⟨i,v⟩ h1 ⟨hi,hx1,ho1,hv1⟩ ih
 dsimp only at hi hx1 ho1 hv1 ih ⊢
 refine zgo ?_
 refine Runs.cond_dec rfl (fun hlt=>?_) (fun hge=>?_)
 ·refine zgo ?_
  refine WO.call rfl rfl rfl rfl plain_kdigits rfl (kdigits_ret i (by omega) _) fun v2 h2 ⟨hx2,hv2⟩=>?_
  subst hv2
  have hz2:=hx2.size
  refine zgo ?_
  refine zh (one_str _) (ho1.fr hx2 (by simp)) ?_
  intro v3 h3 r1 r2 r3
  have hz3:=r2.size
  refine zgo ?_
  refine ih ⟨i+1,v3⟩ _ _ (by dsimp only;omega) ⟨rfl,rfl,rfl,trivial⟩ ⟨by dsimp only;omega,(hx1.trans hx2).trans_new (r2.mono fun q _ e=>.inr (hv1 q e).1),?_,fun q hq=>?_⟩
  ·dsimp only
   have e:strs (bL (i+1))=strs (bL i)++[.string (str ([98]++[UInt8.ofNat (48+i)]))]:=by
    rw [bT_eq i (by omega)]
    simp [bL,strs,List.range_succ]
   rw [e]
   exact r1
  ·have:=hx1.size
   refine ⟨?_,r1.lt q hq⟩
   rcases r3 q hq with e | e
   ·exact (hv1 q e).1
   ·omega
 have hi':i=n:=by omega
 subst hi'
 clear ih hge
 refine zgo ?_
 refine WO.call rfl rfl rfl rfl plain_xNew rfl (xNew_ret _) fun v2 h2 ⟨hx2,hz2,hv2,hb2⟩=>?_
 subst hv2
 have hz1:=hx1.size
 have hx02:=hx1.trans hx2
 have hnew:Sto (fun _=>False) h2 h1.size []:=⟨_,[],hb2,⟨(Own.nil h2 0 3).rd,by simp,fun k hk=>by simp [Value.ownBlock] at hk⟩,rfl,Set1.nil⟩
 have w2:KW h2 (fun _=>False) [(h1.size,[])]:=⟨fun x hx=>by simp at hx;subst hx;exact hnew,fun _ e=>e.elim,fun _ _ _ e=>e.elim,by simp,ht.fr hx02 (by simp),fun x hx=>by simp at hx;subst hx;dsimp only;omega⟩
 have hr2:=(ho1.fr hx2 (by simp)).rd
 have hlen:=bL_len i
 refine zgo ?_
 refine WO.call rfl rfl rfl rfl plain_xRecord rfl (kRecord_ret w2.tab w2.head w2.lt 1 (bL i) _ (by rw [hlen];exact hr2) (by omega) bL_short) fun v3 h3 ⟨hx3,t,e,hv3,hrx⟩=>?_
 subst hv3
 obtain ⟨rfl,rfl,hap⟩:=begun_rec hn hrx
 have w3:=w2.ext hx3
 have hok:(textS (pN i)).length≤16777216:=by rcases eight hn with rfl | rfl | rfl | rfl | rfl | rfl | rfl | rfl<;>decide +kernel
 refine zgo ?_
 refine WO.call rfl rfl rfl rfl plain_xApply rfl (kApply_ret w3.tab w3.head w3.outH (textS (pN i)) hok) fun v4 h4 ⟨hf4,hv4,hs4⟩=>?_
 subst hv4
 have w4:=w3.op hf4 hs4
 clear hs4
 rw [hap] at w4
 rw [hap]
 dsimp only at w4 ⊢
 refine zgo ?_
 exact Runs.ret func29 (ret3 results29 rfl rfl rfl) ⟨(hx02.trans hx3).wr hf4 (by omega),_,_,_,rfl,by omega,w4,(hr2.ext hx3).fr hf4 (fun q hq e=>by have:=(hv1 q hq).2;omega),fun q hq=>(hv1 q hq).2⟩
theorem kchange_ret {F:Nat→Prop} {s n i id:Nat} {del:Bool} {x:UInt8} {L:List (Nat × List PatchD)} {h:Heap} (hn:2≤n∧n≤9) (hi:i<n) (hw:Who id x) (w:KW h F ((s,[pN n])::L)) (wv:Value) (hW:Rd h 1 wv (wB n i del x).length (strs (wB n i del x))) (hWx:∀ h',Fr (fun k=>k=s) h h'→Rd h' 1 wv (wB n i del x).length (strs (wB n i del x))) :
  Ret Tryz.prog 30 #[.pointer (some ⟨s,0,none⟩),.int .i64 (id:Int),wv] h fun v h'=>Fr (fun k=>k=s) h h'∧v = .bool true∧∃ F',KW h' F' ((s,[pN n,pX id i del x])::L):=by
 refine Ret.of_body func30 rfl ntmps30 rfl rfl ?_
 have hset:=w.head.set
 obtain ⟨aw,cw,e⟩:=hW.form
 subst e
 have hwl:(wB n i del x).length≤1000:=by cases del<;>simp [wB,bL]<;>omega
 have htl:∀ t∈wB n i del x,t.length≤16777216:=fun t ht=>by
  have key:∀ t,t∈bL n→t.length≤16777216:=bL_short
  cases del
  ·simp only [wB,Bool.false_eq_true,if_false,List.mem_append,List.mem_cons] at ht
   rcases ht with e | e | e
   ·exact key t (List.mem_of_mem_take e)
   ·subst e;simp
   ·exact key t (List.mem_of_mem_drop e)
  ·simp only [wB,if_true,List.mem_append] at ht
   rcases ht with e | e
   ·exact key t (List.mem_of_mem_take e)
   ·exact key t (List.mem_of_mem_drop e)
 obtain ⟨hap,hok⟩:=chkA_of (del:=del) hn hw hi
 refine zgo ?_
 refine WO.call rfl rfl rfl rfl plain_xRecord rfl (kRecord_ret w.tab w.head w.lt (id:Int) (wB n i del x) _ hW (by omega) htl) fun v1 h1 ⟨hx1,t,e,hv1,hrx⟩=>?_
 subst hv1
 obtain ⟨rfl,rfl⟩:=change_rec hn hw hi hrx
 rcases recX_out hset hrx with ⟨h0,_⟩ | ⟨h0,_⟩ | ⟨_,hok',sd,orx,c,k,hcW,hc0,hc30,htc⟩
 ·exact absurd rfl h0
 ·cases h0
 have htx:=text_14 (k.ok hc30)
 rw [← htc] at htx
 have hWok:∀ t∈c.W,textOk t=true:=by
  rw [hcW]
  unfold fileOk at hok
  rw [Bool.and_eq_true,List.all_eq_true] at hok
  exact hok.2
 have hlets:Lets [pN n] (textS (recP [pN n] c)) (recP [pN n] c):=by
  rcases k.taken hWok hc0 hc30 with e | e
  ·exact e
  ·rw [← htc,hap] at e;cases e
 have hst:withS (recP [pN n] c) [pN n]=[pN n,pX id i del x]:=by
  have:=lets_apply hlets
  rw [← htc,hap] at this
  exact (congrArg Prod.snd this).symm
 have s':=set_lets hset hlets
 have w1:=w.ext hx1
 refine zgo ?_
 refine WO.call rfl rfl rfl rfl plain_xApply rfl (kApply_ret w1.tab w1.head w1.outH (textS (pX id i del x)) (by omega)) fun v2 h2 ⟨hf2,hv2,hs2⟩=>?_
 subst hv2
 have w2:=w1.op hf2 hs2
 clear hs2
 rw [hap] at w2
 rw [hap]
 dsimp only at w2 ⊢
 have hf02:Fr (fun k=>k=s) h h2:=hx1.up.trans hf2
 refine zgo ?_
 refine WO.call rfl rfl rfl rfl plain_xFile rfl (kFile_ret w2.head w2.lt) fun v3 h3 ⟨hx3,sd3,orx3,hn3,hf3⟩=>?_
 rw [← hst] at hn3 hf3
 obtain ⟨g1,g2,_⟩:=rec_done k s' hn3
 rcases hf3 with ⟨hb3,_⟩ | ⟨_,f,hf,hof,_⟩
 ·rw [g1] at hb3;cases hb3
 subst hf
 rw [g2,hcW] at hof
 have hdW:decide (wB n i del x=wB n i del x)=true:=by simp
 refine zgo ?_
 refine WO.call rfl rfl rfl rfl plain_ksameTexts rfl (ksameTexts_ret (wB n i del x) (wB n i del x) _ _ h3 hof.rd (hWx _ (hf02.ex hx3)) (by omega) (by omega)) fun v4 h4 ⟨hh4,hv4⟩=>?_
 subst hh4 hv4
 rw [hdW]
 refine zgo ?_
 exact Runs.ret func30 (ret1 results30 rfl) ⟨hf02.ex hx3,rfl,_,w2.ext hx3⟩
end Go.Proofs.YtlaffgagmncgjabGreatDoor
namespace Go.Proofs.YtlaffgagmncgjabGreatDoor
open Tryz Go Go.Pat Go.Proofs
theorem pull_B {n i j:Nat} {a b:Bool} (hn:2≤n∧n≤9):pullS [pN n,pX 2 i a 120] [pN n,pX 3 j b 121]=(0,psB n i j a b):=by
 have f1:findS [pN n,pX 2 i a 120] (pN n).id=some (pN n):=rfl
 have f3:findS [pN n,pX 2 i a 120] (pX 3 j b 121).id=none:=rfl
 have hj:joinS [pN n,pX 2 i a 120] [pN n,pX 3 j b 121]=psB n i j a b:=rfl
 have hc:clashS [pN n,pX 2 i a 120] [pN n,pX 3 j b 121]=false:=by simp [clashS,clash1,f1,f3]
 have hl:(linesS (psB n i j a b)).length≤11:=by
  rw [lines_B hn]
  cases a<;>cases b<;>simp<;>omega
 unfold pullS
 rw [hc,hj,if_neg (by simp),if_neg (by simp [psB] at hl ⊢;omega)]
theorem kmet2_ret {F:Nat→Prop} {a b:Nat} {ps qs:List PatchD} {h:Heap} (ht:Tab10 h) (hs:Sto F h a ps) (ho:Sto F h b qs) (hab:a≠b) (hFa:∀ k,F k→k≠a) (hFb:∀ k,F k→k≠b) (hF:∀ k,F k→k<h.size) (h0a:0≠a) (he:(pullS ps qs).1=0) :
  Ret Tryz.prog 33 #[.pointer (some ⟨a,0,none⟩),.pointer (some ⟨b,0,none⟩)] h fun v h'=>Fr (fun k=>k=a∨k=b) h h'∧v = .bool true∧∃ F',Sto F' h' a (pullS ps qs).2∧∀ k,F' k→k<h'.size∧k≠a:=by
 refine Ret.of_body func33 rfl ntmps33 rfl rfl ?_
 have hla:=hs.lt
 have hlb:=ho.lt
 refine zgo ?_
 refine WO.call rfl rfl rfl rfl plain_ktwin rfl (ktwin_ret ht hs hF) fun v1 h1 ⟨hx1,hv1,hs1⟩=>?_
 subst hv1
 have hl1:=hs1.lt
 have hz1:=hx1.size
 refine zgo ?_
 refine WO.call rfl rfl rfl rfl plain_ktwin rfl (ktwin_ret (ht.fr hx1 (by simp)) (ho.ext hx1) (fun k hk=>by have:=hF k hk;omega)) fun v2 h2 ⟨hx2,hv2,ho2⟩=>?_
 subst hv2
 have hx02:=hx1.trans hx2
 have hz2:=hx2.size
 have hl2:=ho2.lt
 have hG:∃ G:Nat→Prop,(∀ k,F k→G k)∧(∀ k,G k→k<h2.size∧k≠a∧k≠b∧k≠h.size∧k≠h1.size)∧Sto G h2 h.size ps∧Sto G h2 h1.size qs:=by
  refine ⟨fun k=>F k∨(New h h1 k∧k≠h.size)∨(New h1 h2 k∧k≠h1.size),fun k e=>.inl e,fun k e=>?_,(hs1.ext hx2).mono fun k e=>?_,ho2.mono fun k e=>?_⟩
  ·rcases e with e | ⟨e1,e2⟩ | ⟨e1,e2⟩
   ·have:=hF k e;have:=hFa k e;have:=hFb k e;omega
   ·have:=e1.1;have:=e1.2;omega
   ·have:=e1.1;have:=e1.2;omega
  ·rcases e with e | e
   ·exact .inl e
   ·exact .inr (.inl e)
  ·rcases e with e | e
   ·exact .inl e
   ·exact .inr (.inr e)
 obtain ⟨G,hFG,hGn,hold,hpast⟩:=hG
 have hs2:=(hs.ext hx02).mono hFG
 have ho2':=(ho.ext hx02).mono hFG
 have ht2:=ht.fr hx02 (by simp)
 clear hs1 ho2
 refine zgo ?_
 refine WO.call rfl rfl rfl rfl plain_xPull rfl (kPull_ret ht2 hs2 ho2' (fun k hk=>(hGn k hk).2.1)) fun v3 h3 ⟨hf3,hv3,hs3⟩=>?_
 subst hv3
 have hz3:=hf3.size
 have hG3:∀ k,(G k∨New h2 h3 k)→k<h3.size∧k≠a∧k≠b∧k≠h.size∧k≠h1.size:=fun k e=>by
  rcases e with e | e
  ·have:=hGn k e;omega
  ·have:=e.1;have:=e.2;omega
 have ho3:=(ho2'.fr hf3 (fun e=>hab e.symm) (fun k hk=>(hGn k hk).2.1)).mono (F':=fun k=>G k∨New h2 h3 k) fun _ e=>.inl e
 have hold3:=(hold.fr hf3 (by omega) (fun k hk=>(hGn k hk).2.1)).mono (F':=fun k=>G k∨New h2 h3 k) fun _ e=>.inl e
 have hpast3:=(hpast.fr hf3 (by omega) (fun k hk=>(hGn k hk).2.1)).mono (F':=fun k=>G k∨New h2 h3 k) fun _ e=>.inl e
 have hf03:Fr (fun k=>k=a∨k=b) h h3:=(hx02.up).trans (hf3.mono fun k _ e=>.inl e)
 have hback:=pull_back hs.set ho.set he
 generalize (pullS ps qs).2=U at hs3 hback ⊢
 rw [he]
 refine zgo ?_
 refine WO.call rfl rfl rfl rfl plain_xPull rfl (kPull_ret (ht2.fr hf3 h0a) ho3 hs3 (fun k hk=>(hG3 k hk).2.2.1)) fun v4 h4 ⟨hf4,hv4,ho4⟩=>?_
 subst hv4
 rw [hback] at ho4
 rw [hback]
 have hz4:=hf4.size
 refine zgo ?_
 refine WO.call rfl rfl rfl rfl plain_kalike rfl (kalike_ret ((hs3.fr hf4 hab (fun k hk=>(hG3 k hk).2.2.1)).mono fun k e=>.inl e) ho4 (fun k hk=>?_)) fun v5 h5 ⟨hx5,hv5⟩=>?_
 ·rcases hk with e | e
  ·have:=hG3 k e;omega
  ·exact e.2
 subst hv5
 refine zgo ?_
 exact Runs.ret func33 (ret1 results33 rfl) ⟨(hf03.trans (hf4.mono fun k _ e=>.inr e)).ex hx5,rfl,_,(hs3.fr hf4 hab (fun k hk=>(hG3 k hk).2.2.1)).ext hx5,fun k hk=>by have:=hG3 k hk;have:=hx5.size;omega⟩
end Go.Proofs.YtlaffgagmncgjabGreatDoor
namespace Go.Proofs.YtlaffgagmncgjabGreatDoor
open Tryz Go Go.Pat Go.Proofs
theorem plain_kmeets:Plain Tryz.prog 34:=⟨_,func34,by decide +kernel,by rfl⟩
theorem kShow_ret {F:Nat→Prop} {a:Nat} {ps:List PatchD} {h:Heap} (hs:Sto F h a ps) (hF:∀ k,F k→k<h.size) :
  Ret Tryz.prog 56 #[.pointer (some ⟨a,0,none⟩)] h fun v h'=>Ext h h'∧∃ sd orx,NumX ps sd orx∧Own h' 9 1 v (showW (itemsX ps sd orx)).length (strs (showW (itemsX ps sd orx)))∧∀ k,v.ownBlock=some k→h.size≤k:=by
 obtain ⟨lv,l,h1,h2,h3,h4⟩:=hs
 subst h3
 exact xShow_ret a l lv h h1 h2 hF h4.inv
def fT (i k:Nat):List (List UInt8):=(if k=i then [[60],[124,120],[61],[124,121],[62]] else [])++[32::bT k]
def wT (i k:Nat):List (List UInt8):=(List.range k).flatMap (fT i)
theorem wT_succ (i k:Nat):wT i (k+1)=wT i k++fT i k:=by unfold wT;rw [List.range_succ,List.flatMap_append];simp
theorem wT_len (i k:Nat):(wT i k).length≤6*k:=by
 induction k with
 | zero=>simp [wT]
 | succ k ih =>
  rw [wT_succ,List.length_append]
  have:(fT i k).length≤6:=by unfold fT;split<;>simp
  omega
structure MeX where
 (k:Nat) (v:Value)
theorem kmeetsT_ret {F:Nat→Prop} {s n i:Nat} {h:Heap} (hn:2≤n∧n≤9) (hi:i<n) (hs:Sto F h s (psB n i i false false)) (hF:∀ k,F k→k<h.size) (lv:Value) (hl:Rd h 1 lv n (strs (bL n))) :
  Ret Tryz.prog 34 #[.pointer (some ⟨s,0,none⟩),lv,.bool false,.bool false,.int .i64 (i:Int),.int .i64 (i:Int)] h fun v h'=>Ext h h'∧v = .bool true:=by
 refine Ret.of_body func34 rfl ntmps34 rfl rfl ?_
 obtain ⟨al,cl,e⟩:=hl.form
 subst e
 have hd:decide ((i:Int)=(i:Int))=true:=by simp
 refine zgo ?_
 rw [hd]
 refine zgo ?_
 refine Runs.loop (X:=MeX) (fun u=>[(0,.pointer (some ⟨s,0,none⟩)),(4,.int .i64 (i:Int)),(13,u.v),(31,.slice al n cl),(32,.int .i64 (n:Int)),(33,.int .i64 (u.k:Int))])
  (fun u h'=>u.k≤n∧Ext h h'∧Own h' 9 1 u.v (wT i u.k).length (strs (wT i u.k))∧∀ q,u.v.ownBlock=some q→h.size≤q) (fun u=>n-u.k) ⟨0,.slice none 0 0⟩ ⟨rfl,rfl,rfl,rfl,rfl,rfl,trivial⟩ ⟨Nat.zero_le _,Fr.refl _ _,Own.nil _ _ _,fun q hq=>by simp [Value.ownBlock] at hq⟩ ?_
 rintro ⟨k,v⟩ h1 ⟨hk,hx1,ho1,hv1⟩ ih
 dsimp only at hk hx1 ho1 hv1 ih ⊢
 have hwl:=wT_len i k
 refine zgo ?_
 refine Runs.cond_dec rfl (fun hlt=>?_) (fun hge=>?_)
 ·have hlt':k<(bL n).length:=by rw [bL_len];omega
  have hget:(bL n)[k]? = some (bT k):=by rw [List.getElem?_eq_getElem hlt'];simp [bL]
  obtain ⟨b0,p0,cap0,hv0,_,hcell⟩:=(hl.ext hx1).cell (strs_get hget)
  cases hv0
  have fin:∀ (v2:Value) (h2:Heap) (A:List (List UInt8)),Ext h h2→Own h2 9 1 v2 A.length (strs A)→(∀ q,v2.ownBlock=some q→h.size≤q)→∀ v3 h3,Own h3 9 1 v3 (A.length+1) (strs A++[.string (str ([32]++bT k))])→Fr (fun q=>v2.ownBlock=some q) h2 h3→(∀ q,v3.ownBlock=some q→v2.ownBlock=some q∨h2.size≤q)→A++[32::bT k]=wT i (k+1) →
    k+1≤n∧Ext h h3∧Own h3 9 1 v3 (wT i (k+1)).length (strs (wT i (k+1)))∧∀ q,v3.ownBlock=some q→h.size≤q:=fun v2 h2 A hx2 _ hv2 v3 h3 o3 f3 n3 e=>by
   refine ⟨by omega,hx2.trans_new (f3.mono fun q _ e=>.inr (hv2 q e)),?_,fun q hq=>?_⟩
   ·rw [← e,strs_append,List.length_append];exact o3
   ·have:=hx2.size
    rcases n3 q hq with e | e
    ·exact hv2 q e
    ·omega
  refine zgo ?_
  refine Runs.cond_dec rfl (fun hki=>?_) (fun hki=>?_)
  ·refine zgo ?_
   refine WO.lit (strs [[60],[124,120],[61],[124,121],[62]]) tab_ok rfl rfl rfl rfl rfl rfl rfl rfl rfl rfl rfl rfl fun h2 hb2 hx2 hs2=>?_
   have hr2:Rd h2 1 (.slice (some ⟨h1.size,0,none⟩) 5 5) 5 (strs [[60],[124,120],[61],[124,121],[62]]):=⟨rfl,.inr ⟨h1.size,0,5,rfl,Nat.le_refl _,hb2.cells⟩⟩
   refine WO.ex rfl rfl rfl (ox_append tab_ok rfl rfl rfl rfl rfl rfl rfl (ho1.fr hx2 (by simp)) hr2 (one_strs _) (show ((wT i k).length+5)*17≤140737488355328 by omega) fun v3 h3 q1 q2 q3=>?_)
   have hx3:Ext h h3:=(hx1.trans hx2).trans_new (q2.mono fun q _ e=>.inr (hv1 q e))
   have hv3:∀ q,v3.ownBlock=some q→h.size≤q:=fun q hq=>by
    have:=hx1.size
    rcases q3 with e | e
    ·rw [hq] at e;exact hv1 q e.symm
    ·rw [hq] at e;cases e;omega
   have q1':Own h3 9 1 v3 (wT i k++[[60],[124,120],[61],[124,121],[62]]).length (strs (wT i k++[[60],[124,120],[61],[124,121],[62]])):=by rw [strs_append,List.length_append];exact q1
   refine zgo ?_
   refine WO.val (ov_sadd (p:=[32]) (q:=bT k) rfl rfl rfl (by simp [bT])) rfl rfl rfl ?_
   refine WO.push tab_ok rfl rfl rfl rfl rfl rfl rfl rfl rfl rfl rfl rfl rfl rfl rfl rfl rfl (by simp) (one_str _) q1' (by simp;omega) ?_
   intro v4 h4 r1 r2 r3
   refine zgo ?_
   exact ih ⟨k+1,v4⟩ _ _ (by dsimp only;omega) ⟨rfl,rfl,rfl,rfl,rfl,rfl,trivial⟩ (fin v3 h3 _ hx3 q1' hv3 v4 h4 r1 r2 r3 (by rw [wT_succ];simp [fT,show k=i by omega]))
  ·refine zgo ?_
   refine WO.val (ov_sadd (p:=[32]) (q:=bT k) rfl rfl rfl (by simp [bT])) rfl rfl rfl ?_
   refine zh (one_str _) ho1 ?_
   intro v4 h4 r1 r2 r3
   refine zgo ?_
   exact ih ⟨k+1,v4⟩ _ _ (by dsimp only;omega) ⟨rfl,rfl,rfl,rfl,rfl,rfl,trivial⟩ (fin v h1 _ hx1 ho1 hv1 v4 h4 r1 r2 r3 (by rw [wT_succ];simp [fT,show ¬ k=i by omega]))
 have hk':k=n:=by omega
 subst hk'
 clear ih hge
 have hs1:=hs.ext hx1
 have hF1:∀ q,F q→q<h1.size:=fun q hq=>by have:=hF q hq;have:=hx1.size;omega
 refine zgo ?_
 refine WO.call rfl rfl rfl rfl plain_xShow rfl (kShow_ret hs1 hF1) fun v2 h2 ⟨hx2,sd,orx,hnx,ho2,_⟩=>?_
 rw [show_T hn hi hnx] at ho2
 have hwt:wantT k i=wT i k:=rfl
 rw [hwt] at ho2
 refine zgo ?_
 refine WO.call rfl rfl rfl rfl plain_ksameTexts rfl (ksameTexts_ret (wT i k) (wT i k) v2 v _ ho2.rd (ho1.fr hx2 (by simp)).rd (by omega) (by omega)) fun v3 h3 ⟨hh3,hv3⟩=>?_
 have hv3':v3 = .bool true:=by rw [hv3];simp
 subst hh3 hv3'
 have hz2:=hx2.size
 refine zgo ?_
 refine WO.call rfl rfl rfl rfl plain_xClean rfl (kClean_ret (hs1.ext hx2) (fun q hq=>by have:=hF1 q hq;omega)) fun v4 h4 ⟨hx4,sd4,orx4,_,hv4⟩=>?_
 rw [blank_T hn hi] at hv4
 subst hv4
 refine zgo ?_
 exact Runs.ret func34 (ret1 results34 rfl) ⟨(hx1.trans hx2).trans hx4,rfl⟩
end Go.Proofs.YtlaffgagmncgjabGreatDoor
namespace Go.Proofs.YtlaffgagmncgjabGreatDoor
open Tryz Go Go.Pat Go.Proofs
theorem plain_kboth:Plain Tryz.prog 11:=⟨_,func11,by decide +kernel,by rfl⟩
def obX (i j:Nat) (b:Bool):Bool:=b&&(decide (j=i)||decide (j+1=i))
def xN (i j:Nat) (a b:Bool) (k:Nat):List (List UInt8):=if a=false∧k=i then [[if obX i j b=true then 33 else 32,120]] else []
def yN (i j:Nat) (a b:Bool) (k:Nat):List (List UInt8):=if b=false∧k=j then [[if obX j i a=true then 33 else 32,121]] else []
def zN (i j:Nat) (a b:Bool) (k:Nat):List (List UInt8):=if (a=true∧k=i)∨(b=true∧k=j) then [] else [32::bT k]
def fN (i j:Nat) (a b:Bool) (k:Nat):List (List UInt8):=xN i j a b k++(yN i j a b k++zN i j a b k)
theorem fN_eq (i j:Nat) (a b:Bool) (k:Nat):(rlK i j a b k).map (shB i j a b)=fN i j a b k:=by
 unfold rlK fN xN yN zN
 rw [List.map_append,List.map_append]
 congr 1
 ·split<;>simp [shB,obB,lnOf,lnP,obX]
 ·congr 1
  ·split<;>simp [shB,obB,lnOf,lnP,obX]
  ·split<;>simp [shB,obB,lnOf,lnN]
def wN (i j:Nat) (a b:Bool) (k:Nat):List (List UInt8):=(List.range k).flatMap (fN i j a b)
theorem wN_succ (i j:Nat) (a b:Bool) (k:Nat):wN i j a b (k+1)=wN i j a b k++xN i j a b k++yN i j a b k++zN i j a b k:=by
 unfold wN
 rw [List.range_succ,List.flatMap_append]
 simp [fN]
theorem wN_len (i j:Nat) (a b:Bool) (k:Nat):(wN i j a b k).length≤3*k:=by
 induction k with
 | zero=>simp [wN]
 | succ k ih =>
  rw [wN_succ]
  simp only [List.length_append]
  have h1:(xN i j a b k).length≤1:=by unfold xN;split<;>simp
  have h2:(yN i j a b k).length≤1:=by unfold yN;split<;>simp
  have h3:(zN i j a b k).length≤1:=by unfold zN;split<;>simp
  omega
theorem wN_show {n i j:Nat} {a b:Bool}:(RL n i j a b).map (shB i j a b)=wN i j a b n:=by
 unfold RL wN
 rw [List.map_flatMap]
 congr 1
 funext k
 exact fN_eq i j a b k
def MeJ (h:Heap) (A:List (List UInt8)) (v:Value) (h':Heap):Prop:=Ext h h'∧Own h' 9 1 v A.length (strs A)∧∀ q,v.ownBlock=some q→h.size≤q
theorem MeJ.push {h h1 h2:Heap} {A:List (List UInt8)} {x:List UInt8} {v1 v2:Value} (w:MeJ h A v1 h1) (o:Own h2 9 1 v2 (A.length+1) (strs A++[.string (str x)])) (f:Fr (fun q=>v1.ownBlock=some q) h1 h2) (nw:∀ q,v2.ownBlock=some q→v1.ownBlock=some q∨h1.size≤q):MeJ h (A++[x]) v2 h2:=by
 obtain ⟨w1,w2,w3⟩:=w
 refine ⟨w1.trans_new (f.mono fun q _ e=>.inr (w3 q e)),?_,fun q hq=>?_⟩
 ·rw [strs_append,List.length_append];exact o
 ·have:=w1.size
  rcases nw q hq with e | e
  ·exact w3 q e
  ·omega
theorem MeJ.nil {h h1:Heap} {A:List (List UInt8)} {v:Value} (w:MeJ h A v h1):MeJ h (A++[]) v h1:=by rw [List.append_nil];exact w
theorem kmeetsN_ret {F:Nat→Prop} {s n i j:Nat} {a b:Bool} {h:Heap} (hn:2≤n∧n≤9) (hi:i<n) (hj:j<n) (ht:¬ (a=false∧b=false∧i=j)) (hs:Sto F h s (psB n i j a b)) (hF:∀ k,F k→k<h.size) (lv:Value) (hl:Rd h 1 lv n (strs (bL n))) :
  Ret Tryz.prog 34 #[.pointer (some ⟨s,0,none⟩),lv,.bool a,.bool b,.int .i64 (i:Int),.int .i64 (j:Int)] h fun v h'=>Ext h h'∧v = .bool true:=by
 refine Ret.of_body func34 rfl ntmps34 rfl rfl ?_
 obtain ⟨al,cl,e⟩:=hl.form
 subst e
 refine zgo ?_
 refine WO.join (fun env' h'=>h=h'∧Sub [(0,.pointer (some ⟨s,0,none⟩)),(1,.slice al n cl),(2,.bool a),(3,.bool b),(4,.int .i64 (i:Int)),(5,.int .i64 (j:Int)),(13,.slice none 0 0),(30,.bool false)] env') ?_ ?_
 ·refine WO.split 22 _ rfl (fun q1=>?_) (fun q1=>?_)
  ·have q1':a=false:=by simpa using q1
   refine zgo ?_
   refine WO.split 26 _ rfl (fun q2=>?_) (fun q2=>?_)
   ·have q2':b=false:=by simpa using q2
    have hd:decide ((i:Int)=(j:Int))=false:=decide_eq_false fun e=>ht ⟨q1',q2',by omega⟩
    refine zgo ?_
    rw [hd]
    exact ⟨rfl,rfl,rfl,rfl,rfl,rfl,rfl,rfl,rfl,trivial⟩
   ·refine zgo ?_
    exact ⟨rfl,rfl,rfl,rfl,rfl,rfl,rfl,rfl,rfl,trivial⟩
  ·refine zgo ?_
   exact ⟨rfl,rfl,rfl,rfl,rfl,rfl,rfl,rfl,rfl,trivial⟩
 rintro env' _ ⟨rfl,hsub⟩
 refine Runs.sub hsub ?_
 clear hsub env'
 refine zgo ?_
 refine Runs.loop (X:=MeX) (fun u=>[(0,.pointer (some ⟨s,0,none⟩)),(2,.bool a),(3,.bool b),(4,.int .i64 (i:Int)),(5,.int .i64 (j:Int)),(13,u.v),(59,.slice al n cl),(60,.int .i64 (n:Int)),(61,.int .i64 (u.k:Int))])
  (fun u h'=>u.k≤n∧MeJ h (wN i j a b u.k) u.v h') (fun u=>n-u.k) ⟨0,.slice none 0 0⟩ ⟨rfl,rfl,rfl,rfl,rfl,rfl,rfl,rfl,rfl,trivial⟩ ⟨Nat.zero_le _,Fr.refl _ _,Own.nil _ _ _,fun q hq=>by simp [Value.ownBlock] at hq⟩ ?_
 rintro ⟨k,v⟩ h1 ⟨hk,w1⟩ ih
 dsimp only at hk w1 ih ⊢
 have hwl:=wN_len i j a b k
 have hx1:=w1.1
 refine zgo ?_
 refine Runs.cond_dec rfl (fun hlt=>?_) (fun hge=>?_)
 rotate_left
 ·have hk':k=n:=by omega
  subst hk'
  clear ih hge
  have ho1:=w1.2.1
  have hs1:=hs.ext hx1
  have hF1:∀ q,F q→q<h1.size:=fun q hq=>by have:=hF q hq;have:=hx1.size;omega
  refine zgo ?_
  refine WO.call rfl rfl rfl rfl plain_xShow rfl (kShow_ret hs1 hF1) fun v2 h2 ⟨hx2,sd,orx,hnx,ho2,_⟩=>?_
  rw [show_B hn hi hj ht hnx,wN_show] at ho2
  refine zgo ?_
  refine WO.call rfl rfl rfl rfl plain_ksameTexts rfl (ksameTexts_ret (wN i j a b k) (wN i j a b k) v2 v _ ho2.rd (ho1.fr hx2 (by simp)).rd (by omega) (by omega)) fun v3 h3 ⟨hh3,hv3⟩=>?_
  have hv3':v3 = .bool true:=by rw [hv3];simp
  subst hh3 hv3'
  refine zgo ?_
  exact Runs.ret func34 (ret1 results34 rfl) ⟨hx1.trans hx2,rfl⟩
 have hlt':k<(bL n).length:=by rw [bL_len];omega
 have hget:(bL n)[k]? = some (bT k):=by rw [List.getElem?_eq_getElem hlt'];simp [bL]
 obtain ⟨b0,p0,cap0,hv0,_,hcell⟩:=(hl.ext hx1).cell (strs_get hget)
 cases hv0
 have hsn:=wN_succ i j a b k
 have hnx:((k:Int)+1)=((k+1:Nat):Int):=rfl
 refine zgo ?_
 refine WO.join (fun env' h'=>h1=h'∧∃ c,Sub [(0,.pointer (some ⟨s,0,none⟩)),(2,.bool a),(3,.bool b),(4,.int .i64 (i:Int)),(5,.int .i64 (j:Int)),(13,v),(59,.slice (some ⟨b0,p0,none⟩) n cl),(60,.int .i64 (n:Int)),(61,.int .i64 (k:Int)),(16,.int .i64 (k:Int)),(17,.string (str (bT k))),(72,.bool c)] env'∧(c=true↔a=false∧k=i)) ?_ ?_
 ·refine WO.split 68 _ rfl (fun q1=>?_) (fun q1=>?_)
  ·have q1':a=false:=by simpa using q1
   refine zgo ?_
   exact ⟨rfl,_,⟨rfl,rfl,rfl,rfl,rfl,rfl,rfl,rfl,rfl,rfl,rfl,rfl,trivial⟩,by rw [decide_eq_true_iff];exact ⟨fun e=>⟨q1',by omega⟩,fun e=>by omega⟩⟩
  ·have q1':a=true:=by simpa using q1
   refine zgo ?_
   exact ⟨rfl,_,⟨rfl,rfl,rfl,rfl,rfl,rfl,rfl,rfl,rfl,rfl,rfl,rfl,trivial⟩,by simp [q1']⟩
 rintro env' _ ⟨rfl,c,hsub,hc⟩
 refine Runs.sub hsub ?_
 clear hsub env'
 refine zgo ?_
 refine Runs.joinK (fun env' h'=>∃ v',Sub [(0,.pointer (some ⟨s,0,none⟩)),(2,.bool a),(3,.bool b),(4,.int .i64 (i:Int)),(5,.int .i64 (j:Int)),(13,v'),(59,.slice (some ⟨b0,p0,none⟩) n cl),(60,.int .i64 (n:Int)),(61,.int .i64 (k:Int)),(16,.int .i64 (k:Int)),(17,.string (str (bT k)))] env'∧MeJ h (wN i j a b k++xN i j a b k) v' h') (fun _ hJ=>?_) ?_
 ·refine Runs.cond rfl (fun hct=>?_) (fun hcf=>?_)
  rotate_left
  ·have hno:¬ (a=false∧k=i):=fun e=>by rw [hc.2 e] at hcf;cases hcf
   refine zgo ?_
   refine hJ _ _ ⟨v,⟨rfl,rfl,rfl,rfl,rfl,rfl,rfl,rfl,rfl,rfl,rfl,trivial⟩,?_⟩
   unfold xN
   rw [if_neg hno]
   exact w1.nil
  have hyes:=hc.1 hct
  refine zgo ?_
  refine WO.join (fun env' h'=>h1=h'∧∃ d,Sub [(0,.pointer (some ⟨s,0,none⟩)),(2,.bool a),(3,.bool b),(4,.int .i64 (i:Int)),(5,.int .i64 (j:Int)),(13,v),(59,.slice (some ⟨b0,p0,none⟩) n cl),(60,.int .i64 (n:Int)),(61,.int .i64 (k:Int)),(16,.int .i64 (k:Int)),(17,.string (str (bT k))),(18,.string (str [32,120])),(84,.bool d)] env'∧d=obX i j b) ?_ ?_
  ·refine WO.split 74 _ rfl (fun q1=>?_) (fun q1=>?_)
   ·refine zgo ?_
    refine WO.split 78 _ rfl (fun q2=>?_) (fun q2=>?_)
    ·have q2:=of_decide_eq_true q2
     refine zgo ?_
     exact ⟨rfl,_,⟨rfl,rfl,rfl,rfl,rfl,rfl,rfl,rfl,rfl,rfl,rfl,rfl,rfl,trivial⟩,by simp [obX,q1,show j=i by omega]⟩
    ·have q2:=of_decide_eq_false q2
     refine zgo ?_
     refine ⟨rfl,_,⟨rfl,rfl,rfl,rfl,rfl,rfl,rfl,rfl,rfl,rfl,rfl,rfl,rfl,trivial⟩,?_⟩
     rw [Bool.eq_iff_iff,decide_eq_true_iff]
     simp [obX,q1,show ¬ j=i by omega]
     omega
   ·refine zgo ?_
    exact ⟨rfl,_,⟨rfl,rfl,rfl,rfl,rfl,rfl,rfl,rfl,rfl,rfl,rfl,rfl,rfl,trivial⟩,by simp [obX,q1]⟩
  rintro env' _ ⟨rfl,d,hsub,hd⟩
  refine Runs.sub hsub ?_
  clear hsub env'
  refine zgo ?_
  refine Runs.joinK (fun env' h'=>h1=h'∧Sub [(0,.pointer (some ⟨s,0,none⟩)),(2,.bool a),(3,.bool b),(4,.int .i64 (i:Int)),(5,.int .i64 (j:Int)),(13,v),(59,.slice (some ⟨b0,p0,none⟩) n cl),(60,.int .i64 (n:Int)),(61,.int .i64 (k:Int)),(16,.int .i64 (k:Int)),(17,.string (str (bT k))),(18,.string (str [if obX i j b=true then 33 else 32,120]))] env') (fun _ hJ2=>?_) ?_
  ·refine Runs.cond rfl (fun q=>?_) (fun q=>?_)
   ·rw [hd] at q
    refine zgo ?_
    exact hJ2 _ _ ⟨rfl,rfl,rfl,rfl,rfl,rfl,rfl,rfl,rfl,rfl,rfl,rfl,by rw [if_pos q];rfl,trivial⟩
   ·rw [hd] at q
    refine zgo ?_
    exact hJ2 _ _ ⟨rfl,rfl,rfl,rfl,rfl,rfl,rfl,rfl,rfl,rfl,rfl,rfl,by rw [if_neg (by rw [q];simp)];rfl,trivial⟩
  rintro env' _ ⟨rfl,hsub⟩
  refine Runs.sub hsub ?_
  clear hsub env'
  refine zgo ?_
  refine zh (one_str _) w1.2.1 ?_
  intro v4 h4 r1 r2 r3
  refine zgo ?_
  refine hJ _ _ ⟨v4,⟨rfl,rfl,rfl,rfl,rfl,rfl,rfl,rfl,rfl,rfl,rfl,trivial⟩,?_⟩
  unfold xN
  rw [if_pos hyes]
  exact w1.push r1 r2 r3
 clear hc c
 rintro env' h2 ⟨v2,hsub,w2⟩
 refine Runs.sub hsub ?_
 clear hsub env' hcell hx1
 have hl2:(wN i j a b k++xN i j a b k).length≤3*k+1:=by
  rw [List.length_append]
  have:(xN i j a b k).length≤1:=by unfold xN;split<;>simp
  omega
 refine zgo ?_
 refine WO.join (fun env' h'=>h2=h'∧∃ c,Sub [(0,.pointer (some ⟨s,0,none⟩)),(2,.bool a),(3,.bool b),(4,.int .i64 (i:Int)),(5,.int .i64 (j:Int)),(13,v2),(59,.slice (some ⟨b0,p0,none⟩) n cl),(60,.int .i64 (n:Int)),(61,.int .i64 (k:Int)),(16,.int .i64 (k:Int)),(17,.string (str (bT k))),(95,.bool c)] env'∧(c=true↔b=false∧k=j)) ?_ ?_
 ·refine WO.split 91 _ rfl (fun q1=>?_) (fun q1=>?_)
  ·have q1':b=false:=by simpa using q1
   refine zgo ?_
   exact ⟨rfl,_,⟨rfl,rfl,rfl,rfl,rfl,rfl,rfl,rfl,rfl,rfl,rfl,rfl,trivial⟩,by rw [decide_eq_true_iff];exact ⟨fun e=>⟨q1',by omega⟩,fun e=>by omega⟩⟩
  ·have q1':b=true:=by simpa using q1
   refine zgo ?_
   exact ⟨rfl,_,⟨rfl,rfl,rfl,rfl,rfl,rfl,rfl,rfl,rfl,rfl,rfl,rfl,trivial⟩,by simp [q1']⟩
 rintro env' _ ⟨rfl,c,hsub,hc⟩
 refine Runs.sub hsub ?_
 clear hsub env'
 refine zgo ?_
 refine Runs.joinK (fun env' h'=>∃ v',Sub [(0,.pointer (some ⟨s,0,none⟩)),(2,.bool a),(3,.bool b),(4,.int .i64 (i:Int)),(5,.int .i64 (j:Int)),(13,v'),(59,.slice (some ⟨b0,p0,none⟩) n cl),(60,.int .i64 (n:Int)),(61,.int .i64 (k:Int)),(16,.int .i64 (k:Int)),(17,.string (str (bT k)))] env'∧MeJ h (wN i j a b k++xN i j a b k++yN i j a b k) v' h') (fun _ hJ=>?_) ?_
 ·refine Runs.cond rfl (fun hct=>?_) (fun hcf=>?_)
  rotate_left
  ·have hno:¬ (b=false∧k=j):=fun e=>by rw [hc.2 e] at hcf;cases hcf
   refine zgo ?_
   refine hJ _ _ ⟨v2,⟨rfl,rfl,rfl,rfl,rfl,rfl,rfl,rfl,rfl,rfl,rfl,trivial⟩,?_⟩
   unfold yN
   rw [if_neg hno]
   exact w2.nil
  have hyes:=hc.1 hct
  refine zgo ?_
  refine WO.join (fun env' h'=>h2=h'∧∃ d,Sub [(0,.pointer (some ⟨s,0,none⟩)),(2,.bool a),(3,.bool b),(4,.int .i64 (i:Int)),(5,.int .i64 (j:Int)),(13,v2),(59,.slice (some ⟨b0,p0,none⟩) n cl),(60,.int .i64 (n:Int)),(61,.int .i64 (k:Int)),(16,.int .i64 (k:Int)),(17,.string (str (bT k))),(19,.string (str [32,121])),(107,.bool d)] env'∧d=obX j i a) ?_ ?_
  ·refine WO.split 97 _ rfl (fun q1=>?_) (fun q1=>?_)
   ·refine zgo ?_
    refine WO.split 101 _ rfl (fun q2=>?_) (fun q2=>?_)
    ·have q2:=of_decide_eq_true q2
     refine zgo ?_
     exact ⟨rfl,_,⟨rfl,rfl,rfl,rfl,rfl,rfl,rfl,rfl,rfl,rfl,rfl,rfl,rfl,trivial⟩,by simp [obX,q1,show i=j by omega]⟩
    ·have q2:=of_decide_eq_false q2
     refine zgo ?_
     refine ⟨rfl,_,⟨rfl,rfl,rfl,rfl,rfl,rfl,rfl,rfl,rfl,rfl,rfl,rfl,rfl,trivial⟩,?_⟩
     rw [Bool.eq_iff_iff,decide_eq_true_iff]
     simp [obX,q1,show ¬ i=j by omega]
     omega
   ·refine zgo ?_
    exact ⟨rfl,_,⟨rfl,rfl,rfl,rfl,rfl,rfl,rfl,rfl,rfl,rfl,rfl,rfl,rfl,trivial⟩,by simp [obX,q1]⟩
  rintro env' _ ⟨rfl,d,hsub,hd⟩
  refine Runs.sub hsub ?_
  clear hsub env'
  refine zgo ?_
  refine Runs.joinK (fun env' h'=>h2=h'∧Sub [(0,.pointer (some ⟨s,0,none⟩)),(2,.bool a),(3,.bool b),(4,.int .i64 (i:Int)),(5,.int .i64 (j:Int)),(13,v2),(59,.slice (some ⟨b0,p0,none⟩) n cl),(60,.int .i64 (n:Int)),(61,.int .i64 (k:Int)),(16,.int .i64 (k:Int)),(17,.string (str (bT k))),(19,.string (str [if obX j i a=true then 33 else 32,121]))] env') (fun _ hJ2=>?_) ?_
  ·refine Runs.cond rfl (fun q=>?_) (fun q=>?_)
   ·rw [hd] at q
    refine zgo ?_
    exact hJ2 _ _ ⟨rfl,rfl,rfl,rfl,rfl,rfl,rfl,rfl,rfl,rfl,rfl,rfl,by rw [if_pos q];rfl,trivial⟩
   ·rw [hd] at q
    refine zgo ?_
    exact hJ2 _ _ ⟨rfl,rfl,rfl,rfl,rfl,rfl,rfl,rfl,rfl,rfl,rfl,rfl,by rw [if_neg (by rw [q];simp)];rfl,trivial⟩
  rintro env' _ ⟨rfl,hsub⟩
  refine Runs.sub hsub ?_
  clear hsub env'
  refine zgo ?_
  refine zh (one_str _) w2.2.1 ?_
  intro v4 h4 r1 r2 r3
  refine zgo ?_
  refine hJ _ _ ⟨v4,⟨rfl,rfl,rfl,rfl,rfl,rfl,rfl,rfl,rfl,rfl,rfl,trivial⟩,?_⟩
  unfold yN
  rw [if_pos hyes]
  exact w2.push r1 r2 r3
 clear hc c w2 v2 w1
 rintro env' h3 ⟨v3,hsub,w3⟩
 refine Runs.sub hsub ?_
 clear hsub env'
 have hl3:(wN i j a b k++xN i j a b k++yN i j a b k).length≤3*k+2:=by
  rw [List.length_append]
  have:(yN i j a b k).length≤1:=by unfold yN;split<;>simp
  omega
 refine zgo ?_
 refine WO.join (fun env' h'=>h3=h'∧∃ c,Sub [(0,.pointer (some ⟨s,0,none⟩)),(2,.bool a),(3,.bool b),(4,.int .i64 (i:Int)),(5,.int .i64 (j:Int)),(13,v3),(59,.slice (some ⟨b0,p0,none⟩) n cl),(60,.int .i64 (n:Int)),(61,.int .i64 (k:Int)),(17,.string (str (bT k))),(127,.bool c)] env'∧(c=true↔¬ ((a=true∧k=i)∨(b=true∧k=j)))) ?_ ?_
 ·refine WO.split 113 _ rfl (fun q1=>?_) (fun q1=>?_)
  ·refine zgo ?_
   refine WO.split 119 _ rfl (fun q2=>?_) (fun q2=>?_)
   ·have q2':¬ ((k:Int)=(i:Int)):=by simpa using q2
    refine zgo ?_
    refine WO.split 121 _ rfl (fun q3=>?_) (fun q3=>?_)
    ·refine zgo ?_
     refine ⟨rfl,_,⟨rfl,rfl,rfl,rfl,rfl,rfl,rfl,rfl,rfl,rfl,rfl,trivial⟩,?_⟩
     simp [q1,q3]
     omega
    ·refine zgo ?_
     refine ⟨rfl,_,⟨rfl,rfl,rfl,rfl,rfl,rfl,rfl,rfl,rfl,rfl,rfl,trivial⟩,?_⟩
     simp [q1,q3]
     omega
   ·have q2':(k:Int)=(i:Int):=by simpa using q2
    refine zgo ?_
    refine ⟨rfl,_,⟨rfl,rfl,rfl,rfl,rfl,rfl,rfl,rfl,rfl,rfl,rfl,trivial⟩,?_⟩
    simp [q1]
    intro e
    omega
  ·refine zgo ?_
   refine WO.split 121 _ rfl (fun q3=>?_) (fun q3=>?_)
   ·refine zgo ?_
    refine ⟨rfl,_,⟨rfl,rfl,rfl,rfl,rfl,rfl,rfl,rfl,rfl,rfl,rfl,trivial⟩,?_⟩
    simp [q1,q3]
    omega
   ·refine zgo ?_
    refine ⟨rfl,_,⟨rfl,rfl,rfl,rfl,rfl,rfl,rfl,rfl,rfl,rfl,rfl,trivial⟩,?_⟩
    simp [q1,q3]
 rintro env' _ ⟨rfl,c,hsub,hc⟩
 refine Runs.sub hsub ?_
 clear hsub env'
 refine zgo ?_
 refine Runs.cond rfl (fun hct=>?_) (fun hcf=>?_)
 ·have hyes:=hc.1 hct
  refine zgo ?_
  refine WO.val (ov_sadd (p:=[32]) (q:=bT k) rfl rfl rfl (by simp [bT])) rfl rfl rfl ?_
  refine zh (one_str _) w3.2.1 ?_
  intro v4 h4 r1 r2 r3
  refine zgo ?_
  refine ih ⟨k+1,v4⟩ _ _ (by dsimp only;omega) ⟨rfl,rfl,rfl,rfl,rfl,rfl,rfl,rfl,rfl,trivial⟩ ⟨by dsimp only;omega,?_⟩
  dsimp only
  rw [hsn]
  unfold zN
  rw [if_neg hyes]
  exact w3.push r1 r2 r3
 ·have hno:(a=true∧k=i)∨(b=true∧k=j):=Classical.byContradiction fun e=>by rw [hc.2 e] at hcf;cases hcf
  refine zgo ?_
  refine ih ⟨k+1,v3⟩ _ _ (by dsimp only;omega) ⟨rfl,rfl,rfl,rfl,rfl,rfl,rfl,rfl,rfl,trivial⟩ ⟨by dsimp only;omega,?_⟩
  dsimp only
  rw [hsn]
  unfold zN
  rw [if_pos hno]
  exact w3.nil
end Go.Proofs.YtlaffgagmncgjabGreatDoor
namespace Go.Proofs.YtlaffgagmncgjabGreatDoor
open Tryz Go Go.Pat Go.Proofs
theorem KW.swap {h:Heap} {F:Nat→Prop} {x y:Nat × List PatchD} (w:KW h F [x,y]):KW h F [y,x]:=by
 have hm:∀ z,z∈[y,x]→z∈[x,y]:=fun z hz=>by simp at hz ⊢;exact hz.symm
 refine ⟨fun z hz=>w.st z (hm z hz),w.lt,fun z hz=>w.out z (hm z hz),?_,w.tab,fun z hz=>w.pos z (hm z hz)⟩
 have:=w.nd
 simp at this ⊢
 exact fun e=>this e.symm
theorem kmeets_ret {F:Nat→Prop} {s n i j:Nat} {a b:Bool} {h:Heap} (hn:2≤n∧n≤9) (hi:i<n) (hj:j<n) (hs:Sto F h s (psB n i j a b)) (hF:∀ k,F k→k<h.size) (lv:Value) (hl:Rd h 1 lv n (strs (bL n))) :
  Ret Tryz.prog 34 #[.pointer (some ⟨s,0,none⟩),lv,.bool a,.bool b,.int .i64 (i:Int),.int .i64 (j:Int)] h fun v h'=>Ext h h'∧v = .bool true:=by
 by_cases ht:a=false∧b=false∧i=j
 ·obtain ⟨rfl,rfl,rfl⟩:=ht
  exact kmeetsT_ret hn hi hs hF lv hl
 ·exact kmeetsN_ret hn hi hj ht hs hF lv hl
theorem wB_true (n i:Nat) (x:UInt8):(bL n).take i++(bL n).drop (i+1)=wB n i true x:=rfl
theorem wB_false (n i:Nat) (x:UInt8):(bL n).take i++[x]::(bL n).drop i=wB n i false x:=rfl
theorem kboth_ret (n0 i0 j0:Int) (hn0:-9223372036854775808≤n0∧n0≤9223372036854775807) (hi0:-9223372036854775808≤i0∧i0≤9223372036854775807) (hj0:-9223372036854775808≤j0∧j0≤9223372036854775807) (what:List UInt8) (hwh:what.length≤281474976710656) (h:Heap) (ht:Tab10 h) :
  Ret Tryz.prog 11 #[.int .i64 n0,.int .i64 i0,.int .i64 j0,.string (str what)] h fun v h'=>Ext h h'∧v = .bool true:=by
 refine Ret.of_body func11 rfl ntmps11 rfl rfl ?_
 refine zgo ?_
 refine WO.call rfl rfl rfl rfl plain_kpick rfl (kpick_ret n0 8 _ hn0 (by omega) (by omega)) fun v1 h1 ⟨hh1,r,hr,hv1⟩=>?_
 replace hh1:=hh1.symm
 subst hh1 hv1
 obtain ⟨n,hnr⟩:∃ n,n=2+r:=⟨_,rfl⟩
 have hn:2≤n∧n≤9:=by omega
 have hnr':(2:Int)+(r:Int)=(n:Int):=by omega
 refine WO.val (ov_add rfl rfl rfl (in_i64 (by omega) (by omega))) rfl rfl rfl ?_
 rw [hnr']
 clear hnr'
 refine zgo ?_
 refine WO.call rfl rfl rfl rfl plain_kbegun rfl (kbegun_ret n hn _ ht) fun v2 h2 ⟨hx2,s,lv,F2,hv2,hsz,w2,hl2,hlb⟩=>?_
 subst hv2
 have hs2:=w2.head.lt
 refine zgo ?_
 refine WO.call rfl rfl rfl rfl plain_ktwin rfl (ktwin_ret w2.tab w2.head w2.lt) fun v3 h3 ⟨hx3,hv3,hs3⟩=>?_
 subst hv3
 have w3:=w2.twin hx3 hs3
 clear hs3
 have hl3:=hl2.ext hx3
 have hz3:=hx3.size
 have hx03:=hx2.trans hx3
 generalize hbb:h2.size=b at *
 have hb3:b<h3.size:=(w3.swap.head).lt
 refine zgo ?_
 refine WO.join (fun env' h'=>h3=h'∧∃ c:Bool,Sub [(0,.int .i64 (n:Int)),(1,.int .i64 i0),(2,.int .i64 j0),(3,.string (str what)),(9,.pointer (some ⟨s,0,none⟩)),(10,lv),(12,.pointer (some ⟨b,0,none⟩)),(13,.bool c)] env') ?_ ?_
 ·refine WO.split 32 _ rfl (fun q1=>?_) (fun q1=>?_)
  ·have q1:=of_decide_eq_true q1
   have hget:what[0]? = some (what[0]'(by omega)):=List.getElem?_eq_getElem (by omega)
   refine zgo ?_
   refine WO.val (ov_rem rfl rfl rfl (by omega) (by omega)) rfl rfl rfl ?_
   refine zgo ?_
   exact ⟨rfl,_,rfl,rfl,rfl,rfl,rfl,rfl,rfl,rfl,trivial⟩
  ·refine zgo ?_
   exact ⟨rfl,_,rfl,rfl,rfl,rfl,rfl,rfl,rfl,rfl,trivial⟩
 rintro env' _ ⟨rfl,c,hsub⟩
 refine Runs.sub hsub ?_
 clear hsub env'
 refine zgo ?_
 refine WO.join (fun env' h'=>h3=h'∧∃ d:Bool,Sub [(0,.int .i64 (n:Int)),(1,.int .i64 i0),(2,.int .i64 j0),(9,.pointer (some ⟨s,0,none⟩)),(10,lv),(12,.pointer (some ⟨b,0,none⟩)),(13,.bool c),(14,.bool d)] env') ?_ ?_
 ·refine WO.split 41 _ rfl (fun q1=>?_) (fun q1=>?_)
  ·have q1:=of_decide_eq_true q1
   have hget:what[1]? = some (what[1]'(by omega)):=List.getElem?_eq_getElem (by omega)
   refine zgo ?_
   refine WO.val (ov_rem rfl rfl rfl (by omega) (by omega)) rfl rfl rfl ?_
   refine zgo ?_
   exact ⟨rfl,_,rfl,rfl,rfl,rfl,rfl,rfl,rfl,rfl,trivial⟩
  ·refine zgo ?_
   exact ⟨rfl,_,rfl,rfl,rfl,rfl,rfl,rfl,rfl,rfl,trivial⟩
 rintro env' _ ⟨rfl,d,hsub⟩
 refine Runs.sub hsub ?_
 clear hsub env' hwh
 refine zgo ?_
 refine WO.call rfl rfl rfl rfl plain_kpick rfl (kpick_ret i0 n _ hi0 (by omega) (by omega)) fun v4 h4 ⟨hh4,i,hi,hv4⟩=>?_
 replace hh4:=hh4.symm
 subst hh4 hv4
 refine zgo ?_
 refine WO.call rfl rfl rfl rfl plain_kpick rfl (kpick_ret j0 n _ hj0 (by omega) (by omega)) fun v5 h5 ⟨hh5,j,hj,hv5⟩=>?_
 replace hh5:=hh5.symm
 subst hh5 hv5
 have hlen:=bL_len n
 have hlv:∀ {h':Heap} {S:Nat→Prop} {x:Heap},Rd x 1 lv n (strs (bL n))→Fr S x h'→(∀ q,q<s→¬ S q)→Rd h' 1 lv n (strs (bL n)):=fun {h' S x} r f hS=>r.fr f fun q hq e=>hS q (hlb q hq) e
 refine zgo ?_
 refine Runs.joinK (fun env' h'=>Sub [(1,.int .i64 (i:Int)),(2,.int .i64 (j:Int)),(9,.pointer (some ⟨s,0,none⟩)),(10,lv),(11,.bool true),(12,.pointer (some ⟨b,0,none⟩)),(13,.bool c),(14,.bool d)] env'∧Fr (fun k=>k=s) h3 h'∧∃ F',KW h' F' [(s,[pN n,pX 2 i c 120]),(b,[pN n])]) (fun _ hJ=>?_) ?_
 ·refine Runs.cond rfl (fun hc=>?_) (fun hc=>?_)
  ·subst hc
   refine zgo ?_
   refine WO.call rfl rfl rfl rfl plain_kwithout rfl (kwithout_ret (bL n) i lv _ (by rw [hlen];exact hl3) (by omega) (by omega) (by omega)) fun v6 h6 ⟨hx6,hr6,hn6⟩=>?_
   rw [wB_true n i 120] at hr6
   have w6:=w3.ext hx6
   refine zgo ?_
   refine WO.call rfl rfl rfl rfl plain_kchange rfl (kchange_ret (id:=2) hn hi (.inl ⟨rfl,rfl⟩) w6 v6 hr6 (fun h' f=>hr6.fr f fun q hq e=>by have:=hn6 q hq;omega)) fun v7 h7 ⟨hf7,hv7,F7,w7⟩=>?_
   subst hv7
   refine zgo ?_
   exact hJ _ _ ⟨⟨rfl,rfl,rfl,rfl,rfl,rfl,rfl,rfl,trivial⟩,hx6.up.trans hf7,F7,w7⟩
  ·subst hc
   refine zgo ?_
   refine WO.call rfl rfl rfl rfl plain_kput rfl (kput_ret (bL n) i [120] lv _ (by rw [hlen];exact hl3) (by omega) (by omega) (by omega)) fun v6 h6 ⟨hx6,hr6,hn6⟩=>?_
   rw [wB_false n i 120] at hr6
   have w6:=w3.ext hx6
   refine zgo ?_
   refine WO.call rfl rfl rfl rfl plain_kchange rfl (kchange_ret (id:=2) hn hi (.inl ⟨rfl,rfl⟩) w6 v6 hr6 (fun h' f=>hr6.fr f fun q hq e=>by have:=hn6 q hq;omega)) fun v7 h7 ⟨hf7,hv7,F7,w7⟩=>?_
   subst hv7
   refine zgo ?_
   exact hJ _ _ ⟨⟨rfl,rfl,rfl,rfl,rfl,rfl,rfl,rfl,trivial⟩,hx6.up.trans hf7,F7,w7⟩
 rintro env' h6 ⟨hsub,hf6,F6,w6⟩
 refine Runs.sub hsub ?_
 clear hsub env'
 have hl6:=hlv hl3 hf6 (fun q hq e=>by omega)
 have hz6:=hf6.size
 refine zgo ?_
 refine Runs.joinK (fun env' h'=>Sub [(1,.int .i64 (i:Int)),(2,.int .i64 (j:Int)),(9,.pointer (some ⟨s,0,none⟩)),(10,lv),(11,.bool true),(12,.pointer (some ⟨b,0,none⟩)),(13,.bool c),(14,.bool d),(15,.bool true)] env'∧Fr (fun k=>k=b) h6 h'∧∃ F',KW h' F' [(b,[pN n,pX 3 j d 121]),(s,[pN n,pX 2 i c 120])]) (fun _ hJ=>?_) ?_
 ·refine Runs.cond rfl (fun hc=>?_) (fun hc=>?_)
  ·subst hc
   refine zgo ?_
   refine WO.call rfl rfl rfl rfl plain_kwithout rfl (kwithout_ret (bL n) j lv _ (by rw [hlen];exact hl6) (by omega) (by omega) (by omega)) fun v7 h7 ⟨hx7,hr7,hn7⟩=>?_
   rw [wB_true n j 121] at hr7
   have w7:=w6.swap.ext hx7
   refine zgo ?_
   refine WO.call rfl rfl rfl rfl plain_kchange rfl (kchange_ret (id:=3) hn hj (.inr ⟨rfl,rfl⟩) w7 v7 hr7 (fun h' f=>hr7.fr f fun q hq e=>by have:=hn7 q hq;omega)) fun v8 h8 ⟨hf8,hv8,F8,w8⟩=>?_
   subst hv8
   refine zgo ?_
   exact hJ _ _ ⟨⟨rfl,rfl,rfl,rfl,rfl,rfl,rfl,rfl,rfl,trivial⟩,hx7.up.trans hf8,F8,w8⟩
  ·subst hc
   refine zgo ?_
   refine WO.call rfl rfl rfl rfl plain_kput rfl (kput_ret (bL n) j [121] lv _ (by rw [hlen];exact hl6) (by omega) (by omega) (by omega)) fun v7 h7 ⟨hx7,hr7,hn7⟩=>?_
   rw [wB_false n j 121] at hr7
   have w7:=w6.swap.ext hx7
   refine zgo ?_
   refine WO.call rfl rfl rfl rfl plain_kchange rfl (kchange_ret (id:=3) hn hj (.inr ⟨rfl,rfl⟩) w7 v7 hr7 (fun h' f=>hr7.fr f fun q hq e=>by have:=hn7 q hq;omega)) fun v8 h8 ⟨hf8,hv8,F8,w8⟩=>?_
   subst hv8
   refine zgo ?_
   exact hJ _ _ ⟨⟨rfl,rfl,rfl,rfl,rfl,rfl,rfl,rfl,rfl,trivial⟩,hx7.up.trans hf8,F8,w8⟩
 rintro env' h7 ⟨hsub,hf7,F7,w7⟩
 refine Runs.sub hsub ?_
 clear hsub env'
 have hl7:=hlv hl6 hf7 (fun q hq e=>by omega)
 have hz7:=hf7.size
 have wa:=w7.swap
 have hp:=pull_B (i:=i) (j:=j) (a:=c) (b:=d) hn
 have h0s:0≠s:=fun e=>wa.pos (s,[pN n,pX 2 i c 120]) (by simp) e.symm
 have h0b:0≠b:=fun e=>w7.pos (b,[pN n,pX 3 j d 121]) (by simp) e.symm
 refine zgo ?_
 refine WO.call rfl rfl rfl rfl plain_kmet rfl (kmet2_ret wa.tab wa.head w7.head (by omega) wa.outH w7.outH wa.lt h0s (by rw [hp])) fun v8 h8 ⟨hf8,hv8,F8,hs8,hF8⟩=>?_
 subst hv8
 rw [hp] at hs8
 dsimp only at hs8
 have hl8:=hlv hl7 hf8 (fun q hq e=>by omega)
 have ht8:=wa.tab.fr hf8 (by omega)
 refine zgo ?_
 refine WO.call rfl rfl rfl rfl plain_kmeets rfl (kmeets_ret hn hi hj hs8 (fun q hq=>(hF8 q hq).1) lv hl8) fun v9 h9 ⟨hx9,hv9⟩=>?_
 subst hv9
 have w9:KW h9 F8 [(s,psB n i j c d)]:=(show KW h8 F8 [(s,psB n i j c d)] from ⟨fun x hx=>by simp at hx;subst hx;exact hs8,fun q hq=>(hF8 q hq).1,fun x hx q hq=>by simp at hx;subst hx;exact (hF8 q hq).2,by simp,ht8,fun x hx=>by simp at hx;subst hx;exact fun e=>h0s e.symm⟩).ext hx9
 have hfa:Ext h h9:=by
  have f1:Ext h h6:=hx03.wr hf6 hsz
  have f2:Ext h h7:=f1.wr hf7 (by omega)
  have f3:Ext h h8:=f2.trans_new (hf8.mono fun q _ e=>.inr (by rcases e with e | e<;>omega))
  exact f3.trans hx9
 refine zgo ?_
 refine WO.lit (strs [[98,49],[121],[110,101,119]]) tab_ok rfl rfl rfl rfl rfl rfl rfl rfl rfl rfl rfl rfl fun h10 hb10 hx10 hs10=>?_
 have hr10:Rd h10 1 (.slice (some ⟨h9.size,0,none⟩) 3 3) 3 (strs [[98,49],[121],[110,101,119]]):=⟨rfl,.inr ⟨h9.size,0,3,rfl,Nat.le_refl _,hb10.cells⟩⟩
 have hs9:=w9.head.lt
 refine zgo ?_
 refine WO.call rfl rfl rfl rfl plain_krecorded rfl (krecorded_ret (w9.ext hx10) 4 [[98,49],[121],[110,101,119]] _ hr10 (fun h' f=>hr10.fr f fun q hq e=>by simp [Value.ownBlock] at hq;omega) (by simp) (by simp)) fun v11 h11 ⟨hf11,hv11⟩=>?_
 subst hv11
 refine zgo ?_
 exact Runs.ret func11 (ret1 results11 rfl) ⟨(hfa.trans hx10).wr hf11 hsz,rfl⟩
theorem kBoth_ret (n0 i0 j0:Int) (hn0:-9223372036854775808≤n0∧n0≤9223372036854775807) (hi0:-9223372036854775808≤i0∧i0≤9223372036854775807) (hj0:-9223372036854775808≤j0∧j0≤9223372036854775807) (what:List UInt8) (hwh:what.length≤281474976710656) (h:Heap) (ht:Tab10 h) :
  Ret Tryz.prog 5 #[.int .i64 n0,.int .i64 i0,.int .i64 j0,.string (str what)] h fun v h'=>Ext h h'∧v = .bool true:=by
 refine Ret.of_body func5 rfl ntmps5 rfl rfl ?_
 refine zgo ?_
 refine WO.call rfl rfl rfl rfl plain_kboth rfl (kboth_ret n0 i0 j0 hn0 hi0 hj0 what hwh _ ht) fun v1 h1 ⟨hx1,hv1⟩=>?_
 subst hv1
 refine zgo ?_
 exact Runs.ret func5 (ret1 results5 rfl) ⟨hx1,rfl⟩
end Go.Proofs.YtlaffgagmncgjabGreatDoor
