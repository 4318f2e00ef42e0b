import Derived.Test.YtlaffgagmncgjabGreatDoorK2
import Derived.Test.YtlaffgagmncgjabGreatDoorN1
import Derived.Test.YtlaffgagmncgjabGreatDoorQ1
set_option maxRecDepth 20000
set_option maxHeartbeats 3200000
namespace Go.Proofs.YtlaffgagmncgjabGreatDoor
open Tryz Go Go.Pat Go.Proofs
theorem num_fun {ps:List PatchD} {sd sd':Nat→Int} {orx orx':Nat→Bool} (h:NumX ps sd orx) (h':NumX ps sd' orx'):blankX ps orx (ordX ps sd)=blankX ps orx' (ordX ps sd')∧fileX ps (ordX ps sd)=fileX ps (ordX ps sd')∧credX ps (ordX ps sd)=credX ps (ordX ps sd'):=by
 obtain ⟨st,hst⟩:=strand_ex (alS ps).length (leadS ps) (blkS ps)
 obtain ⟨orp,hor⟩:=orphan_ex ps (alS ps)
 exact ⟨(clean_same hst hor h).symm.trans (clean_same hst hor h'),(file_same (orp:=orp) hst h).symm.trans (file_same (orp:=orp) hst h'),(cred_same (orp:=orp) hst h).symm.trans (cred_same (orp:=orp) hst h')⟩
theorem file_of {ps:List PatchD} {L:List Nat} {W:List (List UInt8)} (hl:L.length=W.length) (h:∀ j,j<W.length→(lnX ps (nth L j)).text=W.getD j []):fileX ps L=W:=by
 unfold fileX
 apply List.ext_getElem (by simp [hl])
 intro j h1 h2
 have:=h j h2
 simp only [List.getElem_map]
 simpa [nth,List.getD_eq_getElem?_getD,h2,show j<L.length by omega] using this
theorem blank_of {ps:List PatchD} {orx:Nat→Bool} {L:List Nat} {n:Nat} (hl:L.length=n) (h:∀ j,j<n→markX ps orx (nth L j)=32):blankX ps orx L=true:=by
 unfold blankX
 rw [List.all_eq_true]
 intro k hk
 obtain ⟨j,hj,e⟩:=List.mem_iff_getElem.1 hk
 have:=h j (by omega)
 simp only [nth,List.getD_eq_getElem?_getD,hj,List.getElem?_eq_getElem,Option.getD_some,e] at this
 exact decide_eq_true this
theorem recX_out {ps:List PatchD} (hs:Set1 ps) {q:Int} {W:List (List UInt8)} {e:Nat} {t:List UInt8} (hx:RecX ps q W e t) :
  (e≠0∧e≠11∧t=[])∨(e=11∧t=[]∧∃ sd orx,NumX ps sd orx∧blankX ps orx (ordX ps sd)=true∧fileX ps (ordX ps sd)=W) ∨
  (e=0∧fileOk W=true∧∃ sd orx c,RF ps sd orx c∧c.W=W∧c.ch.length≠0∧c.ch.length≤30∧t=textS (recP ps c)):=by
 rcases hx with ⟨_,rfl,rfl⟩ | ⟨h1,id,rfl,⟨_,rfl,rfl⟩ | ⟨h2,sd,orx,hn,hr⟩⟩
 ·exact .inl ⟨by omega,by omega,rfl⟩
 ·exact .inl ⟨by omega,by omega,rfl⟩
 ·have k:=rf_of hs hn (id:=id) (W:=W) ⟨by omega,by omega⟩ h2 (fileOk_out h1.2.2)
  unfold recS at hr
  split at hr
  ·simp only [Prod.mk.injEq] at hr;exact .inl ⟨by omega,by omega,hr.2⟩
  ·rename_i hl
   split at hr
   ·rename_i h0
    simp only [Prod.mk.injEq] at hr
    obtain ⟨g1,g2⟩:=k.same (List.eq_nil_of_length_eq_zero h0)
    have hW:(xRC ps orx (ordX ps sd) id W).W=W:=rfl
    rw [hW] at g1 g2
    exact .inr (.inl ⟨hr.1,hr.2,sd,orx,hn,blank_of g1 fun j hj=>(g2 j hj).1,file_of g1 fun j hj=>(g2 j hj).2⟩)
   ·rename_i h0
    simp only [Prod.mk.injEq] at hr
    exact .inr (.inr ⟨hr.1,h1.2.2,sd,orx,_,k,rfl,h0,by omega,hr.2⟩)
theorem rec_done {ps:List PatchD} {sd:Nat→Int} {orx:Nat→Bool} {c:RC} (k:RF ps sd orx c) (s':Set1 (withS (recP ps c) ps)) {sd':Nat→Int} {orx':Nat→Bool} (hn:NumX (withS (recP ps c) ps) sd' orx') :
  blankX (withS (recP ps c) ps) orx' (ordX (withS (recP ps c) ps) sd')=true∧fileX (withS (recP ps c) ps) (ordX (withS (recP ps c) ps) sd')=c.W∧(credX (withS (recP ps c) ps) (ordX (withS (recP ps c) ps) sd')).length=c.W.length:=by
 obtain ⟨h1,h2⟩:=k.shown s' hn
 have hl:(ordX (withS (recP ps c) ps) sd').length=c.W.length:=by rw [h1];simp
 have hnth:∀ j,j<c.W.length→nth (ordX (withS (recP ps c) ps) sd') j=RC.at ps c j:=fun j hj=>by rw [h1];simp [nth,List.getD_eq_getElem?_getD,hj]
 exact ⟨blank_of hl fun j hj=>by rw [hnth j hj];exact h2 j hj,file_of hl fun j hj=>by rw [hnth j hj];exact k.textAt' s' hj,by simp [credX,hl]⟩
theorem rec_again {ps:List PatchD} {sd:Nat→Int} {orx:Nat→Bool} {c:RC} (k:RF ps sd orx c) (s':Set1 (withS (recP ps c) ps)) (hW:fileOk c.W=true) {e:Nat} {t:List UInt8} (hx:RecX (withS (recP ps c) ps) 9999 c.W e t):e=11∨e=3:=by
 rcases hx with ⟨h1,_⟩ | ⟨_,id,hid,⟨_,rfl,_⟩ | ⟨_,sd',orx',hn,hr⟩⟩
 ·exact absurd ⟨by omega,by omega,hW⟩ h1
 ·exact .inr rfl
 ·have h0:=k.again s' hn id
  unfold recS at hr
  rw [h0] at hr
  simp only [List.length_nil,Nat.not_lt_zero,if_false,if_true,Prod.mk.injEq] at hr
  exact .inl hr.1
theorem kRecord_ret {F:Nat→Prop} {a:Nat} {ps:List PatchD} {h:Heap} (ht:Tab10 h) (hs:Sto F h a ps) (hF:∀ k,F k→k<h.size) (q:Int) (W:List (List UInt8)) (wv:Value) (hW:Rd h 1 wv W.length (strs W)) (hwl:W.length≤16777216) (htl:∀ t∈W,t.length≤16777216) :
  Ret Tryz.prog 22 #[.pointer (some ⟨a,0,none⟩),.int .i64 q,wv] h fun v h'=>Ext h h'∧∃ t e,v = .tuple #[.string (str t),.int .i64 ((e:Nat):Int)]∧RecX ps q W e t:=by
 obtain ⟨lv,l,h1,h2,h3,h4⟩:=hs
 subst h3
 exact xRecord_ret itoaOK a l lv wv q W h ht h1 h2 hF h4.inv hW hwl htl
theorem kFile_ret {F:Nat→Prop} {a:Nat} {ps:List PatchD} {h:Heap} (hs:Sto F h a ps) (hF:∀ k,F k→k<h.size) :
  Ret Tryz.prog 24 #[.pointer (some ⟨a,0,none⟩)] h fun v h'=>Ext h h'∧∃ sd orx,NumX ps sd orx∧FileP ps sd orx h v h':=by
 obtain ⟨lv,l,h1,h2,h3,h4⟩:=hs
 subst h3
 exact xFile_ret a l lv h h1 h2 hF h4.inv
theorem kClean_ret {F:Nat→Prop} {a:Nat} {ps:List PatchD} {h:Heap} (hs:Sto F h a ps) (hF:∀ k,F k→k<h.size) :
  Ret Tryz.prog 27 #[.pointer (some ⟨a,0,none⟩)] h fun v h'=>Ext h h'∧∃ sd orx,NumX ps sd orx∧v = .bool (blankX ps orx (ordX ps sd)):=by
 obtain ⟨lv,l,h1,h2,h3,h4⟩:=hs
 subst h3
 exact xClean_ret a l lv h h1 h2 hF h4.inv
theorem kCredit_ret {F:Nat→Prop} {a:Nat} {ps:List PatchD} {h:Heap} (hs:Sto F h a ps) (hF:∀ k,F k→k<h.size) :
  Ret Tryz.prog 26 #[.pointer (some ⟨a,0,none⟩)] h fun v h'=>Ext h h'∧∃ sd orx,NumX ps sd orx∧Own h' 3 1 v (credX ps (ordX ps sd)).length (ints (credX ps (ordX ps sd)))∧∀ k,v.ownBlock=some k→h.size≤k:=by
 obtain ⟨lv,l,h1,h2,h3,h4⟩:=hs
 subst h3
 exact xCredit_ret a l lv h h1 h2 hF h4.inv
theorem plain_krecorded:Plain Tryz.prog 10:=⟨_,func10,by decide +kernel,by rfl⟩
theorem krecorded_ret {F:Nat→Prop} {a:Nat} {ps:List PatchD} {h:Heap} (w:KW h F [(a,ps)]) (q:Int) (W:List (List UInt8)) (wv:Value) (hW:Rd h 1 wv W.length (strs W)) (hWx:∀ h',Fr (fun k=>k=a) h h'→Rd h' 1 wv W.length (strs W)) (hwl:W.length≤16777216) (htl:∀ t∈W,t.length≤16777216) :
  Ret Tryz.prog 10 #[.pointer (some ⟨a,0,none⟩),.int .i64 q,wv,.bool true] h fun v h'=>Fr (fun k=>k=a) h h'∧v = .bool true:=by
 refine Ret.of_body func10 rfl ntmps10 rfl rfl ?_
 have hset:=w.head.set
 obtain ⟨aw,cw,e⟩:=hW.form
 subst e
 refine zgo ?_
 refine WO.call rfl rfl rfl rfl plain_ktwin rfl (ktwin_ret w.tab w.head w.lt) fun v1 h1 ⟨hx1,hv1,hs1⟩=>?_
 subst hv1
 have w1:=w.twin hx1 hs1
 clear hs1
 refine zgo ?_
 refine WO.call rfl rfl rfl rfl plain_xRecord rfl (kRecord_ret w1.tab w1.head w1.lt q W _ (hW.ext hx1) hwl htl) fun v2 h2 ⟨hx2,t,e,hv2,hrx⟩=>?_
 subst hv2
 have w2:=w1.ext hx2
 have hx02:=hx1.trans hx2
 refine zgo ?_
 refine WO.call rfl rfl rfl rfl plain_kalike rfl (kalike_ret w2.head (w2.st (h.size,ps) (by simp)) w2.lt) fun v3 h3 ⟨hx3,hv3⟩=>?_
 subst hv3
 have w3:=w2.ext hx3
 have hx03:=hx02.trans hx3
 refine zgo ?_
 refine WO.call rfl rfl rfl rfl plain_xFile rfl (kFile_ret w3.head w3.lt) fun v4 h4 ⟨hx4,sd4,orx4,hn4,hf4⟩=>?_
 have w4:=w3.ext hx4
 have hx04:=hx03.trans hx4
 have hv4:∃ f4 e4,v4 = .tuple #[f4,.int .i64 e4]:=by
  rcases hf4 with ⟨_,e⟩ | ⟨_,w,e,_⟩
  ·exact ⟨_,_,e⟩
  ·exact ⟨_,_,e⟩
 obtain ⟨f4,e4,rfl⟩:=hv4
 have hlX:∀ (qs:List PatchD) (sd:Nat→Int),Inv qs→(fileX qs (ordX qs sd)).length≤1000:=fun qs sd hi=>by
  have:=ordX_length qs sd
  have h9:nX qs≤90:=hi.lines
  simp [fileX];omega
 have hdW:decide (W=W)=true:=by simp
 rcases recX_out hset hrx with ⟨he0,he11,ht0⟩ | ⟨rfl,rfl,sd,orx,hn,hbl,hfl⟩ | ⟨rfl,hok,sd,orx,c,k,hcW,hc0,hc30,rfl⟩
 ·
  subst ht0
  have d11:decide ((e:Int)=11)=false:=decide_eq_false (by omega)
  refine zgo ?_
  refine Runs.cond_dec rfl (fun hq=>?_) (fun hq=>?_)
  ·omega
  refine zgo ?_
  refine Runs.cond_ndec rfl (fun hq=>?_) (fun hq=>?_)
  rotate_left
  ·omega
  refine zgo ?_
  exact Runs.ret func10 (ret1 results10 rfl) ⟨hx04.up,rfl⟩
 ·
  obtain ⟨g1,g2,_⟩:=num_fun hn hn4
  rcases hf4 with ⟨hb4,_⟩ | ⟨_,f,hf,hof,_⟩
  ·rw [← g1,hbl] at hb4;cases hb4
  simp only [Value.tuple.injEq] at hf
  have hf':=congrArg Array.toList hf
  simp only [List.cons.injEq,Value.int.injEq,true_and,and_true] at hf'
  obtain ⟨rfl,rfl⟩:=hf'
  rw [← g2,hfl] at hof
  refine zgo ?_
  refine WO.call rfl rfl rfl rfl plain_ksameTexts rfl (ksameTexts_ret W W _ _ h4 hof.rd (hW.ext hx04) hwl hwl) fun v5 h5 ⟨hh5,hv5⟩=>?_
  subst hh5 hv5
  rw [hdW]
  refine zgo ?_
  exact Runs.ret func10 (ret1 results10 rfl) ⟨hx04.up,rfl⟩
 subst hcW
 have htx:=text_14 (k.ok hc30)
 refine zgo ?_
 refine WO.call rfl rfl rfl rfl plain_ktwin rfl (ktwin_ret w4.tab w4.head w4.lt) fun v5 h5 ⟨hx5,hv5,hs5⟩=>?_
 subst hv5
 have w5:=w4.twin hx5 hs5
 clear hs5
 have hx05:=hx04.trans hx5
 refine zgo ?_
 refine WO.call rfl rfl rfl rfl plain_xApply rfl (kApply_ret w5.tab w5.head w5.outH (textS (recP ps c)) (by omega)) fun v6 h6 ⟨hf6,hv6,hs6⟩=>?_
 subst hv6
 have w6:=w5.op hf6 hs6
 clear hs6
 have hf06:Fr (fun k=>k=a) h h6:=hx05.up.trans hf6
 have hWok:∀ t∈c.W,textOk t=true:=by
  unfold fileOk at hok
  rw [Bool.and_eq_true,List.all_eq_true] at hok
  exact hok.2
 rcases k.taken hWok hc0 hc30 with hlets | hfull
 rotate_left
 ·rw [hfull] at w6
  rw [hfull]
  dsimp only at w6 ⊢
  refine zgo ?_
  refine WO.call rfl rfl rfl rfl plain_kalike rfl (kalike_ret w6.head (w6.st (h.size,ps) (by simp)) w6.lt) fun v7 h7 ⟨hx7,hv7⟩=>?_
  subst hv7
  refine zgo ?_
  exact Runs.ret func10 (ret1 results10 rfl) ⟨hf06.ex hx7,rfl⟩
 have hap:=lets_apply hlets
 have s':=set_lets hset hlets
 rw [hap] at w6
 rw [hap]
 dsimp only at w6 ⊢
 refine zgo ?_
 refine WO.call rfl rfl rfl rfl plain_xFile rfl (kFile_ret w6.head w6.lt) fun v7 h7 ⟨hx7,sd7,orx7,hn7,hf7⟩=>?_
 have w7:=w6.ext hx7
 obtain ⟨g1,g2,_⟩:=rec_done k s' hn7
 rcases hf7 with ⟨hb7,_⟩ | ⟨_,f,hf,hof,_⟩
 ·rw [g1] at hb7;cases hb7
 subst hf
 rw [g2] at hof
 refine zgo ?_
 refine WO.call rfl rfl rfl rfl plain_xRecord rfl (kRecord_ret w7.tab w7.head w7.lt 9999 c.W _ (hWx _ (hf06.ex hx7)) hwl htl) fun v8 h8 ⟨hx8,t8,e8,hv8,hrx8⟩=>?_
 subst hv8
 have w8:=w7.ext hx8
 have hage:=rec_again k s' hok hrx8
 refine zgo ?_
 refine WO.call rfl rfl rfl rfl plain_xCredit rfl (kCredit_ret w8.head w8.lt) fun v9 h9 ⟨hx9,sd9,orx9,hn9,hoc,_⟩=>?_
 have w9:=w8.ext hx9
 obtain ⟨_,_,gl⟩:=rec_done k s' hn9
 have hrc:=hoc.rd
 rw [gl] at hrc
 obtain ⟨ac,cc,ec⟩:=hrc.form
 subst ec
 have hx79:=(hx7.trans hx8).trans hx9
 have hf09:=(hf06.ex hx7).ex (hx8.trans hx9)
 have hof9:=hof.fr (hx8.trans hx9) (by simp)
 obtain ⟨af,cf,ef⟩:=hof.rd.form
 subst ef
 refine zgo ?_
 refine Runs.cond_ndec rfl (fun hq=>absurd rfl hq) (fun _=>?_)
 refine zgo ?_
 refine Runs.joinK (fun env' h'=>h9=h'∧∃ z:Int,(z=11∨z=3)∧Sub [(0,.pointer (some ⟨a,0,none⟩)),(2,.slice aw c.W.length cw),(14,.pointer (some ⟨a,0,none⟩)),(15,.int .i64 0),(16,.slice af c.W.length cf),(17,.int .i64 0),(19,.int .i64 z)] env') (fun k' hJ=>?_) ?_
 ·refine Runs.cond_dec rfl (fun hq=>?_) (fun hq=>?_)
  ·refine zgo ?_
   exact hJ _ _ ⟨rfl,11,.inl rfl,rfl,rfl,rfl,rfl,rfl,rfl,rfl,trivial⟩
  ·refine zgo ?_
   exact hJ _ _ ⟨rfl,e8,by omega,rfl,rfl,rfl,rfl,rfl,rfl,rfl,trivial⟩
 rintro env' _ ⟨rfl,z,hz,hsub⟩
 refine Runs.sub hsub ?_
 clear hsub env'
 refine zgo ?_
 refine WO.call rfl rfl rfl rfl plain_xClean rfl (kClean_ret w9.head w9.lt) fun v10 h10 ⟨hx10,sd10,orx10,hn10,hv10⟩=>?_
 rw [(rec_done k s' hn10).1] at hv10
 subst hv10
 refine zgo ?_
 refine WO.call rfl rfl rfl rfl plain_ksameTexts rfl (ksameTexts_ret c.W c.W _ _ h10 (hof9.rd.ext hx10) (hWx _ (hf09.ex hx10)) hwl hwl) fun v11 h11 ⟨hh11,hv11⟩=>?_
 subst hh11 hv11
 rw [hdW]
 refine zgo ?_
 rcases hz with rfl | rfl
 ·refine zgo ?_
  exact Runs.ret func10 (ret1 results10 rfl) ⟨hf09.ex hx10,rfl⟩
 ·refine zgo ?_
  exact Runs.ret func10 (ret1 results10 rfl) ⟨hf09.ex hx10,rfl⟩
end Go.Proofs.YtlaffgagmncgjabGreatDoor
