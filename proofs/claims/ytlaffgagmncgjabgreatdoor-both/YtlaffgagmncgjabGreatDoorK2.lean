import Derived.Test.YtlaffgagmncgjabGreatDoorK1
set_option maxRecDepth 20000
set_option maxHeartbeats 1600000
namespace Go.Proofs.YtlaffgagmncgjabGreatDoor
open Tryz Go Go.Pat Go.Proofs
theorem plain_ksameTexts:Plain Tryz.prog 25:=⟨_,func25,by decide +kernel,by rfl⟩
theorem plain_ksameInts:Plain Tryz.prog 57:=⟨_,func57,by decide +kernel,by rfl⟩
theorem plain_ktwin:Plain Tryz.prog 21:=⟨_,func21,by decide +kernel,by rfl⟩
theorem plain_kalike:Plain Tryz.prog 23:=⟨_,func23,by decide +kernel,by rfl⟩
theorem plain_kmet:Plain Tryz.prog 33:=⟨_,func33,by decide +kernel,by rfl⟩
theorem ksameTexts_ret (l m:List (List UInt8)) (v u:Value) (h:Heap) (hv:Rd h 1 v l.length (strs l)) (hu:Rd h 1 u m.length (strs m)) (hl:l.length≤16777216) (hm:m.length≤16777216) :
  Ret Tryz.prog 25 #[v,u] h fun r h'=>h'=h∧r = .bool (decide (l=m)):=by
 obtain ⟨ad,cap,e⟩:=hv.form
 obtain ⟨ad2,cap2,e2⟩:=hu.form
 subst e e2
 refine Ret.of_body func25 rfl ntmps25 rfl rfl ?_
 refine zgo ?_
 refine Runs.cond_ndec rfl (fun q1=>?_) (fun q1=>?_)
 ·refine zgo ?_
  refine Runs.ret func25 (ret1 results25 rfl) ⟨rfl,?_⟩
  have:¬ l=m:=fun e=>q1 (by rw [e])
  simp [this]
 ·have hlm:l.length=m.length:=by omega
  refine zgo ?_
  refine Runs.loop (X:=Nat) (fun i=>[(0,.slice ad l.length cap),(1,.slice ad2 m.length cap2),(12,.int .i64 (l.length:Int)),(13,.int .i64 (i:Int))])
   (fun i h'=>h=h'∧i≤l.length∧l.take i=m.take i) (fun i=>l.length-i) 0 ⟨rfl,rfl,rfl,rfl,trivial⟩ ⟨rfl,Nat.zero_le _,rfl⟩ ?_
  rintro i _ ⟨rfl,hi,heq⟩ ih
  refine zgo ?_
  refine Runs.cond_dec rfl (fun hlt=>?_) (fun hge=>?_)
  ·have hlt':i<l.length:=by omega
   have hltm:i<m.length:=by omega
   have hget:l[i]? = some l[i]:=List.getElem?_eq_getElem hlt'
   have hgetm:m[i]? = some m[i]:=List.getElem?_eq_getElem hltm
   have hsn:=List.take_succ_eq_append_getElem hlt'
   have hsm:=List.take_succ_eq_append_getElem hltm
   generalize hx:l[i]=x at *
   generalize hy:m[i]=y at *
   obtain ⟨b0,p0,cap0,e0,_,hcell⟩:=hv.cell (strs_get hget)
   cases e0
   obtain ⟨b1,p1,cap1,e1,_,hcell1⟩:=hu.cell (strs_get hgetm)
   cases e1
   refine zgo ?_
   refine Runs.still mixed (by kernel_rfl) ?_
   refine zws ?_
   refine Runs.cond_ndec rfl (fun hne=>?_) (fun he=>?_)
   ·refine zgo ?_
    refine Runs.ret func25 (ret1 results25 rfl) ⟨rfl,?_⟩
    have:¬ l=m:=fun e=>by
     subst e
     rw [hget] at hgetm
     cases hgetm
     exact hne rfl
    simp [this]
   ·refine zgo ?_
    refine ih (i+1) _ _ (by omega) ⟨rfl,rfl,rfl,rfl,trivial⟩ ⟨rfl,hlt',?_⟩
    rw [hsn,hsm,heq,he]
  ·refine zgo ?_
   refine Runs.ret func25 (ret1 results25 rfl) ⟨rfl,?_⟩
   have:l=m:=by
    rw [List.take_of_length_le (by omega),List.take_of_length_le (by omega)] at heq
    exact heq
   simp [this]
theorem ksameInts_ret (l m:List Nat) (v u:Value) (h:Heap) (hv:Rd h 1 v l.length (ints l)) (hu:Rd h 1 u m.length (ints m)) (hl:l.length≤16777216) (hm:m.length≤16777216) :
  Ret Tryz.prog 57 #[v,u] h fun r h'=>h'=h∧r = .bool (decide (l=m)):=by
 obtain ⟨ad,cap,e⟩:=hv.form
 obtain ⟨ad2,cap2,e2⟩:=hu.form
 subst e e2
 refine Ret.of_body func57 rfl ntmps57 rfl rfl ?_
 refine zgo ?_
 refine Runs.cond_ndec rfl (fun q1=>?_) (fun q1=>?_)
 ·refine zgo ?_
  refine Runs.ret func57 (ret1 results57 rfl) ⟨rfl,?_⟩
  have:¬ l=m:=fun e=>q1 (by rw [e])
  simp [this]
 ·have hlm:l.length=m.length:=by omega
  refine zgo ?_
  refine Runs.loop (X:=Nat) (fun i=>[(0,.slice ad l.length cap),(1,.slice ad2 m.length cap2),(12,.int .i64 (l.length:Int)),(13,.int .i64 (i:Int))])
   (fun i h'=>h=h'∧i≤l.length∧l.take i=m.take i) (fun i=>l.length-i) 0 ⟨rfl,rfl,rfl,rfl,trivial⟩ ⟨rfl,Nat.zero_le _,rfl⟩ ?_
  rintro i _ ⟨rfl,hi,heq⟩ ih
  refine zgo ?_
  refine Runs.cond_dec rfl (fun hlt=>?_) (fun hge=>?_)
  ·have hlt':i<l.length:=by omega
   have hltm:i<m.length:=by omega
   have hget:l[i]? = some l[i]:=List.getElem?_eq_getElem hlt'
   have hgetm:m[i]? = some m[i]:=List.getElem?_eq_getElem hltm
   have hsn:=List.take_succ_eq_append_getElem hlt'
   have hsm:=List.take_succ_eq_append_getElem hltm
   generalize hx:l[i]=x at *
   generalize hy:m[i]=y at *
   obtain ⟨b0,p0,cap0,e0,_,hcell⟩:=hv.cell (ints_get hget)
   cases e0
   obtain ⟨b1,p1,cap1,e1,_,hcell1⟩:=hu.cell (ints_get hgetm)
   cases e1
   refine zgo ?_
   refine Runs.still mixed (by kernel_rfl) ?_
   refine zws ?_
   refine Runs.cond_ndec rfl (fun hne=>?_) (fun he=>?_)
   ·refine zgo ?_
    refine Runs.ret func57 (ret1 results57 rfl) ⟨rfl,?_⟩
    have:¬ l=m:=fun e=>by
     subst e
     rw [hget] at hgetm
     cases hgetm
     exact hne rfl
    simp [this]
   ·refine zgo ?_
    refine ih (i+1) _ _ (by omega) ⟨rfl,rfl,rfl,rfl,trivial⟩ ⟨rfl,hlt',?_⟩
    have:x=y:=by omega
    rw [hsn,hsm,heq,this]
  ·refine zgo ?_
   refine Runs.ret func57 (ret1 results57 rfl) ⟨rfl,?_⟩
   have:l=m:=by
    rw [List.take_of_length_le (by omega),List.take_of_length_le (by omega)] at heq
    exact heq
   simp [this]
def Sto (F:Nat→Prop) (h:Heap) (b:Nat) (ps:List PatchD):Prop:=∃ lv l,Blk h b [lv] 81∧XS F h lv l∧l.map PD3.p=ps∧Set1 ps
theorem Sto.fr {F S:Nat→Prop} {h h':Heap} {b:Nat} {ps:List PatchD} (x:Sto F h b ps) (f:Fr S h h') (hb:¬ S b) (hs:∀ k,F k→¬ S k):Sto F h' b ps:=by
 obtain ⟨lv,l,h1,h2,h3,h4⟩:=x
 exact ⟨lv,l,h1.fr f hb,h2.fr f hs,h3,h4⟩
theorem Sto.ext {F:Nat→Prop} {h h':Heap} {b:Nat} {ps:List PatchD} (x:Sto F h b ps) (f:Ext h h'):Sto F h' b ps:=x.fr f (by simp) (by simp)
theorem Sto.mono {F F':Nat→Prop} {h:Heap} {b:Nat} {ps:List PatchD} (x:Sto F h b ps) (hs:∀ k,F k→F' k):Sto F' h b ps:=by
 obtain ⟨lv,l,h1,h2,h3,h4⟩:=x
 exact ⟨lv,l,h1,h2.mono hs,h3,h4⟩
theorem Sto.set {F:Nat→Prop} {h:Heap} {b:Nat} {ps:List PatchD} (x:Sto F h b ps):Set1 ps:=by obtain ⟨_,_,_,_,_,h4⟩:=x;exact h4
theorem Sto.lt {F:Nat→Prop} {h:Heap} {b:Nat} {ps:List PatchD} (x:Sto F h b ps):b<h.size:=by obtain ⟨_,_,h1,_⟩:=x;exact h1.lt
theorem show_len {ps:List PatchD} {sd:Nat→Int} {orx:Nat→Bool} (hinv:Inv ps) (hn:NumX ps sd orx):(showW (itemsX ps sd orx)).length≤1000:=by
 obtain ⟨st,hst⟩:=strand_ex (alS ps).length (leadS ps) (blkS ps)
 obtain ⟨orp,hor⟩:=orphan_ex ps (alS ps)
 rw [← show_same hst hor hn]
 have g1:=showTo_len (alS ps) ((opOf ps st orp).to (alS ps).length) (alS ps).length
 have g2:=alS_len ps
 have g3:=hinv.lines
 unfold showFull;omega
theorem kPull_ret {F:Nat→Prop} {a b:Nat} {ps qs:List PatchD} {h:Heap} (ht:Tab10 h) (hs:Sto F h a ps) (ho:Sto F h b qs) (hF:∀ k,F k→k≠a) :
  Ret Tryz.prog 58 #[.pointer (some ⟨a,0,none⟩),.pointer (some ⟨b,0,none⟩)] h fun v h'=>Fr (fun k=>k=a) h h'∧v = .int .i64 ((pullS ps qs).1:Int)∧Sto (fun k=>F k∨New h h' k) h' a (pullS ps qs).2:=by
 obtain ⟨lv,l,h1,h2,h3,h4⟩:=hs
 obtain ⟨mv,m,g1,g2,g3,g4⟩:=ho
 subst h3 g3
 refine (xPull_ret itoaOK a b l m lv mv h ht h1 g1 h2 g2 hF h4.inv g4.inv).mono fun v h' ⟨hf,hv,lv',l',hb',hs',hp'⟩=>⟨hf,hv,lv',l',hb',hs',hp',set_pull h4 g4⟩
theorem ktwin_ret {F:Nat→Prop} {a:Nat} {ps:List PatchD} {h:Heap} (ht:Tab10 h) (hs:Sto F h a ps) (hF:∀ k,F k→k<h.size) :
  Ret Tryz.prog 21 #[.pointer (some ⟨a,0,none⟩)] h fun v h'=>Ext h h'∧v = .pointer (some ⟨h.size,0,none⟩)∧Sto (fun k=>F k∨(New h h' k∧k≠h.size)) h' h.size ps:=by
 refine Ret.of_body func21 rfl ntmps21 rfl rfl ?_
 refine zgo ?_
 refine WO.call rfl rfl rfl rfl plain_xNew rfl (xNew_ret _) fun v1 h1 ⟨hx1,hz1,hv1,hb1⟩=>?_
 subst hv1
 have hnew:Sto F h1 h.size []:=⟨_,[],hb1,⟨(Own.nil h1 0 3).rd,by simp,fun k hk=>by simp [Value.ownBlock] at hk⟩,rfl,Set1.nil⟩
 refine zgo ?_
 refine WO.call rfl rfl rfl rfl plain_xPull rfl (kPull_ret (ht.fr hx1 (by simp)) hnew (hs.ext hx1) (fun k hk e=>by have:=hF k hk;omega)) fun v2 h2 ⟨hf2,hv2,hs2⟩=>?_
 subst hv2
 rw [pull_nil hs.set] at hs2
 refine zgo ?_
 refine Runs.ret func21 (ret1 results21 rfl) ⟨hx1.wr hf2 (Nat.le_refl _),rfl,hs2.mono fun k e=>?_⟩
 rcases e with e | e
 ·exact .inl e
 ·exact .inr ⟨e.dn hx1,fun e'=>by have:=e.1;omega⟩
theorem kalike_ret {F:Nat→Prop} {a b:Nat} {ps:List PatchD} {h:Heap} (hs:Sto F h a ps) (ho:Sto F h b ps) (hF:∀ k,F k→k<h.size) :
  Ret Tryz.prog 23 #[.pointer (some ⟨a,0,none⟩),.pointer (some ⟨b,0,none⟩)] h fun v h'=>Ext h h'∧v = .bool true:=by
 refine Ret.of_body func23 rfl ntmps23 rfl rfl ?_
 obtain ⟨lv,l,h1,h2,h3,h4⟩:=hs
 obtain ⟨mv,m,g1,g2,g3,_⟩:=ho
 have hinv:=h4.inv
 have hF':∀ h',Ext h h'→∀ k,F k→k<h'.size:=fun h' hx k hk=>by have:=hF k hk;have:=hx.size;omega
 have hll:l.length≤1000:=by have:=hinv.len;rw [← h3] at this;simp at this;omega
 have hml:m.length≤1000:=by have:=hinv.len;rw [← g3] at this;simp at this;omega
 refine zgo ?_
 refine WO.call rfl rfl rfl rfl plain_xShow rfl (xShow_ret a l lv _ h1 h2 hF (by rw [h3];exact hinv)) fun v1 w1 ⟨hx1,sd1,or1,hn1,ho1,hm1⟩=>?_
 refine zgo ?_
 refine WO.call rfl rfl rfl rfl plain_xShow rfl (xShow_ret b m mv _ (g1.ext hx1) (g2.ext hx1) (hF' _ hx1) (by rw [g3];exact hinv)) fun v2 w2 ⟨hx2,sd2,or2,hn2,ho2,hm2⟩=>?_
 have ho1':=ho1.fr hx2 (by simp)
 rw [h3] at hn1 ho1'
 rw [g3] at hn2 ho2
 rw [show_fun hn2 hn1] at ho2
 have hlen:(showW (itemsX ps sd1 or1)).length≤1000:=show_len hinv hn1
 generalize showW (itemsX ps sd1 or1)=L at *
 have hx02:=hx1.trans hx2
 refine zgo ?_
 refine WO.call rfl rfl rfl rfl plain_ksameTexts rfl (ksameTexts_ret L L v1 v2 _ ho1'.rd ho2.rd (by omega) (by omega)) fun v3 w3 ⟨hh3,hv3⟩=>?_
 have hv3':v3 = .bool true:=by rw [hv3];simp
 subst hh3 hv3'
 refine zgo ?_
 refine WO.call rfl rfl rfl rfl plain_xLog rfl (xLog_ret a l lv _ (h1.ext hx02) (h2.ext hx02) hll) fun v4 w4 ⟨hx4,ho4,hm4⟩=>?_
 have hx04:=hx02.trans hx4
 refine zgo ?_
 refine WO.call rfl rfl rfl rfl plain_xLog rfl (xLog_ret b m mv _ (g1.ext hx04) (g2.ext hx04) hml) fun v5 w5 ⟨hx5,ho5,hm5⟩=>?_
 have hx05:=hx04.trans hx5
 have ho4':=ho4.fr hx5 (by simp)
 rw [h3] at ho4'
 rw [g3] at ho5
 have hil:(idsS ps).length≤20:=by have:=hinv.len;simp [idsS];omega
 refine zgo ?_
 refine WO.call rfl rfl rfl rfl plain_ksameInts rfl (ksameInts_ret (idsS ps) (idsS ps) v4 v5 _ ho4'.rd ho5.rd (by omega) (by omega)) fun v6 w6 ⟨hh6,hv6⟩=>?_
 have hv6':v6 = .bool true:=by rw [hv6];simp
 subst hh6 hv6'
 refine zgo ?_
 refine WO.call rfl rfl rfl rfl plain_xClean rfl (xClean_ret a l lv _ (h1.ext hx05) (h2.ext hx05) (hF' _ hx05) (by rw [h3];exact hinv)) fun v7 w7 ⟨hx7,sd7,or7,hn7,hv7⟩=>?_
 have hx07:=hx05.trans hx7
 subst hv7
 refine zgo ?_
 refine WO.call rfl rfl rfl rfl plain_xClean rfl (xClean_ret b m mv _ (g1.ext hx07) (g2.ext hx07) (hF' _ hx07) (by rw [g3];exact hinv)) fun v8 w8 ⟨hx8,sd8,or8,hn8,hv8⟩=>?_
 subst hv8
 rw [h3] at hn7
 rw [g3] at hn8
 rw [h3,g3,blank_fun hn8 hn7]
 generalize blankX ps or7 (ordX ps sd7)=B
 refine zgo ?_
 refine WO.val (ov_beql tab_ok rfl rfl rfl rfl) rfl rfl rfl ?_
 refine zgo ?_
 exact Runs.ret func23 (ret1 results23 rfl) ⟨hx07.trans hx8,by simp⟩
end Go.Proofs.YtlaffgagmncgjabGreatDoor
namespace Go.Proofs.YtlaffgagmncgjabGreatDoor
open Tryz Go Go.Pat Go.Proofs
def dval (l:List UInt8):Nat:=l.foldl (fun n c=>10*n+(c.toNat-48)) 0
theorem dval_snoc (l:List UInt8) (c:UInt8):dval (l++[c])=10*dval l+(c.toNat-48):=by simp [dval]
theorem dec_val:∀ m n,n≤m→dval (decS n)=n∧∀ c∈decS n,48≤c.toNat∧c.toNat≤57:=by
 intro m
 induction m with
 | zero =>
  intro n hn
  have:n=0:=by omega
  subst this
  rw [decS_small (by omega)]
  exact ⟨rfl,by decide⟩
 | succ m ih =>
  intro n hn
  have hb:∀ k,k<10→(UInt8.ofNat (48+k)).toNat=48+k:=fun k hk=>by rw [UInt8.toNat_ofNat'];omega
  by_cases h:n<10
  ·rw [decS_small h]
   refine ⟨?_,fun c hc=>?_⟩
   ·show dval ([]++[UInt8.ofNat (48+n)])=n
    rw [dval_snoc,hb n h]
    simp [dval]
   ·rw [List.mem_singleton.1 hc,hb n h];omega
  ·obtain ⟨i1,i2⟩:=ih (n / 10) (by omega)
   rw [decS_big h]
   refine ⟨?_,fun c hc=>?_⟩
   ·rw [dval_snoc,i1,hb _ (by omega)];omega
   ·rcases List.mem_append.1 hc with e | e
    ·exact i2 c e
    ·rw [List.mem_singleton.1 e,hb _ (by omega)];omega
theorem kApply_ret {F:Nat→Prop} {a:Nat} {ps:List PatchD} {h:Heap} (ht:Tab10 h) (hs:Sto F h a ps) (hF:∀ k,F k→k≠a) (t:List UInt8) (hl:t.length≤16777216) :
  Ret Tryz.prog 18 #[.pointer (some ⟨a,0,none⟩),.string (str t)] h fun v h'=>Fr (fun k=>k=a) h h'∧v = .int .i64 ((applyS ps t).1:Int)∧Sto (fun k=>F k∨New h h' k) h' a (applyS ps t).2:=by
 obtain ⟨lv,l,h1,h2,h3,h4⟩:=hs
 subst h3
 exact (xApply_ret itoaOK a l lv t h ht h1 h2 hF h4.inv hl).mono fun v h' ⟨hf,hv,lv',l',hb',hs',hp'⟩=>⟨hf,hv,lv',l',hb',hs',hp',set_apply h4 t⟩
theorem ktab_lt {h:Heap} (x:Tab10 h):0<h.size:=by
 obtain ⟨_,_,hx⟩:=x
 exact (Array.getElem?_eq_some_iff.1 hx).1
structure KW (h:Heap) (F:Nat→Prop) (L:List (Nat × List PatchD)):Prop where
 st:∀ x∈L,Sto F h x.1 x.2
 lt:∀ k,F k→k<h.size
 out:∀ x∈L,∀ k,F k→k≠x.1
 nd:(L.map Prod.fst).Nodup
 tab:Tab10 h
 pos:∀ x∈L,x.1≠0
section
variable {h h':Heap} {F:Nat→Prop} {a:Nat} {ps ps':List PatchD} {L:List (Nat × List PatchD)}
theorem KW.ext (w:KW h F L) (f:Ext h h'):KW h' F L:=⟨fun x hx=>(w.st x hx).ext f,fun k hk=>by have:=w.lt k hk;have:=f.size;omega,w.out,w.nd,w.tab.fr f (by simp),w.pos⟩
theorem KW.head (w:KW h F ((a,ps)::L)):Sto F h a ps:=w.st (a,ps) (by simp)
theorem KW.outH (w:KW h F ((a,ps)::L)):∀ k,F k→k≠a:=w.out (a,ps) (by simp)
theorem KW.twin (w:KW h F ((a,ps)::L)) (f:Ext h h') (hs:Sto (fun k=>F k∨(New h h' k∧k≠h.size)) h' h.size ps):KW h' (fun k=>F k∨(New h h' k∧k≠h.size)) ((a,ps)::(h.size,ps)::L):=by
 have hl:∀ x∈(a,ps)::L,x.1<h.size:=fun x hx=>(w.st x hx).lt
 have hz:=f.size
 have ht:=ktab_lt w.tab
 have three:∀ x,x∈(a,ps)::(h.size,ps)::L→x=(h.size,ps)∨x∈(a,ps)::L:=fun x hx=>by
  rcases List.mem_cons.1 hx with e | e
  ·exact .inr (by simp [e])
  ·rcases List.mem_cons.1 e with e | e
   ·exact .inl e
   ·exact .inr (List.mem_cons_of_mem _ e)
 refine ⟨fun x hx=>?_,fun k hk=>?_,fun x hx k hk=>?_,?_,w.tab.fr f (by simp),fun x hx=>?_⟩
 ·rcases three x hx with e | e
  ·subst e;exact hs
  ·exact ((w.st x e).ext f).mono fun k e=>.inl e
 ·rcases hk with e | e
  ·have:=w.lt k e;omega
  ·exact e.1.2
 ·rcases three x hx with e | e
  ·subst e
   rcases hk with e | e
   ·have:=w.lt k e;dsimp only;omega
   ·exact e.2
  ·rcases hk with e' | e'
   ·exact w.out x e k e'
   ·have:=hl x e;have:=e'.1.1;omega
 ·have hn:=w.nd
  simp only [List.map_cons,List.nodup_cons,List.mem_cons,not_or] at hn ⊢
  refine ⟨⟨?_,hn.1⟩,fun hm=>?_,hn.2⟩
  ·have:=hl (a,ps) (by simp);dsimp only at this;omega
  ·obtain ⟨x,hx,e⟩:=List.mem_map.1 hm
   have:=hl x (List.mem_cons_of_mem _ hx);omega
 ·rcases three x hx with e | e
  ·subst e;dsimp only;omega
  ·exact w.pos x e
theorem KW.op (w:KW h F ((a,ps)::L)) (f:Fr (fun k=>k=a) h h') (hs:Sto (fun k=>F k∨New h h' k) h' a ps'):KW h' (fun k=>F k∨New h h' k) ((a,ps')::L):=by
 have hz:=f.size
 have hl:∀ x∈(a,ps)::L,x.1<h.size:=fun x hx=>(w.st x hx).lt
 have hn:=w.nd
 simp only [List.map_cons,List.nodup_cons] at hn
 refine ⟨fun x hx=>?_,fun k hk=>?_,fun x hx k hk=>?_,by simpa using hn,w.tab.fr f (fun e=>w.pos (a,ps) (by simp) e.symm),fun x hx=>?_⟩
 ·rcases List.mem_cons.1 hx with e | e
  ·subst e;exact hs
  ·exact ((w.st x (List.mem_cons_of_mem _ e)).fr f (fun e'=>hn.1 (List.mem_map.2 ⟨x,e,e'⟩)) w.outH).mono fun k e=>.inl e
 ·rcases hk with e | e
  ·have:=w.lt k e;omega
  ·exact e.2
 ·have hx':∃ y∈(a,ps)::L,y.1=x.1:=by
   rcases List.mem_cons.1 hx with e | e
   ·exact ⟨(a,ps),by simp,by rw [e]⟩
   ·exact ⟨x,List.mem_cons_of_mem _ e,rfl⟩
  obtain ⟨y,hy,ey⟩:=hx'
  rcases hk with e | e
  ·rw [← ey];exact w.out y hy k e
  ·have:=hl y hy;have:=e.1;omega
 ·rcases List.mem_cons.1 hx with e | e
  ·subst e;exact w.pos (a,ps) (by simp)
  ·exact w.pos x (List.mem_cons_of_mem _ e)
end
end Go.Proofs.YtlaffgagmncgjabGreatDoor
namespace Go.Proofs.YtlaffgagmncgjabGreatDoor
open Tryz Go Go.Pat Go.Proofs
end Go.Proofs.YtlaffgagmncgjabGreatDoor
namespace Go.Proofs.YtlaffgagmncgjabGreatDoor
open Tryz Go Go.Pat Go.Proofs
structure Texts (h:Heap) (v:Value) (l:List (List UInt8)):Prop where
 rd:Rd h 1 v l.length (strs l)
 len:l.length≤281474976710656
 each:∀ t∈l,t.length≤281474976710656
theorem Texts.ext {h h':Heap} {v:Value} {l:List (List UInt8)} (x:Texts h v l) (f:Ext h h'):Texts h' v l:=⟨x.rd.ext f,x.len,x.each⟩
end Go.Proofs.YtlaffgagmncgjabGreatDoor
