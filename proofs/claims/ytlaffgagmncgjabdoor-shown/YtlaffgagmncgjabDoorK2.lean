import Derived.Test.YtlaffgagmncgjabDoorK1
set_option maxRecDepth 20000
set_option maxHeartbeats 1600000
namespace Go.Proofs.YtlaffgagmncgjabDoor
open Go Go.Pat Go.Proofs
theorem plain_ksameTexts:Plain Tryd.prog 37:=⟨_,Tryd.func37,by decide +kernel,by rfl⟩
theorem plain_ksameInts:Plain Tryd.prog 43:=⟨_,Tryd.func43,by decide +kernel,by rfl⟩
theorem plain_ksmall:Plain Tryd.prog 9:=⟨_,Tryd.func9,by decide +kernel,by rfl⟩
theorem plain_ktwin:Plain Tryd.prog 21:=⟨_,Tryd.func21,by decide +kernel,by rfl⟩
theorem plain_kalike:Plain Tryd.prog 22:=⟨_,Tryd.func22,by decide +kernel,by rfl⟩
theorem plain_kmet:Plain Tryd.prog 14:=⟨_,Tryd.func14,by decide +kernel,by rfl⟩
theorem ksameTexts_ret (l m:List (List UInt8)) (v u:Value) (h:Heap) (hv:Rd h 1 v l.length (strs l)) (hu:Rd h 1 u m.length (strs m)) (hl:l.length≤16777216) (hm:m.length≤16777216) :
  Ret Tryd.prog 37 #[v,u] h fun r h'=>h'=h∧r = .bool (decide (l=m)):=by
 obtain ⟨ad,cap,e⟩:=hv.form
 obtain ⟨ad2,cap2,e2⟩:=hu.form
 subst e e2
 refine Ret.of_body Tryd.func37 rfl Tryd.ntmps37 rfl rfl ?_
 refine zgo ?_
 refine Runs.cond_ndec rfl (fun q1=>?_) (fun q1=>?_)
 ·refine zgo ?_
  refine Runs.ret Tryd.func37 (ret1 Tryd.results37 rfl) ⟨rfl,?_⟩
  have:¬ l=m:=fun e=>q1 (by rw [e])
  simp [this]
 ·have hlm:l.length=m.length:=by omega
  refine zgo ?_
  refine Runs.loop (X:=Nat) (fun i=>[(0,.slice ad l.length cap),(1,.slice ad2 m.length cap2),(12,.int .i64 (l.length:Int)),(13,.int .i64 (i:Int))])
   (fun i h'=>h=h'∧i≤l.length∧l.take i=m.take i) (fun i=>l.length-i) 0 ⟨rfl,rfl,rfl,rfl,trivial⟩ ⟨rfl,Nat.zero_le _,rfl⟩ ?_
  rintro i _ ⟨rfl,hi,heq⟩ ih
  refine zgo ?_
  refine Runs.cond_dec rfl (fun hlt=>?_) (fun hge=>?_)
  ·have hlt':i<l.length:=by omega
   have hltm:i<m.length:=by omega
   have hget:l[i]? = some l[i]:=List.getElem?_eq_getElem hlt'
   have hgetm:m[i]? = some m[i]:=List.getElem?_eq_getElem hltm
   have hsn:=List.take_succ_eq_append_getElem hlt'
   have hsm:=List.take_succ_eq_append_getElem hltm
   generalize hx:l[i]=x at *
   generalize hy:m[i]=y at *
   obtain ⟨b0,p0,cap0,e0,_,hcell⟩:=hv.cell (strs_get hget)
   cases e0
   obtain ⟨b1,p1,cap1,e1,_,hcell1⟩:=hu.cell (strs_get hgetm)
   cases e1
   refine zgo ?_
   refine Runs.still mixed (by kernel_rfl) ?_
   refine zws ?_
   refine Runs.cond_ndec rfl (fun hne=>?_) (fun he=>?_)
   ·refine zgo ?_
    refine Runs.ret Tryd.func37 (ret1 Tryd.results37 rfl) ⟨rfl,?_⟩
    have:¬ l=m:=fun e=>by
     subst e
     rw [hget] at hgetm
     cases hgetm
     exact hne rfl
    simp [this]
   ·refine zgo ?_
    refine ih (i+1) _ _ (by omega) ⟨rfl,rfl,rfl,rfl,trivial⟩ ⟨rfl,hlt',?_⟩
    rw [hsn,hsm,heq,he]
  ·refine zgo ?_
   refine Runs.ret Tryd.func37 (ret1 Tryd.results37 rfl) ⟨rfl,?_⟩
   have:l=m:=by
    rw [List.take_of_length_le (by omega),List.take_of_length_le (by omega)] at heq
    exact heq
   simp [this]
theorem ksameInts_ret (l m:List Nat) (v u:Value) (h:Heap) (hv:Rd h 1 v l.length (ints l)) (hu:Rd h 1 u m.length (ints m)) (hl:l.length≤16777216) (hm:m.length≤16777216) :
  Ret Tryd.prog 43 #[v,u] h fun r h'=>h'=h∧r = .bool (decide (l=m)):=by
 obtain ⟨ad,cap,e⟩:=hv.form
 obtain ⟨ad2,cap2,e2⟩:=hu.form
 subst e e2
 refine Ret.of_body Tryd.func43 rfl Tryd.ntmps43 rfl rfl ?_
 refine zgo ?_
 refine Runs.cond_ndec rfl (fun q1=>?_) (fun q1=>?_)
 ·refine zgo ?_
  refine Runs.ret Tryd.func43 (ret1 Tryd.results43 rfl) ⟨rfl,?_⟩
  have:¬ l=m:=fun e=>q1 (by rw [e])
  simp [this]
 ·have hlm:l.length=m.length:=by omega
  refine zgo ?_
  refine Runs.loop (X:=Nat) (fun i=>[(0,.slice ad l.length cap),(1,.slice ad2 m.length cap2),(12,.int .i64 (l.length:Int)),(13,.int .i64 (i:Int))])
   (fun i h'=>h=h'∧i≤l.length∧l.take i=m.take i) (fun i=>l.length-i) 0 ⟨rfl,rfl,rfl,rfl,trivial⟩ ⟨rfl,Nat.zero_le _,rfl⟩ ?_
  rintro i _ ⟨rfl,hi,heq⟩ ih
  refine zgo ?_
  refine Runs.cond_dec rfl (fun hlt=>?_) (fun hge=>?_)
  ·have hlt':i<l.length:=by omega
   have hltm:i<m.length:=by omega
   have hget:l[i]? = some l[i]:=List.getElem?_eq_getElem hlt'
   have hgetm:m[i]? = some m[i]:=List.getElem?_eq_getElem hltm
   have hsn:=List.take_succ_eq_append_getElem hlt'
   have hsm:=List.take_succ_eq_append_getElem hltm
   generalize hx:l[i]=x at *
   generalize hy:m[i]=y at *
   obtain ⟨b0,p0,cap0,e0,_,hcell⟩:=hv.cell (ints_get hget)
   cases e0
   obtain ⟨b1,p1,cap1,e1,_,hcell1⟩:=hu.cell (ints_get hgetm)
   cases e1
   refine zgo ?_
   refine Runs.still mixed (by kernel_rfl) ?_
   refine zws ?_
   refine Runs.cond_ndec rfl (fun hne=>?_) (fun he=>?_)
   ·refine zgo ?_
    refine Runs.ret Tryd.func43 (ret1 Tryd.results43 rfl) ⟨rfl,?_⟩
    have:¬ l=m:=fun e=>by
     subst e
     rw [hget] at hgetm
     cases hgetm
     exact hne rfl
    simp [this]
   ·refine zgo ?_
    refine ih (i+1) _ _ (by omega) ⟨rfl,rfl,rfl,rfl,trivial⟩ ⟨rfl,hlt',?_⟩
    have:x=y:=by omega
    rw [hsn,hsm,heq,this]
  ·refine zgo ?_
   refine Runs.ret Tryd.func43 (ret1 Tryd.results43 rfl) ⟨rfl,?_⟩
   have:l=m:=by
    rw [List.take_of_length_le (by omega),List.take_of_length_le (by omega)] at heq
    exact heq
   simp [this]
def kweight (l:List (List UInt8)):Nat:=l.foldr (fun t n=>t.length+n) 0
theorem kweight_append (l m:List (List UInt8)):kweight (l++m)=kweight l+kweight m:=by
 induction l with
 | nil=>simp [kweight]
 | cons a l ih=>simp only [kweight,List.cons_append,List.foldr_cons] at ih ⊢;omega
theorem kweight_mem {l:List (List UInt8)} {t:List UInt8} (h:t∈l):t.length≤kweight l:=by
 induction l with
 | nil=>simp at h
 | cons a l ih =>
  simp only [kweight,List.foldr_cons] at ih ⊢
  rcases List.mem_cons.1 h with e | e
  ·subst e;omega
  ·have:=ih e;omega
theorem ksmall_ret (l:List (List UInt8)) (v:Value) (h:Heap) (hv:Rd h 1 v l.length (strs l)) (hl:l.length≤281474976710656) (hw:∀ t∈l,t.length≤281474976710656) :
  Ret Tryd.prog 9 #[v] h fun r h'=>h'=h∧∃ b:Bool,r = .bool b∧(b=true→l.length+kweight l≤1048576):=by
 obtain ⟨ad,cap,e⟩:=hv.form
 subst e
 refine Ret.of_body Tryd.func9 rfl Tryd.ntmps9 rfl rfl ?_
 refine zgo ?_
 refine Runs.cond_dec rfl (fun q1=>?_) (fun q1=>?_)
 ·refine zgo ?_
  exact Runs.ret Tryd.func9 (ret1 Tryd.results9 rfl) ⟨rfl,_,rfl,fun e=>by cases e⟩
 refine zgo ?_
 refine Runs.loop (X:=Nat) (fun i=>[(3,.int .i64 ((l.length+kweight (l.take i):Nat):Int)),(10,.slice ad l.length cap),(11,.int .i64 (l.length:Int)),(12,.int .i64 (i:Int))])
  (fun i h'=>h=h'∧i≤l.length∧l.length+kweight (l.take i)≤1048576) (fun i=>l.length-i) 0 ⟨rfl,rfl,rfl,rfl,trivial⟩ ⟨rfl,Nat.zero_le _,by simp [kweight];omega⟩ ?_
 rintro i _ ⟨rfl,hi,hw1⟩ ih
 refine zgo ?_
 refine Runs.cond_dec rfl (fun hlt=>?_) (fun hge=>?_)
 rotate_left
 ·rw [List.take_of_length_le (by omega)] at hw1
  refine zgo ?_
  exact Runs.ret Tryd.func9 (ret1 Tryd.results9 rfl) ⟨rfl,_,rfl,fun _=>hw1⟩
 have hlt':i<l.length:=by omega
 have hget:l[i]? = some l[i]:=List.getElem?_eq_getElem hlt'
 have hmem:=hw l[i] (List.getElem_mem hlt')
 have hsn:kweight (l.take (i+1))=kweight (l.take i)+l[i].length:=by rw [List.take_succ_eq_append_getElem hlt',kweight_append];simp [kweight]
 generalize l[i]=t at *
 obtain ⟨b0,p0,cap0,hv0,_,hcell⟩:=hv.cell (strs_get hget)
 cases hv0
 refine zgo ?_
 refine Runs.cond_dec rfl (fun q2=>?_) (fun q2=>?_)
 ·refine zgo ?_
  exact Runs.ret Tryd.func9 (ret1 Tryd.results9 rfl) ⟨rfl,_,rfl,fun e=>by cases e⟩
 ·refine zgo ?_
  refine ih (i+1) _ _ (by omega) ⟨?_,rfl,rfl,rfl,trivial⟩ ⟨rfl,hlt',by omega⟩
  rw [hsn]
  have:(l.length+kweight (l.take i):Int)+(t.length:Int)=((l.length+(kweight (l.take i)+t.length):Nat):Int):=by omega
  exact congrArg (fun z=>some (Value.int .i64 z)) (by omega)
def Sto (F:Nat→Prop) (h:Heap) (b:Nat) (ps:List PatchD):Prop:=∃ lv l,Blk h b [lv] 65∧XS F h lv l∧l.map PD3.p=ps∧Set1 ps
theorem Sto.fr {F S:Nat→Prop} {h h':Heap} {b:Nat} {ps:List PatchD} (x:Sto F h b ps) (f:Fr S h h') (hb:¬ S b) (hs:∀ k,F k→¬ S k):Sto F h' b ps:=by
 obtain ⟨lv,l,h1,h2,h3,h4⟩:=x
 exact ⟨lv,l,h1.fr f hb,h2.fr f hs,h3,h4⟩
theorem Sto.ext {F:Nat→Prop} {h h':Heap} {b:Nat} {ps:List PatchD} (x:Sto F h b ps) (f:Ext h h'):Sto F h' b ps:=x.fr f (by simp) (by simp)
theorem Sto.mono {F F':Nat→Prop} {h:Heap} {b:Nat} {ps:List PatchD} (x:Sto F h b ps) (hs:∀ k,F k→F' k):Sto F' h b ps:=by
 obtain ⟨lv,l,h1,h2,h3,h4⟩:=x
 exact ⟨lv,l,h1,h2.mono hs,h3,h4⟩
theorem Sto.set {F:Nat→Prop} {h:Heap} {b:Nat} {ps:List PatchD} (x:Sto F h b ps):Set1 ps:=by obtain ⟨_,_,_,_,_,h4⟩:=x;exact h4
theorem Sto.lt {F:Nat→Prop} {h:Heap} {b:Nat} {ps:List PatchD} (x:Sto F h b ps):b<h.size:=by obtain ⟨_,_,h1,_⟩:=x;exact h1.lt
theorem show_len {ps:List PatchD} {sd:Nat→Int} {orx:Nat→Bool} (hinv:Inv ps) (hn:NumX ps sd orx):(showW (itemsX ps sd orx)).length≤1000:=by
 obtain ⟨st,hst⟩:=strand_ex (alS ps).length (leadS ps) (blkS ps)
 obtain ⟨orp,hor⟩:=orphan_ex ps (alS ps)
 rw [← show_same hst hor hn]
 have g1:=showTo_len (alS ps) ((opOf ps st orp).to (alS ps).length) (alS ps).length
 have g2:=alS_len ps
 have g3:=hinv.lines
 unfold showFull;omega
theorem kPull_ret {F:Nat→Prop} {a b:Nat} {ps qs:List PatchD} {h:Heap} (ht:Tab10 h) (hs:Sto F h a ps) (ho:Sto F h b qs) (hF:∀ k,F k→k≠a) :
  Ret Tryd.prog 29 #[.pointer (some ⟨a,0,none⟩),.pointer (some ⟨b,0,none⟩)] h fun v h'=>Fr (fun k=>k=a) h h'∧v = .int .i64 ((pullS ps qs).1:Int)∧Sto (fun k=>F k∨New h h' k) h' a (pullS ps qs).2:=by
 obtain ⟨lv,l,h1,h2,h3,h4⟩:=hs
 obtain ⟨mv,m,g1,g2,g3,g4⟩:=ho
 subst h3 g3
 refine (xPull_ret itoaOK a b l m lv mv h ht h1 g1 h2 g2 hF h4.inv g4.inv).mono fun v h' ⟨hf,hv,lv',l',hb',hs',hp'⟩=>⟨hf,hv,lv',l',hb',hs',hp',set_pull h4 g4⟩
theorem ktwin_ret {F:Nat→Prop} {a:Nat} {ps:List PatchD} {h:Heap} (ht:Tab10 h) (hs:Sto F h a ps) (hF:∀ k,F k→k<h.size) :
  Ret Tryd.prog 21 #[.pointer (some ⟨a,0,none⟩)] h fun v h'=>Ext h h'∧v = .pointer (some ⟨h.size,0,none⟩)∧Sto (fun k=>F k∨(New h h' k∧k≠h.size)) h' h.size ps:=by
 refine Ret.of_body Tryd.func21 rfl Tryd.ntmps21 rfl rfl ?_
 refine zgo ?_
 refine WO.call rfl rfl rfl rfl plain_xNew rfl (xNew_ret _) fun v1 h1 ⟨hx1,hz1,hv1,hb1⟩=>?_
 subst hv1
 have hnew:Sto F h1 h.size []:=⟨_,[],hb1,⟨(Own.nil h1 0 3).rd,by simp,fun k hk=>by simp [Value.ownBlock] at hk⟩,rfl,Set1.nil⟩
 refine zgo ?_
 refine WO.call rfl rfl rfl rfl plain_xPull rfl (kPull_ret (ht.fr hx1 (by simp)) hnew (hs.ext hx1) (fun k hk e=>by have:=hF k hk;omega)) fun v2 h2 ⟨hf2,hv2,hs2⟩=>?_
 subst hv2
 rw [pull_nil hs.set] at hs2
 refine zgo ?_
 refine Runs.ret Tryd.func21 (ret1 Tryd.results21 rfl) ⟨hx1.wr hf2 (Nat.le_refl _),rfl,hs2.mono fun k e=>?_⟩
 rcases e with e | e
 ·exact .inl e
 ·exact .inr ⟨e.dn hx1,fun e'=>by have:=e.1;omega⟩
theorem kalike_ret {F:Nat→Prop} {a b:Nat} {ps:List PatchD} {h:Heap} (hs:Sto F h a ps) (ho:Sto F h b ps) (hF:∀ k,F k→k<h.size) :
  Ret Tryd.prog 22 #[.pointer (some ⟨a,0,none⟩),.pointer (some ⟨b,0,none⟩)] h fun v h'=>Ext h h'∧v = .bool true:=by
 refine Ret.of_body Tryd.func22 rfl Tryd.ntmps22 rfl rfl ?_
 obtain ⟨lv,l,h1,h2,h3,h4⟩:=hs
 obtain ⟨mv,m,g1,g2,g3,_⟩:=ho
 have hinv:=h4.inv
 have hF':∀ h',Ext h h'→∀ k,F k→k<h'.size:=fun h' hx k hk=>by have:=hF k hk;have:=hx.size;omega
 have hll:l.length≤1000:=by have:=hinv.len;rw [← h3] at this;simp at this;omega
 have hml:m.length≤1000:=by have:=hinv.len;rw [← g3] at this;simp at this;omega
 refine zgo ?_
 refine WO.call rfl rfl rfl rfl plain_xShow rfl (xShow_ret a l lv _ h1 h2 hF (by rw [h3];exact hinv)) fun v1 w1 ⟨hx1,sd1,or1,hn1,ho1,hm1⟩=>?_
 refine zgo ?_
 refine WO.call rfl rfl rfl rfl plain_xShow rfl (xShow_ret b m mv _ (g1.ext hx1) (g2.ext hx1) (hF' _ hx1) (by rw [g3];exact hinv)) fun v2 w2 ⟨hx2,sd2,or2,hn2,ho2,hm2⟩=>?_
 have ho1':=ho1.fr hx2 (by simp)
 rw [h3] at hn1 ho1'
 rw [g3] at hn2 ho2
 rw [show_fun hn2 hn1] at ho2
 have hlen:(showW (itemsX ps sd1 or1)).length≤1000:=show_len hinv hn1
 generalize showW (itemsX ps sd1 or1)=L at *
 have hx02:=hx1.trans hx2
 refine zgo ?_
 refine WO.call rfl rfl rfl rfl plain_ksameTexts rfl (ksameTexts_ret L L v1 v2 _ ho1'.rd ho2.rd (by omega) (by omega)) fun v3 w3 ⟨hh3,hv3⟩=>?_
 have hv3':v3 = .bool true:=by rw [hv3];simp
 subst hh3 hv3'
 refine zgo ?_
 refine WO.call rfl rfl rfl rfl plain_xLog rfl (xLog_ret a l lv _ (h1.ext hx02) (h2.ext hx02) hll) fun v4 w4 ⟨hx4,ho4,hm4⟩=>?_
 have hx04:=hx02.trans hx4
 refine zgo ?_
 refine WO.call rfl rfl rfl rfl plain_xLog rfl (xLog_ret b m mv _ (g1.ext hx04) (g2.ext hx04) hml) fun v5 w5 ⟨hx5,ho5,hm5⟩=>?_
 have hx05:=hx04.trans hx5
 have ho4':=ho4.fr hx5 (by simp)
 rw [h3] at ho4'
 rw [g3] at ho5
 have hil:(idsS ps).length≤20:=by have:=hinv.len;simp [idsS];omega
 refine zgo ?_
 refine WO.call rfl rfl rfl rfl plain_ksameInts rfl (ksameInts_ret (idsS ps) (idsS ps) v4 v5 _ ho4'.rd ho5.rd (by omega) (by omega)) fun v6 w6 ⟨hh6,hv6⟩=>?_
 have hv6':v6 = .bool true:=by rw [hv6];simp
 subst hh6 hv6'
 refine zgo ?_
 refine WO.call rfl rfl rfl rfl plain_xClean rfl (xClean_ret a l lv _ (h1.ext hx05) (h2.ext hx05) (hF' _ hx05) (by rw [h3];exact hinv)) fun v7 w7 ⟨hx7,sd7,or7,hn7,hv7⟩=>?_
 have hx07:=hx05.trans hx7
 subst hv7
 refine zgo ?_
 refine WO.call rfl rfl rfl rfl plain_xClean rfl (xClean_ret b m mv _ (g1.ext hx07) (g2.ext hx07) (hF' _ hx07) (by rw [g3];exact hinv)) fun v8 w8 ⟨hx8,sd8,or8,hn8,hv8⟩=>?_
 subst hv8
 rw [h3] at hn7
 rw [g3] at hn8
 rw [h3,g3,blank_fun hn8 hn7]
 generalize blankX ps or7 (ordX ps sd7)=B
 refine zgo ?_
 refine WO.val (ov_beql tab_ok rfl rfl rfl rfl) rfl rfl rfl ?_
 refine zgo ?_
 exact Runs.ret Tryd.func22 (ret1 Tryd.results22 rfl) ⟨hx07.trans hx8,by simp⟩
theorem kmet_ret {F:Nat→Prop} {a b:Nat} {ps qs:List PatchD} {h:Heap} (ht:Tab10 h) (hs:Sto F h a ps) (ho:Sto F h b qs) (hab:a≠b) (hFa:∀ k,F k→k≠a) (hFb:∀ k,F k→k≠b) (hF:∀ k,F k→k<h.size) (h0a:0≠a) :
  Ret Tryd.prog 14 #[.pointer (some ⟨a,0,none⟩),.pointer (some ⟨b,0,none⟩)] h fun v h'=>Fr (fun k=>k=a∨k=b) h h'∧v = .bool true:=by
 refine Ret.of_body Tryd.func14 rfl Tryd.ntmps14 rfl rfl ?_
 have hla:=hs.lt
 have hlb:=ho.lt
 refine zgo ?_
 refine WO.call rfl rfl rfl rfl plain_ktwin rfl (ktwin_ret ht hs hF) fun v1 h1 ⟨hx1,hv1,hs1⟩=>?_
 subst hv1
 have hl1:=hs1.lt
 have hz1:=hx1.size
 refine zgo ?_
 refine WO.call rfl rfl rfl rfl plain_ktwin rfl (ktwin_ret (ht.fr hx1 (by simp)) (ho.ext hx1) (fun k hk=>by have:=hF k hk;omega)) fun v2 h2 ⟨hx2,hv2,ho2⟩=>?_
 subst hv2
 have hx02:=hx1.trans hx2
 have hz2:=hx2.size
 have hl2:=ho2.lt
 have hG:∃ G:Nat→Prop,(∀ k,F k→G k)∧(∀ k,G k→k<h2.size∧k≠a∧k≠b∧k≠h.size∧k≠h1.size)∧Sto G h2 h.size ps∧Sto G h2 h1.size qs:=by
  refine ⟨fun k=>F k∨(New h h1 k∧k≠h.size)∨(New h1 h2 k∧k≠h1.size),fun k e=>.inl e,fun k e=>?_,(hs1.ext hx2).mono fun k e=>?_,ho2.mono fun k e=>?_⟩
  ·rcases e with e | ⟨e1,e2⟩ | ⟨e1,e2⟩
   ·have:=hF k e;have:=hFa k e;have:=hFb k e;omega
   ·have:=e1.1;have:=e1.2;omega
   ·have:=e1.1;have:=e1.2;omega
  ·rcases e with e | e
   ·exact .inl e
   ·exact .inr (.inl e)
  ·rcases e with e | e
   ·exact .inl e
   ·exact .inr (.inr e)
 obtain ⟨G,hFG,hGn,hold,hpast⟩:=hG
 have hs2:=(hs.ext hx02).mono hFG
 have ho2':=(ho.ext hx02).mono hFG
 have ht2:=ht.fr hx02 (by simp)
 clear hs1 ho2
 refine zgo ?_
 refine WO.call rfl rfl rfl rfl plain_xPull rfl (kPull_ret ht2 hs2 ho2' (fun k hk=>(hGn k hk).2.1)) fun v3 h3 ⟨hf3,hv3,hs3⟩=>?_
 subst hv3
 have hz3:=hf3.size
 have hG3:∀ k,(G k∨New h2 h3 k)→k<h3.size∧k≠a∧k≠b∧k≠h.size∧k≠h1.size:=fun k e=>by
  rcases e with e | e
  ·have:=hGn k e;omega
  ·have:=e.1;have:=e.2;omega
 have ho3:=(ho2'.fr hf3 (fun e=>hab e.symm) (fun k hk=>(hGn k hk).2.1)).mono (F':=fun k=>G k∨New h2 h3 k) fun _ e=>.inl e
 have hold3:=(hold.fr hf3 (by omega) (fun k hk=>(hGn k hk).2.1)).mono (F':=fun k=>G k∨New h2 h3 k) fun _ e=>.inl e
 have hpast3:=(hpast.fr hf3 (by omega) (fun k hk=>(hGn k hk).2.1)).mono (F':=fun k=>G k∨New h2 h3 k) fun _ e=>.inl e
 have hf03:Fr (fun k=>k=a∨k=b) h h3:=(hx02.up).trans (hf3.mono fun k _ e=>.inl e)
 by_cases he:(pullS ps qs).1=0
 ·have hback:=pull_back hs.set ho.set he
  generalize (pullS ps qs).2=U at hs3 hback
  rw [he]
  refine zgo ?_
  refine WO.call rfl rfl rfl rfl plain_xPull rfl (kPull_ret (ht2.fr hf3 h0a) ho3 hs3 (fun k hk=>(hG3 k hk).2.2.1)) fun v4 h4 ⟨hf4,hv4,ho4⟩=>?_
  subst hv4
  rw [hback] at ho4
  rw [hback]
  have hz4:=hf4.size
  refine zgo ?_
  refine WO.call rfl rfl rfl rfl plain_kalike rfl (kalike_ret ((hs3.fr hf4 hab (fun k hk=>(hG3 k hk).2.2.1)).mono fun k e=>.inl e) ho4 (fun k hk=>?_)) fun v5 h5 ⟨hx5,hv5⟩=>?_
  ·rcases hk with e | e
   ·have:=hG3 k e;omega
   ·exact e.2
  subst hv5
  refine zgo ?_
  exact Runs.ret Tryd.func14 (ret1 Tryd.results14 rfl) ⟨(hf03.trans (hf4.mono fun k _ e=>.inr e)).ex hx5,rfl⟩
 ·have hsame:=pull_err he
  rw [hsame] at hs3
  generalize (pullS ps qs).1=e at he
  have hd:decide ((e:Int)=0)=false:=decide_eq_false (by omega)
  refine zgo ?_
  rw [hd]
  refine zgo ?_
  refine WO.call rfl rfl rfl rfl plain_kalike rfl (kalike_ret hs3 hold3 (fun k hk=>(hG3 k hk).1)) fun v4 h4 ⟨hx4,hv4⟩=>?_
  subst hv4
  have hz4:=hx4.size
  refine zgo ?_
  refine WO.call rfl rfl rfl rfl plain_kalike rfl (kalike_ret (ho3.ext hx4) (hpast3.ext hx4) (fun k hk=>by have:=hG3 k hk;omega)) fun v5 h5 ⟨hx5,hv5⟩=>?_
  subst hv5
  refine zgo ?_
  exact Runs.ret Tryd.func14 (ret1 Tryd.results14 rfl) ⟨hf03.ex (hx4.trans hx5),rfl⟩
end Go.Proofs.YtlaffgagmncgjabDoor
namespace Go.Proofs.YtlaffgagmncgjabDoor
open Go Go.Pat Go.Proofs
theorem plain_kname:Plain Tryd.prog 23:=⟨_,Tryd.func23,by decide +kernel,by rfl⟩
theorem plain_kcame:Plain Tryd.prog 11:=⟨_,Tryd.func11,by decide +kernel,by rfl⟩
theorem plain_kwent:Plain Tryd.prog 12:=⟨_,Tryd.func12,by decide +kernel,by rfl⟩
def dval (l:List UInt8):Nat:=l.foldl (fun n c=>10*n+(c.toNat-48)) 0
theorem dval_snoc (l:List UInt8) (c:UInt8):dval (l++[c])=10*dval l+(c.toNat-48):=by simp [dval]
theorem dec_val:∀ m n,n≤m→dval (decS n)=n∧∀ c∈decS n,48≤c.toNat∧c.toNat≤57:=by
 intro m
 induction m with
 | zero =>
  intro n hn
  have:n=0:=by omega
  subst this
  rw [decS_small (by omega)]
  exact ⟨rfl,by decide⟩
 | succ m ih =>
  intro n hn
  have hb:∀ k,k<10→(UInt8.ofNat (48+k)).toNat=48+k:=fun k hk=>by rw [UInt8.toNat_ofNat'];omega
  by_cases h:n<10
  ·rw [decS_small h]
   refine ⟨?_,fun c hc=>?_⟩
   ·show dval ([]++[UInt8.ofNat (48+n)])=n
    rw [dval_snoc,hb n h]
    simp [dval]
   ·rw [List.mem_singleton.1 hc,hb n h];omega
  ·obtain ⟨i1,i2⟩:=ih (n / 10) (by omega)
   rw [decS_big h]
   refine ⟨?_,fun c hc=>?_⟩
   ·rw [dval_snoc,i1,hb _ (by omega)];omega
   ·rcases List.mem_append.1 hc with e | e
    ·exact i2 c e
    ·rw [List.mem_singleton.1 e,hb _ (by omega)];omega
theorem dval_lt:∀ {l:List UInt8},(∀ c∈l,48≤c.toNat∧c.toNat≤57)→dval l<10 ^ l.length:=by
 intro l
 have key:∀ k,k≤l.length→(∀ c∈l,48≤c.toNat∧c.toNat≤57)→dval (l.take k)<10 ^ k:=by
  intro k
  induction k with
  | zero=>intro _ _;simp [dval]
  | succ k ih =>
   intro hk hd
   have i:=ih (by omega) hd
   have hc:=hd l[k] (List.getElem_mem (by omega))
   rw [List.take_succ_eq_append_getElem (by omega),dval_snoc,Nat.pow_succ]
   omega
 intro hd
 have:=key l.length (Nat.le_refl _) hd
 rwa [List.take_length] at this
theorem kname_ret (p:PatchD) (hid:p.id<10000) (h:Heap) (hl:(textS p).length≤16777216) :
  Ret Tryd.prog 23 #[.string (str (textS p))] h fun v h'=>h'=h∧v = .int .i64 (p.id:Int):=by
 refine Ret.of_body Tryd.func23 rfl Tryd.ntmps23 rfl rfl ?_
 obtain ⟨hval,hdig⟩:=dec_val p.id p.id (Nat.le_refl _)
 have hdl:=decS_len 3 p.id (by omega)
 obtain ⟨R,hR⟩:∃ R,textS p=[112,97,116,99,104,32]++decS p.id++10::R:=⟨[110,101,101,100,115]++needsS p.needs++[10]++p.changes.flatMap chS,by simp [textS,headS]⟩
 generalize textS p=t at *
 generalize decS p.id=D at *
 have hlen:t.length=6+D.length+1+R.length:=by rw [hR];simp;omega
 have hat:∀ j,j<D.length→t[6+j]? = D[j]?:=fun j hj=>by
  rw [hR,List.append_assoc,List.getElem?_append_right (by simp),show 6+j-[112,97,116,99,104,(32:UInt8)].length=j by simp,List.getElem?_append_left hj]
 have hend:t[6+D.length]? = some 10:=by
  rw [hR,List.getElem?_append_right (by simp;omega)]
  simp
  rw [show 6+D.length-(D.length+6)=0 by omega];rfl
 refine zgo ?_
 refine Runs.loop (X:=Nat) (fun j=>[(0,.string (str t)),(3,.int .i64 (dval (D.take j):Int)),(4,.int .i64 ((6+j:Nat):Int))])
  (fun j h'=>h=h'∧j≤D.length) (fun j=>D.length-j) 0 ⟨rfl,rfl,rfl,trivial⟩ ⟨rfl,Nat.zero_le _⟩ ?_
 rintro j _ ⟨rfl,hj⟩ ih
 have hd0:decide (((6+j:Nat):Int)<(t.length:Int))=true:=decide_eq_true (by omega)
 have hb:dval (D.take j)<10000:=by
  have h1:=dval_lt (l:=D.take j) fun c hc=>hdig c (List.mem_of_mem_take hc)
  have h2:(D.take j).length≤4:=by simp;omega
  exact Nat.lt_of_lt_of_le h1 (Nat.pow_le_pow_right (by omega) h2)
 refine zgo ?_
 rw [hd0]
 rcases Nat.lt_or_ge j D.length with hlt | hge
 ·have hget:t[6+j]? = some D[j]:=by rw [hat j hlt];exact List.getElem?_eq_getElem hlt
  have hsn:dval (D.take (j+1))=10*dval (D.take j)+(D[j].toNat-48):=by rw [List.take_succ_eq_append_getElem hlt,dval_snoc]
  have hc:=hdig D[j] (List.getElem_mem hlt)
  generalize D[j]=c at *
  have hd1:decide ((48:Int)≤(c.toNat:Int))=true:=decide_eq_true (by omega)
  have hd2:decide ((c.toNat:Int)≤57)=true:=decide_eq_true (by omega)
  refine zgo ?_
  rw [hd1]
  refine zgo ?_
  rw [hd2]
  refine zgo ?_
  refine WO.val (ov_sub rfl rfl rfl (in_u8 (by omega) (by omega))) rfl rfl rfl ?_
  refine zgo ?_
  refine ih (j+1) _ _ (by omega) ⟨rfl,?_,rfl,trivial⟩ ⟨rfl,hlt⟩
  rw [hsn]
  exact congrArg (fun z=>some (Value.int .i64 z)) (by omega)
 ·have hje:j=D.length:=by omega
  subst hje
  rw [List.take_length,hval]
  refine zgo ?_
  exact Runs.ret Tryd.func23 (ret1 Tryd.results23 rfl) ⟨rfl,rfl⟩
theorem kApply_ret {F:Nat→Prop} {a:Nat} {ps:List PatchD} {h:Heap} (ht:Tab10 h) (hs:Sto F h a ps) (hF:∀ k,F k→k≠a) (t:List UInt8) (hl:t.length≤16777216) :
  Ret Tryd.prog 18 #[.pointer (some ⟨a,0,none⟩),.string (str t)] h fun v h'=>Fr (fun k=>k=a) h h'∧v = .int .i64 ((applyS ps t).1:Int)∧Sto (fun k=>F k∨New h h' k) h' a (applyS ps t).2:=by
 obtain ⟨lv,l,h1,h2,h3,h4⟩:=hs
 subst h3
 exact (xApply_ret itoaOK a l lv t h ht h1 h2 hF h4.inv hl).mono fun v h' ⟨hf,hv,lv',l',hb',hs',hp'⟩=>⟨hf,hv,lv',l',hb',hs',hp',set_apply h4 t⟩
theorem set_un {ps ps':List PatchD} {q:Int} {e:Nat} (h:Set1 ps) (hu:UnS ps q e ps'):Set1 ps':=by
 by_cases e0:e=0
 ·subst e0
  obtain ⟨_,_,_,h1,_⟩:=went_un h hu
  exact h1
 ·rcases hu with ⟨_,_,rfl⟩ | ⟨p0,hp0,hq,⟨_,_,rfl⟩ | ⟨hno,e1,rfl⟩⟩
  ·exact h
  ·exact h
  ·exact absurd e1 e0
theorem kUn_ret {F:Nat→Prop} {a:Nat} {ps:List PatchD} {h:Heap} (hs:Sto F h a ps) (hF:∀ k,F k→k≠a) (q:Int) :
  Ret Tryd.prog 25 #[.pointer (some ⟨a,0,none⟩),.int .i64 q] h fun v h'=>Fr (fun k=>k=a) h h'∧∃ e ps',v = .int .i64 ((e:Nat):Int)∧UnS ps q e ps'∧Sto (fun k=>F k∨New h h' k) h' a ps':=by
 obtain ⟨lv,l,h1,h2,h3,h4⟩:=hs
 subst h3
 exact (xUnapply_ret a l lv q h h1 h2 hF h4.inv).mono fun v h' ⟨e,ps',hu,hf,hv,lv',l',hb',hs',hp'⟩=>⟨hf,e,ps',hv,hu,lv',l',hb',hs',hp',set_un h4 hu⟩
theorem kText_ret {F:Nat→Prop} {a:Nat} {ps:List PatchD} {h:Heap} (ht:Tab10 h) (hs:Sto F h a ps) (q:Int) :
  Ret Tryd.prog 24 #[.pointer (some ⟨a,0,none⟩),.int .i64 q] h fun v h'=>Ext h h'∧∃ t e,v = .tuple #[.string (str t),.int .i64 ((e:Nat):Int)]∧TxS ps q t e:=by
 obtain ⟨lv,l,h1,h2,h3,h4⟩:=hs
 subst h3
 exact xText_ret itoaOK a l lv q h ht h1 h2 h4.inv
theorem ktab_lt {h:Heap} (x:Tab10 h):0<h.size:=by
 obtain ⟨_,_,hx⟩:=x
 exact (Array.getElem?_eq_some_iff.1 hx).1
structure KW (h:Heap) (F:Nat→Prop) (L:List (Nat × List PatchD)):Prop where
 st:∀ x∈L,Sto F h x.1 x.2
 lt:∀ k,F k→k<h.size
 out:∀ x∈L,∀ k,F k→k≠x.1
 nd:(L.map Prod.fst).Nodup
 tab:Tab10 h
 pos:∀ x∈L,x.1≠0
section
variable {h h':Heap} {F:Nat→Prop} {a:Nat} {ps ps':List PatchD} {L:List (Nat × List PatchD)}
theorem KW.ext (w:KW h F L) (f:Ext h h'):KW h' F L:=⟨fun x hx=>(w.st x hx).ext f,fun k hk=>by have:=w.lt k hk;have:=f.size;omega,w.out,w.nd,w.tab.fr f (by simp),w.pos⟩
theorem KW.head (w:KW h F ((a,ps)::L)):Sto F h a ps:=w.st (a,ps) (by simp)
theorem KW.outH (w:KW h F ((a,ps)::L)):∀ k,F k→k≠a:=w.out (a,ps) (by simp)
theorem KW.twin (w:KW h F ((a,ps)::L)) (f:Ext h h') (hs:Sto (fun k=>F k∨(New h h' k∧k≠h.size)) h' h.size ps):KW h' (fun k=>F k∨(New h h' k∧k≠h.size)) ((a,ps)::(h.size,ps)::L):=by
 have hl:∀ x∈(a,ps)::L,x.1<h.size:=fun x hx=>(w.st x hx).lt
 have hz:=f.size
 have ht:=ktab_lt w.tab
 have three:∀ x,x∈(a,ps)::(h.size,ps)::L→x=(h.size,ps)∨x∈(a,ps)::L:=fun x hx=>by
  rcases List.mem_cons.1 hx with e | e
  ·exact .inr (by simp [e])
  ·rcases List.mem_cons.1 e with e | e
   ·exact .inl e
   ·exact .inr (List.mem_cons_of_mem _ e)
 refine ⟨fun x hx=>?_,fun k hk=>?_,fun x hx k hk=>?_,?_,w.tab.fr f (by simp),fun x hx=>?_⟩
 ·rcases three x hx with e | e
  ·subst e;exact hs
  ·exact ((w.st x e).ext f).mono fun k e=>.inl e
 ·rcases hk with e | e
  ·have:=w.lt k e;omega
  ·exact e.1.2
 ·rcases three x hx with e | e
  ·subst e
   rcases hk with e | e
   ·have:=w.lt k e;dsimp only;omega
   ·exact e.2
  ·rcases hk with e' | e'
   ·exact w.out x e k e'
   ·have:=hl x e;have:=e'.1.1;omega
 ·have hn:=w.nd
  simp only [List.map_cons,List.nodup_cons,List.mem_cons,not_or] at hn ⊢
  refine ⟨⟨?_,hn.1⟩,fun hm=>?_,hn.2⟩
  ·have:=hl (a,ps) (by simp);dsimp only at this;omega
  ·obtain ⟨x,hx,e⟩:=List.mem_map.1 hm
   have:=hl x (List.mem_cons_of_mem _ hx);omega
 ·rcases three x hx with e | e
  ·subst e;dsimp only;omega
  ·exact w.pos x e
theorem KW.op (w:KW h F ((a,ps)::L)) (f:Fr (fun k=>k=a) h h') (hs:Sto (fun k=>F k∨New h h' k) h' a ps'):KW h' (fun k=>F k∨New h h' k) ((a,ps')::L):=by
 have hz:=f.size
 have hl:∀ x∈(a,ps)::L,x.1<h.size:=fun x hx=>(w.st x hx).lt
 have hn:=w.nd
 simp only [List.map_cons,List.nodup_cons] at hn
 refine ⟨fun x hx=>?_,fun k hk=>?_,fun x hx k hk=>?_,by simpa using hn,w.tab.fr f (fun e=>w.pos (a,ps) (by simp) e.symm),fun x hx=>?_⟩
 ·rcases List.mem_cons.1 hx with e | e
  ·subst e;exact hs
  ·exact ((w.st x (List.mem_cons_of_mem _ e)).fr f (fun e'=>hn.1 (List.mem_map.2 ⟨x,e,e'⟩)) w.outH).mono fun k e=>.inl e
 ·rcases hk with e | e
  ·have:=w.lt k e;omega
  ·exact e.2
 ·have hx':∃ y∈(a,ps)::L,y.1=x.1:=by
   rcases List.mem_cons.1 hx with e | e
   ·exact ⟨(a,ps),by simp,by rw [e]⟩
   ·exact ⟨x,List.mem_cons_of_mem _ e,rfl⟩
  obtain ⟨y,hy,ey⟩:=hx'
  rcases hk with e | e
  ·rw [← ey];exact w.out y hy k e
  ·have:=hl y hy;have:=e.1;omega
 ·rcases List.mem_cons.1 hx with e | e
  ·subst e;exact w.pos (a,ps) (by simp)
  ·exact w.pos x (List.mem_cons_of_mem _ e)
end
theorem kcame_ret {F:Nat→Prop} {a:Nat} {ps:List PatchD} {h:Heap} (w:KW h F [(a,ps)]) (t:List UInt8) (hl:t.length≤16777216) :
  Ret Tryd.prog 11 #[.pointer (some ⟨a,0,none⟩),.string (str t)] h fun v h'=>Fr (fun k=>k=a) h h'∧v = .bool true:=by
 refine Ret.of_body Tryd.func11 rfl Tryd.ntmps11 rfl rfl ?_
 have hset:=w.head.set
 refine zgo ?_
 refine WO.call rfl rfl rfl rfl plain_ktwin rfl (ktwin_ret w.tab w.head w.lt) fun v1 h1 ⟨hx1,hv1,hs1⟩=>?_
 subst hv1
 have w1:=w.twin hx1 hs1
 clear hs1
 refine zgo ?_
 refine WO.call rfl rfl rfl rfl plain_xApply rfl (kApply_ret w1.tab w1.head w1.outH t hl) fun v2 h2 ⟨hf2,hv2,hs2⟩=>?_
 subst hv2
 have w2:=w1.op hf2 hs2
 clear hs2
 have hf02:Fr (fun k=>k=a) h h2:=hx1.up.trans hf2
 rcases apply_cases ps t with ⟨e,he0,he⟩ | ⟨p,hp⟩
 ·rw [he] at w2
  rw [he]
  dsimp only at w2 ⊢
  have hd:decide ((e:Int)=0)=false:=decide_eq_false (by omega)
  refine zgo ?_
  rw [hd]
  refine zgo ?_
  refine WO.call rfl rfl rfl rfl plain_kalike rfl (kalike_ret w2.head (w2.st (h.size,ps) (by simp)) w2.lt) fun v3 h3 ⟨hx3,hv3⟩=>?_
  subst hv3
  refine zgo ?_
  exact Runs.ret Tryd.func11 (ret1 Tryd.results11 rfl) ⟨hf02.ex hx3,rfl⟩
 have hap:=lets_apply hp
 have htx:=parse_text hp.parse
 have hpok:=(parse_ok hp.parse).1
 rw [hap] at w2
 rw [hap]
 dsimp only at w2 ⊢
 refine zgo ?_
 rw [← htx]
 rw [← htx] at hl
 refine WO.call rfl rfl rfl rfl plain_kname rfl (kname_ret p (by have:=hpok.id;omega) _ hl) fun v3 h3 ⟨hh3,hv3⟩=>?_
 subst hh3 hv3
 refine zgo ?_
 refine WO.call rfl rfl rfl rfl plain_xText rfl (kText_ret w2.tab w2.head (p.id:Int)) fun v4 h4 ⟨hx4,t4,e4,hv4,ht4⟩=>?_
 subst hv4
 have hmem:p∈withS p ps:=withS_mem.2 (.inl rfl)
 obtain ⟨rfl,rfl⟩:=tx_fun w2.head.set.inv.nodup ht4 (.inl ⟨p,hmem,rfl,rfl,rfl⟩)
 have w4:=w2.ext hx4
 refine zgo ?_
 refine WO.call rfl rfl rfl rfl plain_ktwin rfl (ktwin_ret w4.tab w4.head w4.lt) fun v5 h5 ⟨hx5,hv5,hs5⟩=>?_
 subst hv5
 have w5:=w4.twin hx5 hs5
 clear hs5
 refine zgo ?_
 refine WO.call rfl rfl rfl rfl plain_xUnapply rfl (kUn_ret w5.head w5.outH (p.id:Int)) fun v6 h6 ⟨hf6,e6,ps6,hv6,hu6,hs6⟩=>?_
 obtain ⟨rfl,rfl⟩:=un_fun w2.head.set.inv.nodup hu6 (un_with hset hp)
 subst hv6
 have w6:=w5.op hf6 hs6
 clear hs6
 refine zgo ?_
 refine WO.call rfl rfl rfl rfl plain_kalike rfl (kalike_ret w6.head (w6.st (h.size,ps6) (by simp)) w6.lt) fun v7 h7 ⟨hx7,hv7⟩=>?_
 subst hv7
 have w7:=w6.ext hx7
 refine zgo ?_
 refine WO.call rfl rfl rfl rfl plain_xApply rfl (kApply_ret w7.tab w7.head w7.outH (textS p) hl) fun v8 h8 ⟨hf8,hv8,hs8⟩=>?_
 subst hv8
 have w8:=w7.op hf8 hs8
 clear hs8
 have hap2:applyS ps6 (textS p)=(0,withS p ps6):=by rw [htx];exact hap
 rw [hap2] at w8
 rw [hap2]
 dsimp only at w8 ⊢
 have hdt:decide (textS p=textS p)=true:=by simp
 refine zgo ?_
 rw [hdt]
 refine zgo ?_
 refine WO.call rfl rfl rfl rfl plain_kalike rfl (kalike_ret w8.head (w8.st (h4.size,withS p ps6) (by simp)) w8.lt) fun v9 h9 ⟨hx9,hv9⟩=>?_
 subst hv9
 refine zgo ?_
 exact Runs.ret Tryd.func11 (ret1 Tryd.results11 rfl) ⟨((((((hf02.ex hx4).ex hx5).trans hf6).ex hx7).trans hf8).ex hx9),rfl⟩
theorem kwent_ret {F:Nat→Prop} {a:Nat} {ps:List PatchD} {h:Heap} (w:KW h F [(a,ps)]) (q:Int) :
  Ret Tryd.prog 12 #[.pointer (some ⟨a,0,none⟩),.int .i64 q] h fun v h'=>Fr (fun k=>k=a) h h'∧v = .bool true:=by
 refine Ret.of_body Tryd.func12 rfl Tryd.ntmps12 rfl rfl ?_
 have hset:=w.head.set
 refine zgo ?_
 refine WO.call rfl rfl rfl rfl plain_ktwin rfl (ktwin_ret w.tab w.head w.lt) fun v1 h1 ⟨hx1,hv1,hs1⟩=>?_
 subst hv1
 have w1:=w.twin hx1 hs1
 clear hs1
 refine zgo ?_
 refine WO.call rfl rfl rfl rfl plain_xText rfl (kText_ret w1.tab w1.head q) fun v2 h2 ⟨hx2,t,e,hv2,ht⟩=>?_
 subst hv2
 have w2:=w1.ext hx2
 refine zgo ?_
 refine WO.call rfl rfl rfl rfl plain_xUnapply rfl (kUn_ret w2.head w2.outH q) fun v3 h3 ⟨hf3,f,ps3,hv3,hu,hs3⟩=>?_
 subst hv3
 have w3:=w2.op hf3 hs3
 clear hs3
 have hf03:Fr (fun k=>k=a) h h3:=((hx1.trans hx2).up).trans hf3
 by_cases f0:f=0
 ·subst f0
  obtain ⟨p,hp,hq,hset3,hlets,hback⟩:=went_un hset hu
  obtain ⟨rfl,rfl⟩:=tx_fun hset.inv.nodup ht (.inl ⟨p,hp,hq,rfl,rfl⟩)
  have hap:=lets_apply hlets
  have hpl:=text_1400 hset.inv hp
  refine zgo ?_
  refine WO.call rfl rfl rfl rfl plain_xApply rfl (kApply_ret w3.tab w3.head w3.outH (textS p) (by omega)) fun v4 h4 ⟨hf4,hv4,hs4⟩=>?_
  subst hv4
  have w4:=w3.op hf4 hs4
  clear hs4
  rw [hap,hback] at w4
  rw [hap]
  dsimp only at w4 ⊢
  refine zgo ?_
  refine WO.call rfl rfl rfl rfl plain_kalike rfl (kalike_ret w4.head (w4.st (h.size,ps) (by simp)) w4.lt) fun v5 h5 ⟨hx5,hv5⟩=>?_
  subst hv5
  refine zgo ?_
  exact Runs.ret Tryd.func12 (ret1 Tryd.results12 rfl) ⟨(hf03.trans hf4).ex hx5,rfl⟩
 ·have same:ps3=ps∧(f=8↔e=8):=by
   rcases hu with ⟨h1,h2,h3⟩ | ⟨p,hp,hq,⟨_,h2,h3⟩ | ⟨_,h2,_⟩⟩
   ·refine ⟨h3,fun _=>?_,fun _=>h2⟩
    rcases ht with ⟨p,hp,hq,_⟩ | ⟨_,_,e8⟩
    ·exact absurd hq (h1 p hp)
    ·exact e8
   ·refine ⟨h3,fun e9=>by omega,fun e8=>?_⟩
    rcases ht with ⟨_,_,_,_,e0⟩ | ⟨hno,_,_⟩
    ·omega
    ·exact absurd hq (hno p hp)
   ·exact absurd h2 f0
  obtain ⟨rfl,hfe⟩:=same
  have hd:decide ((f:Int)=0)=false:=decide_eq_false (by omega)
  have he:decide ((f:Int)=8)=decide ((e:Int)=8):=decide_eq_decide.2 (by omega)
  refine zgo ?_
  rw [hd]
  refine zgo ?_
  refine WO.call rfl rfl rfl rfl plain_kalike rfl (kalike_ret w3.head (w3.st (h.size,ps3) (by simp)) w3.lt) fun v5 h5 ⟨hx5,hv5⟩=>?_
  subst hv5
  refine zgo ?_
  rw [he]
  refine WO.val (ov_beql tab_ok rfl rfl rfl rfl) rfl rfl rfl ?_
  refine zgo ?_
  exact Runs.ret Tryd.func12 (ret1 Tryd.results12 rfl) ⟨hf03.ex hx5,by simp⟩
end Go.Proofs.YtlaffgagmncgjabDoor
namespace Go.Proofs.YtlaffgagmncgjabDoor
open Go Go.Pat Go.Proofs
theorem plain_kalive:Plain Tryd.prog 20:=⟨_,Tryd.func20,by decide +kernel,by rfl⟩
theorem plain_kof:Plain Tryd.prog 10:=⟨_,Tryd.func10,by decide +kernel,by rfl⟩
def txtA:List UInt8:=[112,97,116,99,104,32,49,10,110,101,101,100,115,10,97,100,100,32,94,32,36,32,97,10,97,100,100,32,49,46,48,32,36,32,98,10,97,100,100,32,49,46,49,32,36,32,99,10]
def patA:PatchD:=⟨1,[],[⟨1,⟨0,0⟩,⟨0,1⟩,[97]⟩,⟨1,⟨1,0⟩,⟨0,1⟩,[98]⟩,⟨1,⟨1,1⟩,⟨0,1⟩,[99]⟩]⟩
theorem applyA:applyS [] txtA=(0,[patA]):=by kernel_rfl
theorem textA:textS patA=txtA:=by kernel_rfl
theorem blkA:blkS [patA]=[-1,-1,-1]:=by kernel_rfl
theorem leadA:leadS [patA]=[[false,true,true],[false,false,true],[false,false,false]]:=by kernel_rfl
theorem alA:(alS [patA]).length=3:=by kernel_rfl
def stA (i:Nat):Nat:=if i<3 then 0 else i
theorem strandA (i:Nat):IsStrand (alS [patA]).length (leadS [patA]) (blkS [patA]) i (stA i):=by
 rw [alA,leadA,blkA]
 unfold stA
 split
 ·rename_i h
  refine ⟨?_,fun k _=>Nat.zero_le _⟩
  have:i=0∨i=1∨i=2:=by omega
  rcases this with e | e | e
  ·subst e;exact .refl
  ·subst e;exact .step .refl (by omega) rfl
  ·subst e;exact .step .refl (by omega) rfl
 ·rename_i h
  refine ⟨.refl,fun k hk=>?_⟩
  have hi:([-1,-1,-1]:List Int).getD i 0=0:=by
   rw [List.getD_eq_getElem?_getD,List.getElem?_eq_none (by simp;omega)];rfl
  have:k=i:=hk (fun x=>x=i) rfl fun a b ha hb hbn=>by
   exfalso
   subst ha
   unfold bndS at hbn
   rw [Bool.and_eq_true,decide_eq_true_iff,hi] at hbn
   have:b=0∨b=1∨b=2:=by omega
   rcases this with e | e | e<;>(subst e;exact absurd hbn.1 (by decide))
  omega
theorem orphanA (i:Nat) (l:LineD) (_:(alS [patA])[i]? = some l):((fun _=>false:Nat→Bool) i=true↔Orphan [patA] l):=by
 constructor
 ·intro e;cases e
 ·rintro ⟨k,_,d,hd,_⟩
  exfalso
  simp [killersS,kills,patA] at hd
theorem showA:showFull [patA] stA (fun _=>false)=[[32,97],[32,98],[32,99]]:=by kernel_rfl
theorem cleanA:cleanS (shL [patA] stA (fun _=>false))=true:=by kernel_rfl
theorem fileA:(shL [patA] stA (fun _=>false)).map (textAt (alS [patA]))=[[97],[98],[99]]:=by kernel_rfl
theorem kalive_ret (h:Heap) (ht:Tab10 h):Ret Tryd.prog 20 #[] h fun v h'=>Ext h h'∧v = .bool true:=by
 refine Ret.of_body Tryd.func20 rfl Tryd.ntmps20 rfl rfl ?_
 have hpos:=ktab_lt ht
 refine zgo ?_
 refine WO.call rfl rfl rfl rfl plain_xNew rfl (xNew_ret _) fun v1 h1 ⟨hx1,hz1,hv1,hb1⟩=>?_
 subst hv1
 have hnew:Sto (fun _=>False) h1 h.size []:=⟨_,[],hb1,⟨(Own.nil h1 0 3).rd,by simp,fun k hk=>by simp [Value.ownBlock] at hk⟩,rfl,Set1.nil⟩
 have w1:KW h1 (fun _=>False) [(h.size,[])]:=⟨fun x hx=>by simp at hx;subst hx;exact hnew,fun _ e=>e.elim,fun _ _ _ e=>e.elim,by simp,ht.fr hx1 (by simp),fun x hx=>by simp at hx;subst hx;dsimp only;omega⟩
 refine zgo ?_
 refine WO.call rfl rfl rfl rfl plain_xApply rfl (kApply_ret w1.tab w1.head w1.outH txtA (by decide)) fun v2 h2 ⟨hf2,hv2,hs2⟩=>?_
 subst hv2
 have w2:=w1.op hf2 hs2
 clear hs2
 rw [applyA] at w2
 rw [applyA]
 dsimp only at w2 ⊢
 have hx2:Ext h h2:=hx1.wr hf2 (Nat.le_refl _)
 refine zgo ?_
 refine WO.call rfl rfl rfl rfl plain_xText rfl (kText_ret w2.tab w2.head 1) fun v3 h3 ⟨hx3,t3,e3,hv3,ht3⟩=>?_
 subst hv3
 obtain ⟨rfl,rfl⟩:=tx_fun w2.head.set.inv.nodup ht3 (.inl ⟨patA,by simp,rfl,rfl,rfl⟩)
 rw [textA]
 have w3:=w2.ext hx3
 have hinv:=w3.head.set.inv
 obtain ⟨lv,l,b3,s3,p3,_⟩:=w3.head
 have hil:Inv (l.map PD3.p):=by rw [p3];exact hinv
 refine zgo ?_
 refine WO.call rfl rfl rfl rfl plain_xFile rfl (xFile_ret h.size l lv _ b3 s3 w3.lt hil) fun v4 h4 ⟨hx4,sd4,or4,hn4,hP4⟩=>?_
 rw [p3] at hn4 hP4
 have hfile:∃ f4,v4 = .tuple #[f4,.int .i64 0]∧Own h4 9 1 f4 3 (strs [[97],[98],[99]]):=by
  have c4:=clean_same strandA orphanA hn4
  have f4:=file_same (orp:=fun _=>false) strandA hn4
  rw [cleanA] at c4
  rw [fileA] at f4
  rcases hP4 with ⟨e,_⟩ | ⟨_,f,hv,ho,_⟩
  ·rw [← c4] at e;cases e
  ·rw [← f4] at ho
   exact ⟨f,hv,ho⟩
 obtain ⟨f4,hv4,hof4⟩:=hfile
 subst hv4
 have hx34:=hx3.trans hx4
 refine zgo ?_
 refine WO.lit [.string (str [97]),.string (str [98]),.string (str [99])] tab_ok rfl rfl rfl rfl rfl rfl rfl rfl rfl rfl rfl rfl fun h5 hb5 hx5 hs5=>?_
 have hr5:Rd h5 1 (.slice (some ⟨h4.size,0,none⟩) 3 3) 3 (strs [[97],[98],[99]]):=⟨rfl,.inr ⟨h4.size,0,3,rfl,Nat.le_refl _,hb5.cells⟩⟩
 refine zgo ?_
 refine WO.call rfl rfl rfl rfl plain_ksameTexts rfl (ksameTexts_ret [[97],[98],[99]] [[97],[98],[99]] f4 _ _ (hof4.fr hx5 (by simp)).rd hr5 (by simp) (by simp)) fun v6 h6 ⟨hh6,hv6⟩=>?_
 have hv6':v6 = .bool true:=by rw [hv6];simp
 subst hh6 hv6'
 have hx36:=hx34.trans hx5
 refine zgo ?_
 refine WO.call rfl rfl rfl rfl plain_xShow rfl (xShow_ret h.size l lv _ (b3.ext (hx4.trans hx5)) (s3.ext (hx4.trans hx5)) (fun k hk=>by have:=w3.lt k hk;have:=hx4.size;have:=hx5.size;omega) hil) fun v7 h7 ⟨hx7,sd7,or7,hn7,ho7,hm7⟩=>?_
 rw [p3] at hn7 ho7
 rw [← show_same strandA orphanA hn7,showA] at ho7
 refine zgo ?_
 refine WO.lit [.string (str [32,97]),.string (str [32,98]),.string (str [32,99])] tab_ok rfl rfl rfl rfl rfl rfl rfl rfl rfl rfl rfl rfl fun h8 hb8 hx8 hs8=>?_
 have hr8:Rd h8 1 (.slice (some ⟨h7.size,0,none⟩) 3 3) 3 (strs [[32,97],[32,98],[32,99]]):=⟨rfl,.inr ⟨h7.size,0,3,rfl,Nat.le_refl _,hb8.cells⟩⟩
 refine zgo ?_
 refine WO.call rfl rfl rfl rfl plain_ksameTexts rfl (ksameTexts_ret [[32,97],[32,98],[32,99]] [[32,97],[32,98],[32,99]] v7 _ _ (ho7.fr hx8 (by simp)).rd hr8 (by simp) (by simp)) fun v9 h9 ⟨hh9,hv9⟩=>?_
 have hv9':v9 = .bool true:=by rw [hv9];simp
 subst hh9 hv9'
 have hx39:=hx36.trans (hx7.trans hx8)
 have hx49:=(hx4.trans hx5).trans (hx7.trans hx8)
 refine zgo ?_
 refine WO.call rfl rfl rfl rfl plain_xLog rfl (xLog_ret h.size l lv _ (b3.ext hx49) (s3.ext hx49) (by have:=congrArg List.length p3;simp at this;omega)) fun va ha ⟨hxa,hoa,hma⟩=>?_
 rw [p3] at hoa
 refine zgo ?_
 refine WO.lit [.int .i64 1] tab_ok rfl rfl rfl rfl rfl rfl rfl rfl rfl rfl rfl rfl fun hb hbb hxb hsb=>?_
 have hrb:Rd hb 1 (.slice (some ⟨ha.size,0,none⟩) 1 1) 1 (ints [1]):=⟨rfl,.inr ⟨ha.size,0,1,rfl,Nat.le_refl _,hbb.cells⟩⟩
 refine zgo ?_
 refine WO.call rfl rfl rfl rfl plain_ksameInts rfl (ksameInts_ret [1] [1] va _ _ (hoa.fr hxb (by simp)).rd hrb (by simp) (by simp)) fun vc hc ⟨hhc,hvc⟩=>?_
 have hvc':vc = .bool true:=by rw [hvc];simp
 subst hhc hvc'
 refine zgo ?_
 exact Runs.ret Tryd.func20 (ret1 Tryd.results20 rfl) ⟨(hx2.trans hx39).trans (hxa.trans hxb),rfl⟩
structure OfX where
 (i n:Nat) (F:Nat→Prop) (ps:List PatchD)
theorem kof_ret (l:List (List UInt8)) (v:Value) (h:Heap) (ht:Tab10 h) (hv:Rd h 1 v l.length (strs l)) (hl:l.length+kweight l≤1048576) :
  Ret Tryd.prog 10 #[v] h fun r h'=>Ext h h'∧r = .tuple #[.pointer (some ⟨h.size,0,none⟩),.bool true]∧∃ F ps,KW h' F [(h.size,ps)]∧∀ k,F k→h.size<k:=by
 obtain ⟨ad,cap,e⟩:=hv.form
 subst e
 refine Ret.of_body Tryd.func10 rfl Tryd.ntmps10 rfl rfl ?_
 have hpos:=ktab_lt ht
 refine zgo ?_
 refine WO.call rfl rfl rfl rfl plain_xNew rfl (xNew_ret _) fun v1 h1 ⟨hx1,hz1,hv1,hb1⟩=>?_
 subst hv1
 have hnew:Sto (fun _=>False) h1 h.size []:=⟨_,[],hb1,⟨(Own.nil h1 0 3).rd,by simp,fun k hk=>by simp [Value.ownBlock] at hk⟩,rfl,Set1.nil⟩
 have w1:KW h1 (fun _=>False) [(h.size,[])]:=⟨fun x hx=>by simp at hx;subst hx;exact hnew,fun _ e=>e.elim,fun _ _ _ e=>e.elim,by simp,ht.fr hx1 (by simp),fun x hx=>by simp at hx;subst hx;dsimp only;omega⟩
 refine zgo ?_
 refine Runs.loop (X:=OfX) (fun u=>[(4,.pointer (some ⟨h.size,0,none⟩)),(5,.int .i64 (u.n:Int)),(9,.slice ad l.length cap),(10,.int .i64 (l.length:Int)),(11,.int .i64 (u.i:Int))])
  (fun u h'=>u.i≤l.length∧Ext h h'∧KW h' u.F [(h.size,u.ps)]∧u.ps.length=u.n∧(∀ k,u.F k→h.size<k)∧h.size<h'.size) (fun u=>l.length-u.i) ⟨0,0,fun _=>False,[]⟩ ⟨rfl,rfl,rfl,rfl,rfl,trivial⟩ ⟨Nat.zero_le _,hx1,w1,rfl,fun _ e=>e.elim,by omega⟩ ?_
 rintro ⟨i,n,F,ps⟩ h2 ⟨hi,hx2,w2,hn,hF,hz2⟩ ih
 dsimp only at hi hx2 w2 hn hF ih ⊢
 have hset:=w2.head.set
 have hn20:=hset.inv.len
 refine zgo ?_
 refine Runs.cond_dec rfl (fun hlt=>?_) (fun hge=>?_)
 ·have hlt':i<l.length:=by omega
  have hget:l[i]? = some l[i]:=List.getElem?_eq_getElem hlt'
  have hmem:=kweight_mem (List.getElem_mem hlt')
  generalize l[i]=t at *
  obtain ⟨b0,p0,cap0,hv0,_,hcell⟩:=(hv.ext hx2).cell (strs_get hget)
  cases hv0
  refine zgo ?_
  refine WO.call rfl rfl rfl rfl plain_xApply rfl (kApply_ret w2.tab w2.head w2.outH t (by omega)) fun v3 h3 ⟨hf3,hv3,hs3⟩=>?_
  subst hv3
  have w3:=w2.op hf3 hs3
  clear hs3
  have hx3:Ext h h3:=hx2.wr hf3 (Nat.le_refl _)
  have hz3:=hf3.size
  have hF3:∀ k,(F k∨New h2 h3 k)→h.size<k:=fun k e=>by
   rcases e with e | e
   ·exact hF k e
   ·have:=e.1;omega
  rcases apply_cases ps t with ⟨e,he0,he⟩ | ⟨p,hp⟩
  ·rw [he] at w3
   rw [he]
   dsimp only at w3 ⊢
   have hd:decide ((e:Int)=0)=false:=decide_eq_false (by omega)
   refine zgo ?_
   rw [hd]
   refine zgo ?_
   exact ih ⟨i+1,n,_,ps⟩ _ _ (by dsimp only;omega) ⟨rfl,rfl,rfl,rfl,rfl,trivial⟩ ⟨hlt',hx3,w3,hn,hF3,by omega⟩
  ·rw [lets_apply hp] at w3
   rw [lets_apply hp]
   dsimp only at w3 ⊢
   refine zgo ?_
   exact ih ⟨i+1,n+1,_,withS p ps⟩ _ _ (by dsimp only;omega) ⟨rfl,rfl,rfl,rfl,rfl,trivial⟩ ⟨hlt',hx3,w3,by dsimp only;rw [withS_len];omega,hF3,by omega⟩
 obtain ⟨lv,m,b3,s3,p3,_⟩:=w2.head
 have hml:m.length=n:=by have:=congrArg List.length p3;simp at this;omega
 refine zgo ?_
 refine WO.call rfl rfl rfl rfl plain_xLog rfl (xLog_ret h.size m lv _ b3 s3 (by omega)) fun v4 h4 ⟨hx4,ho4,hm4⟩=>?_
 rw [p3] at ho4
 have hil:(idsS ps).length=n:=by simp [idsS];exact hn
 obtain ⟨ad4,cap4,hv4⟩:=ho4.rd.form
 subst hv4
 have hd:decide (((idsS ps).length:Int)=(n:Int))=true:=decide_eq_true (by omega)
 have w4:=w2.ext hx4
 refine zgo ?_
 rw [hd]
 refine zgo ?_
 refine WO.call rfl rfl rfl rfl plain_kalive rfl (kalive_ret _ w4.tab) fun v5 h5 ⟨hx5,hv5⟩=>?_
 subst hv5
 refine zgo ?_
 exact Runs.ret Tryd.func10 (ret2 Tryd.results10 rfl rfl) ⟨(hx2.trans hx4).trans hx5,rfl,F,ps,w4.ext hx5,hF⟩
end Go.Proofs.YtlaffgagmncgjabDoor
namespace Go.Proofs.YtlaffgagmncgjabDoor
open Go Go.Pat Go.Proofs
structure Texts (h:Heap) (v:Value) (l:List (List UInt8)):Prop where
 rd:Rd h 1 v l.length (strs l)
 len:l.length≤281474976710656
 each:∀ t∈l,t.length≤281474976710656
theorem Texts.ext {h h':Heap} {v:Value} {l:List (List UInt8)} (x:Texts h v l) (f:Ext h h'):Texts h' v l:=⟨x.rd.ext f,x.len,x.each⟩
theorem kMet_ret (l m:List (List UInt8)) (v u:Value) (h:Heap) (hv:Texts h v l) (hu:Texts h u m) (ht:Tab10 h) :
  Ret Tryd.prog 6 #[v,u] h fun r h'=>Ext h h'∧r = .bool true:=by
 refine Ret.of_body Tryd.func6 rfl Tryd.ntmps6 rfl rfl ?_
 have hpos:=ktab_lt ht
 refine zgo ?_
 refine WO.call rfl rfl rfl rfl plain_ksmall rfl (ksmall_ret l v _ hv.rd hv.len hv.each) fun v1 h1 ⟨hh1,r1,hv1,hr1⟩=>?_
 subst hh1 hv1
 cases r1
 ·refine zgo ?_
  exact Runs.ret Tryd.func6 (ret1 Tryd.results6 rfl) ⟨Fr.refl _ _,rfl⟩
 refine zgo ?_
 refine WO.call rfl rfl rfl rfl plain_ksmall rfl (ksmall_ret m u _ hu.rd hu.len hu.each) fun v2 h2 ⟨hh2,r2,hv2,hr2⟩=>?_
 subst hh2 hv2
 cases r2
 ·refine zgo ?_
  exact Runs.ret Tryd.func6 (ret1 Tryd.results6 rfl) ⟨Fr.refl _ _,rfl⟩
 refine zgo ?_
 refine WO.call rfl rfl rfl rfl plain_kof rfl (kof_ret l v _ ht hv.rd (hr1 rfl)) fun v3 h3 ⟨hx3,hv3,F,ps,w3,hF3⟩=>?_
 subst hv3
 have hl3:=w3.head.lt
 refine zgo ?_
 refine WO.call rfl rfl rfl rfl plain_kof rfl (kof_ret m u _ w3.tab (hu.rd.ext hx3) (hr2 rfl)) fun v4 h4 ⟨hx4,hv4,G,qs,w4,hF4⟩=>?_
 subst hv4
 have hl4:=w4.head.lt
 refine zgo ?_
 refine WO.call rfl rfl rfl rfl plain_kmet rfl (kmet_ret (F:=fun k=>F k∨G k) w4.tab ((w3.ext hx4).head.mono fun k e=>.inl e) (w4.head.mono fun k e=>.inr e) (by omega) (fun k e=>?_) (fun k e=>?_) (fun k e=>?_) (by omega)) fun v5 h5 ⟨hf5,hv5⟩=>?_
 ·rcases e with e | e
  ·exact w3.outH k e
  ·have:=hF4 k e;omega
 ·rcases e with e | e
  ·have:=w3.lt k e;omega
  ·exact w4.outH k e
 ·rcases e with e | e
  ·have:=w3.lt k e;omega
  ·exact w4.lt k e
 subst hv5
 refine zgo ?_
 refine Runs.ret Tryd.func6 (ret1 Tryd.results6 rfl) ⟨(hx3.trans hx4).trans_new (hf5.mono fun k _ e=>.inr ?_),rfl⟩
 rcases e with e | e<;>omega
theorem kCame_ret (l:List (List UInt8)) (v:Value) (t:List UInt8) (h:Heap) (hv:Texts h v l) (hl:t.length≤281474976710656) (ht:Tab10 h) :
  Ret Tryd.prog 3 #[v,.string (str t)] h fun r h'=>Ext h h'∧r = .bool true:=by
 refine Ret.of_body Tryd.func3 rfl Tryd.ntmps3 rfl rfl ?_
 refine zgo ?_
 refine WO.call rfl rfl rfl rfl plain_ksmall rfl (ksmall_ret l v _ hv.rd hv.len hv.each) fun v1 h1 ⟨hh1,r1,hv1,hr1⟩=>?_
 subst hh1 hv1
 cases r1
 ·refine zgo ?_
  exact Runs.ret Tryd.func3 (ret1 Tryd.results3 rfl) ⟨Fr.refl _ _,rfl⟩
 refine zgo ?_
 refine Runs.cond_dec rfl (fun hbig=>?_) (fun hbig=>?_)
 ·refine zgo ?_
  exact Runs.ret Tryd.func3 (ret1 Tryd.results3 rfl) ⟨Fr.refl _ _,rfl⟩
 refine zgo ?_
 refine WO.call rfl rfl rfl rfl plain_kof rfl (kof_ret l v _ ht hv.rd (hr1 rfl)) fun v3 h3 ⟨hx3,hv3,F,ps,w3,hF3⟩=>?_
 subst hv3
 refine zgo ?_
 refine WO.call rfl rfl rfl rfl plain_kcame rfl (kcame_ret w3 t (by omega)) fun v5 h5 ⟨hf5,hv5⟩=>?_
 subst hv5
 refine zgo ?_
 exact Runs.ret Tryd.func3 (ret1 Tryd.results3 rfl) ⟨hx3.wr hf5 (Nat.le_refl _),rfl⟩
theorem kWent_ret (l:List (List UInt8)) (v:Value) (q:Int) (h:Heap) (hv:Texts h v l) (ht:Tab10 h) :
  Ret Tryd.prog 4 #[v,.int .i64 q] h fun r h'=>Ext h h'∧r = .bool true:=by
 refine Ret.of_body Tryd.func4 rfl Tryd.ntmps4 rfl rfl ?_
 refine zgo ?_
 refine WO.call rfl rfl rfl rfl plain_ksmall rfl (ksmall_ret l v _ hv.rd hv.len hv.each) fun v1 h1 ⟨hh1,r1,hv1,hr1⟩=>?_
 subst hh1 hv1
 cases r1
 ·refine zgo ?_
  exact Runs.ret Tryd.func4 (ret1 Tryd.results4 rfl) ⟨Fr.refl _ _,rfl⟩
 refine zgo ?_
 refine WO.call rfl rfl rfl rfl plain_kof rfl (kof_ret l v _ ht hv.rd (hr1 rfl)) fun v3 h3 ⟨hx3,hv3,F,ps,w3,hF3⟩=>?_
 subst hv3
 refine zgo ?_
 refine WO.call rfl rfl rfl rfl plain_kwent rfl (kwent_ret w3 q) fun v5 h5 ⟨hf5,hv5⟩=>?_
 subst hv5
 refine zgo ?_
 exact Runs.ret Tryd.func4 (ret1 Tryd.results4 rfl) ⟨hx3.wr hf5 (Nat.le_refl _),rfl⟩
end Go.Proofs.YtlaffgagmncgjabDoor
