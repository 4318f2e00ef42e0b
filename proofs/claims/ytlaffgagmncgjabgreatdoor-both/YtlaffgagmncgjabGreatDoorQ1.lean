import Derived.Test.YtlaffgagmncgjabGreatDoorW9
import Derived.Test.YtlaffgagmncgjabGreatDoorR1
set_option maxRecDepth 20000
set_option maxHeartbeats 3200000
namespace Go.Proofs.YtlaffgagmncgjabGreatDoor
open Tryz Go Go.Pat Go.Proofs
theorem plain_isLineText:Plain Tryz.prog 102:=⟨_,func102,by decide +kernel,by rfl⟩
theorem plain_mayBeFile:Plain Tryz.prog 59:=⟨_,func59,by decide +kernel,by rfl⟩
theorem plain_staysAs:Plain Tryz.prog 191:=⟨_,func191,by decide +kernel,by rfl⟩
theorem plain_greater:Plain Tryz.prog 209:=⟨_,func209,by decide +kernel,by rfl⟩
theorem plain_common:Plain Tryz.prog 190:=⟨_,func190,by decide +kernel,by rfl⟩
theorem plain_rstay:Plain Tryz.prog 146:=⟨_,func146,by decide +kernel,by rfl⟩
theorem textOk_prn (t:List UInt8):textOk t=(decide (t.length≤12)&&t.all isPrn):=rfl
def fileOk (W:List (List UInt8)):Bool:=decide (W.length≤24)&&W.all textOk
theorem isLineText_ret (t:List UInt8) (h:Heap) (hl:t.length≤16777216):Ret Tryz.prog 102 #[.string (str t)] h fun v h'=>h'=h∧v = .bool (textOk t):=by
 refine Ret.of_body func102 rfl ntmps102 rfl rfl ?_
 rw [textOk_prn]
 refine zgo ?_
 refine Runs.cond_dec rfl (fun hgt=>?_) (fun hle=>?_)
 ·have hd:decide (t.length≤12)=false:=decide_eq_false (by omega)
  rw [hd]
  refine zgo ?_
  exact Runs.ret func102 (ret1 results102 rfl) ⟨rfl,rfl⟩
 have hd:decide (t.length≤12)=true:=decide_eq_true (by omega)
 rw [hd,Bool.true_and]
 refine zgo ?_
 refine Runs.loop (X:=Nat) (fun i=>[(0,.string (str t)),(3,.int .i64 (i:Int))])
  (fun i h'=>h=h'∧i≤t.length∧∀ c∈t.take i,isPrn c=true) (fun i=>t.length-i) 0 ⟨rfl,rfl,trivial⟩ ⟨rfl,Nat.zero_le _,by simp⟩ ?_
 rintro i _ ⟨rfl,hi,hall⟩ ih
 refine zgo ?_
 refine Runs.cond_dec rfl (fun hlt=>?_) (fun hge=>?_)
 rotate_left
 ·rw [List.take_of_length_le (by omega)] at hall
  refine zgo ?_
  refine Runs.ret func102 (ret1 results102 rfl) ⟨rfl,?_⟩
  congr 1;symm
  exact List.all_eq_true.2 hall
 have hlt':i<t.length:=by omega
 have hget:t[i]? = some t[i]:=List.getElem?_eq_getElem hlt'
 have hmem:t[i]∈t:=List.getElem_mem hlt'
 have hsn:t.take (i+1)=t.take i++[t[i]]:=List.take_succ_eq_append_getElem hlt'
 generalize t[i]=c at *
 refine zgo ?_
 refine WO.call rfl rfl rfl rfl plain_isPlain rfl (isPlain_ret c h) fun v1 h1 ⟨hx1,hv1⟩=>?_
 subst hx1 hv1
 refine zgo ?_
 refine Runs.cond rfl (fun hq=>?_) (fun hq=>?_)
 ·refine zgo ?_
  refine Runs.ret func102 (ret1 results102 rfl) ⟨rfl,?_⟩
  congr 1;symm
  exact List.all_eq_false.2 ⟨c,hmem,by simpa using hq⟩
 ·refine zgo ?_
  refine ih (i+1) _ _ (by omega) ⟨rfl,rfl,trivial⟩ ⟨rfl,hlt',fun x hx=>?_⟩
  rw [hsn] at hx
  rcases List.mem_append.1 hx with e | e
  ·exact hall x e
  ·simp at e;subst e;simpa using hq
theorem mayBeFile_ret (W:List (List UInt8)) (vw:Value) (h:Heap) (hr:Rd h 1 vw W.length (strs W)) (hl:W.length≤16777216) (htl:∀ t∈W,t.length≤16777216):Ret Tryz.prog 59 #[vw] h fun v h'=>h'=h∧v = .bool (fileOk W):=by
 refine Ret.of_body func59 rfl ntmps59 rfl rfl ?_
 unfold fileOk
 obtain ⟨aw,cw,e⟩:=hr.form
 subst e
 refine zgo ?_
 refine Runs.cond_dec rfl (fun hgt=>?_) (fun hle=>?_)
 ·have hd:decide (W.length≤24)=false:=decide_eq_false (by omega)
  rw [hd]
  refine zgo ?_
  exact Runs.ret func59 (ret1 results59 rfl) ⟨rfl,rfl⟩
 have hd:decide (W.length≤24)=true:=decide_eq_true (by omega)
 rw [hd,Bool.true_and]
 refine zgo ?_
 refine Runs.loop (X:=Nat) (fun i=>[(0,.slice aw W.length cw),(3,.int .i64 (i:Int))])
  (fun i h'=>h=h'∧i≤W.length∧∀ c∈W.take i,textOk c=true) (fun i=>W.length-i) 0 ⟨rfl,rfl,trivial⟩ ⟨rfl,Nat.zero_le _,by simp⟩ ?_
 rintro i _ ⟨rfl,hi,hall⟩ ih
 refine zgo ?_
 refine Runs.cond_dec rfl (fun hlt=>?_) (fun hge=>?_)
 rotate_left
 ·rw [List.take_of_length_le (by omega)] at hall
  refine zgo ?_
  refine Runs.ret func59 (ret1 results59 rfl) ⟨rfl,?_⟩
  congr 1;symm
  exact List.all_eq_true.2 hall
 have hlt':i<W.length:=by omega
 have hget:W[i]? = some W[i]:=List.getElem?_eq_getElem hlt'
 have hmem:W[i]∈W:=List.getElem_mem hlt'
 have hsn:W.take (i+1)=W.take i++[W[i]]:=List.take_succ_eq_append_getElem hlt'
 generalize W[i]=t at *
 obtain ⟨b0,p0,cap0,hv0,_,hc0⟩:=hr.cell (strs_get hget)
 cases hv0
 refine zgo ?_
 refine WO.call rfl rfl rfl rfl plain_isLineText rfl (isLineText_ret t h (htl t hmem)) fun v1 h1 ⟨hx1,hv1⟩=>?_
 subst hx1 hv1
 refine zgo ?_
 refine Runs.cond rfl (fun hq=>?_) (fun hq=>?_)
 ·refine zgo ?_
  refine Runs.ret func59 (ret1 results59 rfl) ⟨rfl,?_⟩
  congr 1;symm
  exact List.all_eq_false.2 ⟨t,hmem,by simpa using hq⟩
 ·refine zgo ?_
  refine ih (i+1) _ _ (by omega) ⟨rfl,rfl,trivial⟩ ⟨rfl,hlt',fun x hx=>?_⟩
  rw [hsn] at hx
  rcases List.mem_append.1 hx with e | e
  ·exact hall x e
  ·simp at e;subst e;simpa using hq
theorem mark124 (ps:List PatchD) (orx:Nat→Bool) (k:Nat):[UInt8.ofNat (markX ps orx k)]=([124]:List UInt8)↔markX ps orx k=124:=by
 unfold markX
 split
 ·simp
 ·split
  ·simp
  ·split<;>simp
def hlX (ps:List PatchD) (orx:Nat→Bool) (k:Nat):HLine:=(mayB (markX ps orx k),(lnX ps k).text)
theorem staysAs_ret (ps:List PatchD) (sd:Nat→Int) (orx:Nat→Bool) (k:Nat) (y:List UInt8) (h:Heap) :
  Ret Tryz.prog 191 #[.agg (slX ps sd orx k).toArray,.string (str y)] h fun v h'=>Ext h h'∧v = .bool (mtc (hlX ps orx k) y):=by
 refine Ret.of_body func191 rfl ntmps191 rfl rfl ?_
 have m1:=mark32 ps orx k
 have m2:=mark124 ps orx k
 unfold mtc hlX mayB
 dsimp only
 have e1:decide (markX ps orx k=32)=decide ([UInt8.ofNat (markX ps orx k)]=([32]:List UInt8)):=decide_eq_decide.2 m1.symm
 have e2:decide (markX ps orx k=124)=decide ([UInt8.ofNat (markX ps orx k)]=([124]:List UInt8)):=decide_eq_decide.2 m2.symm
 rw [e1,e2]
 refine zgo ?_
 refine zb fun h1 hb1 hx1 hs1=>?_
 have c2:=hb1.cell (j:=3) rfl
 have c1:=hb1.cell (j:=2) rfl
 generalize hm:[UInt8.ofNat (markX ps orx k)]=m at *
 refine zgo ?_
 by_cases q1:m=[32]
 ·have hd:decide (m=[32])=true:=decide_eq_true q1
  rw [hd]
  refine zgo ?_
  refine Runs.ret func191 (ret1 results191 rfl) ⟨hx1,?_⟩
  rfl
 ·have hd:decide (m=[32])=false:=decide_eq_false q1
  rw [hd]
  refine zgo ?_
  by_cases q2:m=[124]
  ·have hd2:decide (m=[124])=true:=decide_eq_true q2
   rw [hd2]
   refine zgo ?_
   refine Runs.ret func191 (ret1 results191 rfl) ⟨hx1,?_⟩
   rfl
  ·have hd2:decide (m=[124])=false:=decide_eq_false q2
   rw [hd2]
   refine zgo ?_
   exact Runs.ret func191 (ret1 results191 rfl) ⟨hx1,rfl⟩
theorem greater_ret (a b:Nat) (h:Heap):Ret Tryz.prog 209 #[.int .i64 (a:Int),.int .i64 (b:Int)] h fun v h'=>h'=h∧v = .int .i64 ((max a b:Nat):Int):=by
 refine Ret.of_body func209 rfl ntmps209 rfl rfl ?_
 refine zgo ?_
 refine Runs.cond_dec rfl (fun hq=>?_) (fun hq=>?_)
 ·refine zgo ?_
  refine Runs.ret func209 (ret1 results209 rfl) ⟨rfl,?_⟩
  rw [Nat.max_eq_left (by omega)]
 ·refine zgo ?_
  refine Runs.ret func209 (ret1 results209 rfl) ⟨rfl,?_⟩
  rw [Nat.max_eq_right (by omega)]
end Go.Proofs.YtlaffgagmncgjabGreatDoor
namespace Go.Proofs.YtlaffgagmncgjabGreatDoor
open Tryz Go Go.Pat Go.Proofs
def hlsX (ps:List PatchD) (orx:Nat→Bool) (L:List Nat):List HLine:=L.map (hlX ps orx)
structure QCX where
 (k:Nat) (v:Value) (rbs:List Nat)
def FillC (H:List HLine) (W:List (List UInt8)) (k l:Nat) (t:Nat→Nat→Nat):Prop:=∀ a b,a≤H.length→b≤W.length→(k<a∨(a=k∧l≤b)∨b=W.length)→t a b=lcA H W a b
theorem common_ret (ps:List PatchD) (sd:Nat→Int) (orx:Nat→Bool) (L:List Nat) (W:List (List UInt8)) (vh vw:Value) (h:Heap) (hH:Rd h 5 vh L.length (L.flatMap (slX ps sd orx))) (hW:Rd h 1 vw W.length (strs W)) (hl:L.length≤1000) (hw:W.length≤1000) :
  Ret Tryz.prog 190 #[vh,vw] h fun v h'=>Ext h h'∧∃ rbs t,rbs.length=L.length+1∧Rd h' 1 v (L.length+1) (rowsV (W.length+1) rbs)∧TB h' 3 (W.length+1) rbs t∧(∀ a b,a≤L.length→b≤W.length→t a b=lcA (hlsX ps orx L) W a b)∧(∀ rb∈rbs,h.size≤rb)∧∀ k,v.ownBlock=some k→h.size≤k:=by
 refine Ret.of_body func190 rfl ntmps190 rfl rfl ?_
 obtain ⟨ah,ch,e⟩:=hH.form
 subst e
 obtain ⟨aw,cw,e⟩:=hW.form
 subst e
 have hHl:(hlsX ps orx L).length=L.length:=by simp [hlsX]
 refine zgo ?_
 refine Runs.loop (X:=QCX) (fun x=>[(0,.slice ah L.length ch),(1,.slice aw W.length cw),(5,x.v),(6,.int .i64 (x.k:Int))])
  (fun x h'=>x.k≤L.length+1∧x.rbs.length=x.k∧Ext h h'∧Own h' 48 1 x.v x.k (rowsV (W.length+1) x.rbs)∧(∀ rb∈x.rbs,h.size≤rb∧x.v.ownBlock≠some rb)∧(∀ k,x.v.ownBlock=some k→h.size≤k)∧TB h' 3 (W.length+1) x.rbs (fun _ _=>0))
  (fun x=>L.length+1-x.k) ⟨0,.slice none 0 0,[]⟩ ⟨rfl,rfl,rfl,rfl,trivial⟩ ⟨Nat.zero_le _,rfl,Fr.refl _ _,Own.nil _ _ _,by simp,fun k hk=>by simp [Value.ownBlock] at hk,⟨fun i b hi=>by simp at hi,by simp⟩⟩ ?_
 rintro ⟨k,v,rbs⟩ h2 ⟨hk,hkl,hx2,ho2,hrb2,hv2,ht2⟩ ih
 dsimp only at hk hkl hx2 ho2 hrb2 hv2 ht2 ih ⊢
 have hz2:=hx2.size
 refine zgo ?_
 refine Runs.cond_dec rfl (fun hlt=>?_) (fun hge=>?_)
 ·have hlt':k<L.length+1:=by omega
  refine zgo ?_
  refine WO.make (m:=W.length+1) tab_ok rfl rfl rfl rfl rfl rfl rfl rfl rfl rfl (by omega) fun h3 hb3 hx3 hs3=>?_
  refine zgo ?_
  refine zh (one_slice _ _ _) (ho2.fr hx3 (by simp)) ?_
  intro v4 h4 o1 o2 o3
  refine zgo ?_
  have hvl:=ho2.lt
  have hrl:∀ rb∈rbs,rb<h2.size:=fun rb hrb=>by
   obtain ⟨i,hi⟩:=List.getElem?_of_mem hrb
   exact (ht2.row _ _ hi).lt
  have hne:∀ rb∈rbs,v4.ownBlock≠some rb:=fun rb hrb e=>by
   rcases o3 rb e with q | q
   ·exact (hrb2 rb hrb).2 q
   ·have:=hrl rb hrb;omega
  have hvb:v4.ownBlock≠some h2.size:=fun e=>by
   rcases o3 _ e with q | q
   ·have:=hvl _ q;omega
   ·omega
  refine ih ⟨k+1,v4,rbs++[h2.size]⟩ _ _ (by dsimp only;omega) ⟨rfl,rfl,rfl,rfl,trivial⟩ ⟨hlt',by simp;omega,?_,?_,fun rb hrb=>?_,fun b hb=>?_,fun i b hi=>?_,?_⟩
  ·exact (hx2.trans hx3).trans_new (o2.mono fun b _ e=>.inr (hv2 b e))
  ·have e:rowsV (W.length+1) (rbs++[h2.size])=rowsV (W.length+1) rbs++[.slice (some ⟨h2.size,0,none⟩) (W.length+1) (W.length+1)]:=by simp [rowsV]
   rw [e];exact o1
  ·rcases List.mem_append.1 hrb with e | e
   ·exact ⟨(hrb2 rb e).1,hne rb e⟩
   ·simp at e;subst e;exact ⟨hz2,hvb⟩
  ·rcases o3 b hb with e | e
   ·exact hv2 b e
   ·omega
  ·dsimp only at hi
   rcases Nat.lt_or_ge i rbs.length with e | e
   ·rw [List.getElem?_append_left e] at hi
    exact ((ht2.row i b hi).ext hx3).fr o2 (hrb2 b (List.mem_of_getElem? hi)).2
   ·rw [List.getElem?_append_right e] at hi
    have hb:h2.size=b:=by
     have:=List.mem_of_getElem? hi
     simp at this
     exact this.symm
    subst hb
    rw [← rowI_zero]
    exact hb3.fr o2 fun e=>by have:=hvl _ e;omega
  ·rw [List.nodup_append]
   refine ⟨ht2.nodup,by simp,fun x hx y hy e=>?_⟩
   simp at hy;subst hy;subst e
   have:=hrl _ hx
   omega
 have hk':k=L.length+1:=by omega
 subst hk'
 clear ih hge
 have hrow:∀ i,i≤L.length→∃ rb,rbs[i]? = some rb∧h.size≤rb:=fun i hi=>by
  have hlt:i<rbs.length:=by omega
  exact ⟨rbs[i],List.getElem?_eq_getElem hlt,(hrb2 _ (List.getElem_mem hlt)).1⟩
 have hr2:=ho2.rd
 obtain ⟨av,cv,e⟩:=hr2.form
 subst e
 have hext:∀ h',Fr (fun k=>k∈rbs) h2 h'→Ext h h':=fun h' hf=>hx2.trans_new (hf.mono fun k _ e=>.inr (hrb2 k e).1)
 have hout:∀ h',Fr (fun k=>k∈rbs) h2 h'→Rd h' 1 (.slice av (L.length+1) cv) (L.length+1) (rowsV (W.length+1) rbs):=fun h' hf=>hr2.fr hf fun k hk e=>(hrb2 k e).2 hk
 have hrc:∀ (h':Heap) (i rb:Nat),Fr (fun k=>k∈rbs) h2 h'→rbs[i]? = some rb→∃ b p,av=some ⟨b,p,none⟩∧cellAt h' b (p+i*1)=some (.slice (some ⟨rb,0,none⟩) (W.length+1) (W.length+1)):=fun h' i rb hf hi=>by
  obtain ⟨b,p,c,e1,_,e3⟩:=(hout h' hf).cell (i:=i) (u:=.slice (some ⟨rb,0,none⟩) (W.length+1) (W.length+1)) (by simp [rowsV,hi])
  cases e1
  exact ⟨b,p,rfl,e3⟩
 refine zgo ?_
 refine Runs.loop (X:=BX) (fun x=>[(0,.slice ah L.length ch),(1,.slice aw W.length cw),(5,.slice av (L.length+1) cv),(7,.int .i64 ((x.i:Int)-1))])
  (fun x h'=>x.i≤L.length∧Fr (fun k=>k∈rbs) h2 h'∧TB h' 3 (W.length+1) rbs x.t∧FillC (hlsX ps orx L) W x.i 0 x.t)
  (fun x=>x.i) ⟨L.length,fun _ _=>0⟩ ⟨rfl,rfl,rfl,rfl,trivial⟩ ⟨Nat.le_refl _,Fr.refl _ _,ht2,fun a b ha hb hab=>?_⟩ ?_
 ·rcases hab with e | e | e
  ·dsimp only at e;rw [lcA_end1 (by omega)]
  ·dsimp only at e;rw [lcA_end1 (by omega)]
  ·rw [lcA_end2 (by omega)]
 rintro ⟨k,t⟩ h3 ⟨hk,hf3,ht3,hfill⟩ ih
 dsimp only at hk hf3 ht3 hfill ih ⊢
 refine zgo ?_
 refine Runs.cond_dec rfl (fun hlt=>?_) (fun hge=>?_)
 rotate_left
 ·have hk0:k=0:=by omega
  subst hk0
  refine zgo ?_
  refine Runs.ret func190 (ret1 results190 rfl) ⟨hext _ hf3,rbs,t,hkl,hout _ hf3,ht3,fun a b ha hb=>hfill a b (by omega) hb (by omega),fun rb hrb=>(hrb2 rb hrb).1,hv2⟩
 obtain ⟨i,rfl⟩:∃ i,k=i+1:=⟨k-1,by omega⟩
 rw [show (((i+1:Nat):Int)-1)=(i:Int) by omega]
 have hil:i<L.length:=by omega
 refine zgo ?_
 refine Runs.loop (X:=BX) (fun x=>[(0,.slice ah L.length ch),(1,.slice aw W.length cw),(5,.slice av (L.length+1) cv),(7,.int .i64 (i:Int)),(8,.int .i64 ((x.i:Int)-1))])
  (fun x h'=>x.i≤W.length∧Fr (fun k=>k∈rbs) h2 h'∧TB h' 3 (W.length+1) rbs x.t∧FillC (hlsX ps orx L) W i x.i x.t)
  (fun x=>x.i) ⟨W.length,t⟩ ⟨rfl,rfl,rfl,rfl,rfl,trivial⟩ ⟨Nat.le_refl _,hf3,ht3,fun a b ha hb hab=>?_⟩ ?_
 ·dsimp only at hab
  rcases hab with e | e | e
  ·exact hfill a b ha hb (by omega)
  ·exact hfill a b ha hb (by omega)
  ·exact hfill a b ha hb (by omega)
 clear hf3 ht3 hfill
 rintro ⟨l,t1⟩ h4 ⟨hj,hf4,ht4,hfill⟩ ih2
 dsimp only at hj hf4 ht4 hfill ih2 ⊢
 refine zgo ?_
 refine Runs.cond_dec rfl (fun hjt=>?_) (fun hge=>?_)
 rotate_left
 ·have hl0:l=0:=by omega
  subst hl0
  refine zgo ?_
  exact ih ⟨i,t1⟩ _ _ (by dsimp only;omega) ⟨rfl,rfl,rfl,rfl,trivial⟩ ⟨by dsimp only;omega,hf4,ht4,hfill⟩
 obtain ⟨j,rfl⟩:∃ j,l=j+1:=⟨l-1,by omega⟩
 rw [show (((j+1:Nat):Int)-1)=(j:Int) by omega]
 have hjl:j<W.length:=by omega
 have hgx:L[i]? = some L[i]:=List.getElem?_eq_getElem hil
 have hgy:W[j]? = some W[j]:=List.getElem?_eq_getElem hjl
 have hmt:mtS (hlsX ps orx L) W i j=mtc (hlX ps orx L[i]) W[j]:=by
  unfold mtS hlsX
  rw [List.getElem?_map,hgx,hgy];rfl
 have hstep:=lcA_step (H:=hlsX ps orx L) (W:=W) (i:=i) (j:=j) (by omega) hjl
 rw [hmt,← hfill (i+1) (j+1) (by omega) (by omega) (.inl (by omega)),← hfill (i+1) j (by omega) (by omega) (.inl (by omega)),← hfill i (j+1) (by omega) (by omega) (.inr (.inl ⟨rfl,by omega⟩))] at hstep
 have hb11:t1 (i+1) (j+1)≤1000:=by rw [hfill (i+1) (j+1) (by omega) (by omega) (.inl (by omega))];exact Nat.le_trans (lcA_le _ _) (by omega)
 generalize L[i]=a at *
 generalize W[j]=y at *
 obtain ⟨bh,ph,kh,eh,_,gh0⟩:=(hH.ext (hext _ hf4)).pos (by omega)
 cases eh
 have gh:Cells h4 bh (ph+i*5) (slX ps sd orx a):=flat_get (slX_len ps sd orx) gh0 hgx
 obtain ⟨b3,p3,k3,ew,_,gw⟩:=(hW.ext (hext _ hf4)).cell (strs_get hgy)
 cases ew
 obtain ⟨rb0,hrb0,hn0⟩:=hrow i (by omega)
 obtain ⟨rb1,hrb1,hn1⟩:=hrow (i+1) (by omega)
 have hS2:∀ v:Nat,(v=lcA (hlsX ps orx L) W i j)→FillC (hlsX ps orx L) W i j (setT t1 i j v):=fun v hv a b ha hb hab=>by
  unfold setT
  by_cases e:a=i∧b=j
  ·rw [if_pos e,hv,e.1,e.2]
  ·rw [if_neg e];exact hfill a b ha hb (by omega)
 refine zgo ?_
 refine Runs.drawn (m:=9) (fun h'=>Ext h4 h') (fun _=>false) mixed rfl ?_
 refine zp 0 (Fr.refl _ _) ?_
 refine zp 1 (Fr.refl _ _) ?_
 refine zi 2 hil (Fr.refl _ _) ?_
 refine zL 3 (fun _ hS=>(Fr.xcs hS gh)) (Fr.refl _ _) ?_
 refine zp 4 (Fr.refl _ _) ?_
 refine zp 5 (Fr.refl _ _) ?_
 refine zi 6 hjl (Fr.refl _ _) ?_
 refine zl 7 (fun _ hS=>(Fr.xc hS gw)) (Fr.refl _ _) ?_
 refine WF.call 8 (by kernel_rfl) rfl rfl rfl rfl rfl plain_staysAs rfl (staysAs_ret ps sd orx a y _) fun v5 h5 ⟨hx5,hv5⟩=>⟨.inr hx5,?_⟩
 subst hv5
 refine zd ?_
 have hf5:Fr (fun k=>k∈rbs) h2 h5:=hf4.trans (hx5.mono fun k _ e=>e.elim)
 have ht5:=ht4.ext hx5
 obtain ⟨bo,po,eo,r0⟩:=hrc _ _ _ hf5 hrb0
 obtain ⟨_,_,eo',r1⟩:=hrc _ _ _ hf5 hrb1
 rw [eo] at eo'
 cases eo'
 subst eo
 have c11:=ht5.cell (j:=j+1) hrb1 (by omega)
 have c10:=ht5.cell (j:=j) hrb1 (by omega)
 have c01:=ht5.cell (j:=j+1) hrb0 (by omega)
 have hi1:i<L.length+1:=by omega
 have hi2:i+1<L.length+1:=by omega
 have hj1:j<W.length+1:=by omega
 have hj2:j+1<W.length+1:=by omega
 have fin:∀ (t2:Nat) h6,t2=lcA (hlsX ps orx L) W i j→Blk h6 rb0 ((rowI (W.length+1) (t1 i)).set (0+j*1) (.int .i64 (t2:Int))) 3→Fr (fun k=>k=rb0) h5 h6→j≤W.length∧Fr (fun k=>k∈rbs) h2 h6∧TB h6 3 (W.length+1) rbs (setT t1 i j t2)∧FillC (hlsX ps orx L) W i j (setT t1 i j t2):=fun t2 h6 he hb hx=>by
  rw [Nat.zero_add,Nat.mul_one] at hb
  exact ⟨by omega,hf5.trans (hx.mono fun k _ e=>by rw [e];exact List.mem_of_getElem? hrb0),ht5.set hrb0 hb hx,hS2 _ he⟩
 refine Runs.cond rfl (fun hq=>?_) (fun hq=>?_)
 ·rw [if_pos hq] at hstep
  refine zgo ?_
  refine Runs.drawn (m:=17) (fun h'=>h5=h') (fun i=>Nat.beq i 16) mixed rfl ?_
  refine zp 0 rfl ?_
  refine zp 1 rfl ?_
  refine zi 2 hi1 rfl ?_
  refine WF.take 3 rfl (fun _ hS=>by rw [← hS];exact ov_load tab_ok rfl rfl rfl rfl r0) rfl rfl rfl rfl (by kernel_rfl) ?_
  refine zp 4 rfl ?_
  refine zp 5 rfl ?_
  refine zp 6 rfl ?_
  refine WF.take 7 rfl (fun _ _=>ov_add rfl rfl rfl (in_i64 (by omega) (by omega))) rfl rfl rfl rfl (by kernel_rfl) ?_
  refine zi 8 hi2 rfl ?_
  refine WF.take 9 rfl (fun _ hS=>by rw [← hS];exact ov_load tab_ok rfl rfl rfl rfl r1) rfl rfl rfl rfl (by kernel_rfl) ?_
  refine zp 10 rfl ?_
  refine WF.take 11 rfl (fun _ _=>ov_add rfl rfl rfl (in_i64 (by omega) (by omega))) rfl rfl rfl rfl (by kernel_rfl) ?_
  refine zi 12 hj2 rfl ?_
  refine WF.take 13 rfl (fun _ hS=>by rw [← hS];exact ov_load tab_ok rfl rfl rfl rfl c11) rfl rfl rfl rfl (by kernel_rfl) ?_
  refine WF.take 14 rfl (fun _ _=>ov_add rfl rfl rfl (in_i64 (by omega) (by omega))) rfl rfl rfl rfl (by kernel_rfl) ?_
  refine zi 15 hj1 rfl ?_
  refine WF.put1 16 tab_ok (by kernel_rfl) rfl rfl rfl rfl rfl rfl rfl rfl (one_int _) (ht5.row _ _ hrb0) (by rw [rowI_length];omega) rfl fun h6 hb6 hx6 hs6=>?_
  refine zd ?_
  refine zgo ?_
  exact ih2 ⟨j,setT t1 i j (t1 (i+1) (j+1)+1)⟩ _ _ (by dsimp only;omega) ⟨rfl,rfl,rfl,rfl,rfl,trivial⟩ (fin _ _ hstep.symm hb6 hx6)
 ·rw [if_neg (by rw [hq];simp)] at hstep
  refine zgo ?_
  refine Runs.drawn (m:=24) (fun h'=>h5=h') (fun i=>Nat.beq i 23) mixed rfl ?_
  refine zp 0 rfl ?_
  refine zp 1 rfl ?_
  refine zi 2 hi1 rfl ?_
  refine WF.take 3 rfl (fun _ hS=>by rw [← hS];exact ov_load tab_ok rfl rfl rfl rfl r0) rfl rfl rfl rfl (by kernel_rfl) ?_
  refine zp 4 rfl ?_
  refine zp 5 rfl ?_
  refine zp 6 rfl ?_
  refine WF.take 7 rfl (fun _ _=>ov_add rfl rfl rfl (in_i64 (by omega) (by omega))) rfl rfl rfl rfl (by kernel_rfl) ?_
  refine zi 8 hi2 rfl ?_
  refine WF.take 9 rfl (fun _ hS=>by rw [← hS];exact ov_load tab_ok rfl rfl rfl rfl r1) rfl rfl rfl rfl (by kernel_rfl) ?_
  refine zp 10 rfl ?_
  refine zi 11 hj1 rfl ?_
  refine WF.take 12 rfl (fun _ hS=>by rw [← hS];exact ov_load tab_ok rfl rfl rfl rfl c10) rfl rfl rfl rfl (by kernel_rfl) ?_
  refine zp 13 rfl ?_
  refine zp 14 rfl ?_
  refine zi 15 hi1 rfl ?_
  refine WF.take 16 rfl (fun _ hS=>by rw [← hS];exact ov_load tab_ok rfl rfl rfl rfl r0) rfl rfl rfl rfl (by kernel_rfl) ?_
  refine zp 17 rfl ?_
  refine WF.take 18 rfl (fun _ _=>ov_add rfl rfl rfl (in_i64 (by omega) (by omega))) rfl rfl rfl rfl (by kernel_rfl) ?_
  refine zi 19 hj2 rfl ?_
  refine WF.take 20 rfl (fun _ hS=>by rw [← hS];exact ov_load tab_ok rfl rfl rfl rfl c01) rfl rfl rfl rfl (by kernel_rfl) ?_
  refine WF.call 21 (by kernel_rfl) rfl rfl rfl rfl rfl plain_greater rfl (greater_ret (t1 (i+1) j) (t1 i (j+1)) h5) fun v6 h6 ⟨hx6,hv6⟩=>⟨.inr hx6.symm,?_⟩
  subst hx6 hv6
  refine WF.ex 22 (by kernel_rfl) rfl rfl rfl rfl ((ov_indexAddr tab_ok rfl rfl rfl rfl rfl rfl hj1).ex ⟨.inr rfl,?_⟩)
  refine WF.put1 23 tab_ok (by kernel_rfl) rfl rfl rfl rfl rfl rfl rfl rfl (one_int _) (ht5.row _ _ hrb0) (by rw [rowI_length];omega) rfl fun h6 hb6 hx6 hs6=>?_
  refine zd ?_
  refine zgo ?_
  exact ih2 ⟨j,setT t1 i j (max (t1 (i+1) j) (t1 i (j+1)))⟩ _ _ (by dsimp only;omega) ⟨rfl,rfl,rfl,rfl,rfl,trivial⟩ (fin _ _ hstep.symm hb6 hx6)
structure QSX where
 (i j:Nat) (acc:List (Nat × Nat))
theorem rstay_ret (ps:List PatchD) (sd:Nat→Int) (orx:Nat→Bool) (L:List Nat) (W:List (List UInt8)) (vh vw:Value) (h:Heap) (hH:Rd h 5 vh L.length (L.flatMap (slX ps sd orx))) (hW:Rd h 1 vw W.length (strs W)) (hl:L.length≤1000) (hw:W.length≤1000) :
  Ret Tryz.prog 146 #[vh,vw] h fun v h'=>Ext h h'∧Own h' 3 1 v W.length (rowZ W.length fun j=>oi (atJ (prs (hlsX ps orx L) W) j))∧∀ k,v.ownBlock=some k→h.size≤k:=by
 refine Ret.of_body func146 rfl ntmps146 rfl rfl ?_
 obtain ⟨ah,ch,e⟩:=hH.form
 subst e
 obtain ⟨aw,cw,e⟩:=hW.form
 subst e
 have hHl:(hlsX ps orx L).length=L.length:=by simp [hlsX]
 refine zgo ?_
 refine Runs.loop (X:=IV) (fun x=>[(0,.slice ah L.length ch),(1,.slice aw W.length cw),(5,x.v),(6,.int .i64 (x.i:Int))])
  (fun x h'=>x.i≤W.length∧Ext h h'∧Own h' 3 1 x.v x.i (rowZ x.i fun _=>-1)∧(∀ k,x.v.ownBlock=some k→h.size≤k))
  (fun x=>W.length-x.i) ⟨0,.slice none 0 0⟩ ⟨rfl,rfl,rfl,rfl,trivial⟩ ⟨Nat.zero_le _,Fr.refl _ _,Own.nil _ _ _,fun k hk=>by simp [Value.ownBlock] at hk⟩ ?_
 rintro ⟨i,v⟩ h2 ⟨hi,hx2,ho2,hv2⟩ ih
 dsimp only at hi hx2 ho2 hv2 ih ⊢
 have hz2:=hx2.size
 refine zgo ?_
 refine Runs.cond_dec rfl (fun hlt=>?_) (fun hge=>?_)
 ·have hlt':i<W.length:=by omega
  refine zgo ?_
  refine zh (one_int _) ho2 ?_
  intro v4 h4 o1 o2 o3
  refine zgo ?_
  refine ih ⟨i+1,v4⟩ _ _ (by dsimp only;omega) ⟨rfl,rfl,rfl,rfl,trivial⟩ ⟨hlt',hx2.trans_new (o2.mono fun k _ e=>.inr (hv2 k e)),?_,fun k hk=>?_⟩
  ·have e:rowZ (i+1) (fun _=>-1)=rowZ i (fun _=>-1)++[.int .i64 (-1)]:=by simp [rowZ,List.range_succ]
   rw [e];exact o1
  ·rcases o3 k hk with e | e
   ·exact hv2 k e
   ·omega
 have hi':i=W.length:=by omega
 subst hi'
 clear ih hge
 refine zgo ?_
 refine WO.call rfl rfl rfl rfl plain_common rfl (common_ret ps sd orx L W _ _ h2 (hH.ext hx2) (hW.ext hx2) hl hw) fun v3 h3 ⟨hx3,rbs,t,hrl,hr3,ht3,hfill,hrb3,hv3⟩=>?_
 obtain ⟨at_,ct,e⟩:=hr3.form
 subst e
 have ho3:=ho2.fr hx3 (by simp)
 have hvl:=ho2.lt
 have hx03:=hx2.trans hx3
 obtain ⟨av,cv,e⟩:=ho2.rd.form
 subst e
 refine zgo ?_
 refine Runs.loop (X:=QSX) (fun x=>[(0,.slice ah L.length ch),(1,.slice aw W.length cw),(5,.slice av W.length cv),(7,.slice at_ (L.length+1) ct),(8,.int .i64 (x.i:Int)),(9,.int .i64 (x.j:Int))])
  (fun x h'=>x.i≤L.length∧x.j≤W.length∧Fr (fun k=>(Value.slice av W.length cv).ownBlock=some k) h3 h'∧KA (hlsX ps orx L) W x.i x.j x.acc∧Own h' 3 1 (.slice av W.length cv) W.length (rowZ W.length fun j=>oi (atJ x.acc j)))
  (fun x=>(L.length-x.i)+(W.length-x.j)) ⟨0,0,[]⟩ ⟨rfl,rfl,rfl,rfl,rfl,rfl,trivial⟩ ⟨Nat.zero_le _,Nat.zero_le _,Fr.refl _ _,KA.nil _ _,ho3⟩ ?_
 rintro ⟨i,j,acc⟩ h4 ⟨hi,hj,hf4,ka,ho4⟩ ih
 dsimp only at hi hj hf4 ka ho4 ih ⊢
 have hxx:Ext h h4:=hx03.trans_new (hf4.mono fun k _ e=>.inr (hv2 k e))
 refine zgo ?_
 by_cases hlt:i<L.length
 rotate_left
 ·have hd:decide ((i:Int)<(L.length:Int))=false:=decide_eq_false (by omega)
  rw [hd]
  refine zgo ?_
  refine Runs.ret func146 (ret1 results146 rfl) ⟨hxx,?_,hv2⟩
  rw [← ka.done (by omega)];exact ho4
 have hd:decide ((i:Int)<(L.length:Int))=true:=decide_eq_true (by omega)
 rw [hd]
 refine zgo ?_
 refine Runs.cond_dec rfl (fun hjt=>?_) (fun hge=>?_)
 rotate_left
 ·refine zgo ?_
  refine Runs.ret func146 (ret1 results146 rfl) ⟨hxx,?_,hv2⟩
  rw [← ka.done (by omega)];exact ho4
 have hjl:j<W.length:=by omega
 have hgx:L[i]? = some L[i]:=List.getElem?_eq_getElem hlt
 have hgy:W[j]? = some W[j]:=List.getElem?_eq_getElem hjl
 have hmt:mtS (hlsX ps orx L) W i j=mtc (hlX ps orx L[i]) W[j]:=by
  unfold mtS hlsX
  rw [List.getElem?_map,hgx,hgy];rfl
 generalize L[i]=a at *
 generalize W[j]=y at *
 obtain ⟨bh,ph,kh,eh,_,gh0⟩:=(hH.ext hxx).pos (by omega)
 cases eh
 have gh:Cells h4 bh (ph+i*5) (slX ps sd orx a):=flat_get (slX_len ps sd orx) gh0 hgx
 obtain ⟨b3,p3,k3,ew,_,gw⟩:=(hW.ext hxx).cell (strs_get hgy)
 cases ew
 refine zgo ?_
 refine Runs.drawn (m:=9) (fun h'=>Ext h4 h') (fun _=>false) mixed rfl ?_
 refine zp 0 (Fr.refl _ _) ?_
 refine zp 1 (Fr.refl _ _) ?_
 refine zi 2 hlt (Fr.refl _ _) ?_
 refine zL 3 (fun _ hS=>(Fr.xcs hS gh)) (Fr.refl _ _) ?_
 refine zp 4 (Fr.refl _ _) ?_
 refine zp 5 (Fr.refl _ _) ?_
 refine zi 6 hjl (Fr.refl _ _) ?_
 refine zl 7 (fun _ hS=>(Fr.xc hS gw)) (Fr.refl _ _) ?_
 refine WF.call 8 (by kernel_rfl) rfl rfl rfl rfl rfl plain_staysAs rfl (staysAs_ret ps sd orx a y _) fun v5 h5 ⟨hx5,hv5⟩=>⟨.inr hx5,?_⟩
 subst hv5
 refine zd ?_
 have hf5:Fr (fun k=>(Value.slice av W.length cv).ownBlock=some k) h3 h5:=hf4.trans (hx5.mono fun k _ e=>e.elim)
 have ho5:=ho4.fr hx5 (by simp)
 refine Runs.cond rfl (fun hq=>?_) (fun hq=>?_)
 ·obtain ⟨g,cap,c,hv,hb,hcl,hput⟩:=own_put ho5 (by omega)
  cases hv
  rw [rowZ_length] at hcl hput
  refine zgo ?_
  refine WO.put1 tab_ok rfl rfl rfl rfl rfl rfl rfl (one_int _) hb (by omega) fun h6 hb6 hx6 hs6=>?_
  rw [Nat.zero_add,Nat.mul_one] at hb6
  have ho6:=hput h6 j _ hjl hb6
  rw [rowZ_set] at ho6
  refine zgo ?_
  refine ih ⟨i+1,j+1,acc++[(i,j)]⟩ _ _ (by dsimp only;omega) ⟨rfl,rfl,rfl,rfl,rfl,rfl,trivial⟩ ⟨hlt,hjl,hf5.trans (hx6.mono fun k _ e=>by rw [e];rfl),ka.keep ⟨by omega,hjl⟩ (by rw [hmt];exact hq),?_⟩
  dsimp only
  rw [rowZ_congr (g:=fun k=>if k=j then (i:Int) else oi (atJ acc k)) (fun k _=>?_)]
  ·exact ho6
  ·rw [atJ_snoc (fun p hp=>(ka.low p hp).2)]
   split<;>rfl
 ·have hmf:mtS (hlsX ps orx L) W i j=false:=by rw [hmt];exact hq
  have hr5:Rd h5 1 (.slice at_ (L.length+1) ct) (L.length+1) (rowsV (W.length+1) rbs):=hr3.fr hf5 fun k hk e=>by have:=hv3 k hk;have:=hvl k e;omega
  have ht5:TB h5 3 (W.length+1) rbs t:=ht3.fr hf5 fun k hk e=>by have:=hrb3 k hk;have:=hvl k e;omega
  have hrb0:rbs[i]? = some rbs[i]:=List.getElem?_eq_getElem (by omega)
  have hrb1:rbs[i+1]? = some rbs[i+1]:=List.getElem?_eq_getElem (by omega)
  generalize rbs[i]=rb0 at *
  generalize rbs[i+1]=rb1 at *
  obtain ⟨bo,po,co,eo,_,r0⟩:=hr5.cell (i:=i) (u:=.slice (some ⟨rb0,0,none⟩) (W.length+1) (W.length+1)) (by simp [rowsV,hrb0])
  cases eo
  obtain ⟨_,_,_,eo,_,r1⟩:=hr5.cell (i:=i+1) (u:=.slice (some ⟨rb1,0,none⟩) (W.length+1) (W.length+1)) (by simp [rowsV,hrb1])
  cases eo
  have c10:=ht5.cell (j:=j) hrb1 (by omega)
  have c01:=ht5.cell (j:=j+1) hrb0 (by omega)
  have f10:=hfill (i+1) j (by omega) (by omega)
  have f01:=hfill i (j+1) (by omega) (by omega)
  have hi1:i<L.length+1:=by omega
  have hi2:i+1<L.length+1:=by omega
  have hj1:j<W.length+1:=by omega
  have hj2:j+1<W.length+1:=by omega
  refine zgo ?_
  refine Runs.still mixed (by kernel_rfl) ?_
  refine zws ?_
  refine Runs.cond_dec rfl (fun hq2=>?_) (fun hq2=>?_)
  ·refine zgo ?_
   exact ih ⟨i+1,j,acc⟩ _ _ (by dsimp only;omega) ⟨rfl,rfl,rfl,rfl,rfl,rfl,trivial⟩ ⟨hlt,hj,hf5,ka.down ⟨by omega,hjl⟩ hmf (by omega),ho5⟩
  ·refine zgo ?_
   exact ih ⟨i,j+1,acc⟩ _ _ (by dsimp only;omega) ⟨rfl,rfl,rfl,rfl,rfl,rfl,trivial⟩ ⟨hi,hjl,hf5,ka.side ⟨by omega,hjl⟩ hmf (by omega),ho5⟩
end Go.Proofs.YtlaffgagmncgjabGreatDoor
namespace Go.Pat
open Go
theorem retc1 {fn:Func} {n:Nat} {env:Env} {h:Heap} {T:Tab} {P:Program} {t b:Nat} {ty:TypeId} {l:List Value} {i:TI} (hT:T.ok P) (hr:fn.results = #[.cell t ty]) (hv:env.get? t=some (.pointer (some ⟨b,0,none⟩)))
  (ht:T.get? ty=some i) (hag:i.kind.agg=true) (hl:l.length=i.size) (hc:Cells h b 0 l) (a:Act) (w:World) (ha:Sat n env a) (hw:w.heap=h):(results fn a.tmps).run P w = .ok (.agg l.toArray) w:=by
 have h1:=ha.known t _ hv
 subst hw
 have:=run_loadCellsFrom (P:=P) l 0 #[] (by simpa using hc)
 simp [results,hr,Array.getD_eq_getD_getElem?,h1,asAddr,loadVar,run_isAgg (Tab.fits hT ht),hag,run_sizeOf (Tab.fits hT ht),loadCells,← hl,this]
end Go.Pat
namespace Go.Proofs.YtlaffgagmncgjabGreatDoor
open Tryz Go Go.Pat Go.Proofs
theorem plain_putsBeside:Plain Tryz.prog 193:=⟨_,func193,by decide +kernel,by rfl⟩
theorem plain_pneeded:Plain Tryz.prog 152:=⟨_,func152,by decide +kernel,by rfl⟩
theorem plain_pneeds:Plain Tryz.prog 108:=⟨_,func108,by decide +kernel,by rfl⟩
theorem plain_Leads:Plain Tryz.prog 151:=⟨_,func151,by decide +kernel,by rfl⟩
theorem plain_isOwn:Plain Tryz.prog 148:=⟨_,func148,by decide +kernel,by rfl⟩
theorem plain_dup:Plain Tryz.prog 149:=⟨_,func149,by decide +kernel,by rfl⟩
theorem plain_ddown:Plain Tryz.prog 150:=⟨_,func150,by decide +kernel,by rfl⟩
theorem plain_dstays:Plain Tryz.prog 147:=⟨_,func147,by decide +kernel,by rfl⟩
theorem putsBeside_ret {F:Nat→Prop} (x:PD3) (r:RefD) (h:Heap) (hp:PV F h x) (hl:x.p.changes.length≤1000) :
  Ret Tryz.prog 193 #[.agg x.cells.toArray,.agg r.cells.toArray] h fun v h'=>Ext h h'∧v = .bool (besB r x.p):=by
 refine Ret.of_body func193 rfl ntmps193 rfl rfl ?_
 obtain ⟨ad,cap,hcv⟩:=hp.changes.form
 have hcc:=hp.changes
 rw [hcv] at hcc
 refine zgo ?_
 refine zb fun h1 hb1 hx1 hs1=>?_
 refine zgo ?_
 refine zb fun h2 hb2 hx2 hs2=>?_
 have hx02:=hx1.trans hx2
 have g2:=hx2.xc (hb1.cell (j:=2) rfl)
 rw [hcv] at g2
 have e2:Cells h2 h1.size 0 r.cells:=hb2.cells
 refine zgo ?_
 refine Runs.loop (X:=Nat) (fun i=>[(2,.pointer (some ⟨h.size,0,none⟩)),(3,.pointer (some ⟨h1.size,0,none⟩)),(5,.int .i64 (i:Int))])
  (fun i h'=>Ext h2 h'∧i≤x.p.changes.length∧∀ c∈x.p.changes.take i,(decide (c.kind=1)&&(c.up.eqb r||c.down.eqb r))=false) (fun i=>x.p.changes.length-i) 0 ⟨rfl,rfl,rfl,trivial⟩ ⟨Fr.refl _ _,Nat.zero_le _,by simp⟩ ?_
 rintro i h3 ⟨hx3,hi,hall⟩ ih
 have g3:=hx3.xc g2
 refine zgo ?_
 refine Runs.cond_dec rfl (fun hlt=>?_) (fun hge=>?_)
 ·have hlt':i<x.p.changes.length:=by omega
  have hget:x.p.changes[i]? = some x.p.changes[i]:=List.getElem?_eq_getElem hlt'
  have hmem:x.p.changes[i]∈x.p.changes:=List.getElem_mem hlt'
  have hsn:x.p.changes.take (i+1)=x.p.changes.take i++[x.p.changes[i]]:=List.take_succ_eq_append_getElem hlt'
  generalize x.p.changes[i]=c at *
  obtain ⟨b0,p0,cap0,hv,_,hcells⟩:=(hcc.ext (hx02.trans hx3)).pos (by omega)
  cases hv
  have hch:=changes_get hcells hget
  have next:(decide (c.kind=1)&&(c.up.eqb r||c.down.eqb r))=false→∀ d∈x.p.changes.take (i+1),(decide (d.kind=1)&&(d.up.eqb r||d.down.eqb r))=false:=fun hc d hd=>by
   rw [hsn] at hd
   rcases List.mem_append.1 hd with e | e
   ·exact hall d e
   ·simp at e;subst e;exact hc
  refine zgo ?_
  refine zv (ChangeD.one c) fun h4 hb4 hx4 hs4=>?_
  have hx24:=hx3.trans hx4
  have c0:=hb4.cell (j:=0) rfl
  have e4:Cells h4 h3.size (0+1) c.up.cells:=hb4.cells.tail.take 2
  have e5:Cells h4 h3.size (0+3) c.down.cells:=hb4.cells.tail.tail.tail.take 2
  have e6:=hx24.xcs e2
  refine zgo ?_
  by_cases hk:c.kind=1
  rotate_left
  ·have hd:decide ((c.kind:Int)=1)=false:=decide_eq_false (by omega)
   rw [hd]
   refine zgo ?_
   exact ih (i+1) _ _ (by omega) ⟨rfl,rfl,rfl,trivial⟩ ⟨hx24,hlt',next (by simp [hk])⟩
  have hd:decide ((c.kind:Int)=1)=true:=decide_eq_true (by omega)
  rw [hd]
  refine zgo ?_
  refine WO.val (ov_eql2 two107 rfl rfl rfl) rfl rfl rfl ?_
  rw [eqbI]
  cases hu:c.up.eqb r
  ·refine zgo ?_
   refine WO.val (ov_eql2 two107 rfl rfl rfl) rfl rfl rfl ?_
   rw [eqbI]
   cases hw:c.down.eqb r
   ·refine zgo ?_
    exact ih (i+1) _ _ (by omega) ⟨rfl,rfl,rfl,trivial⟩ ⟨hx24,hlt',next (by simp [hu,hw])⟩
   ·refine zgo ?_
    refine Runs.ret func193 (ret1 results193 rfl) ⟨hx02.trans hx24,?_⟩
    congr 1;symm
    exact List.any_eq_true.2 ⟨c,hmem,by simp [hk,hw]⟩
  ·refine zgo ?_
   refine Runs.ret func193 (ret1 results193 rfl) ⟨hx02.trans hx24,?_⟩
   congr 1;symm
   exact List.any_eq_true.2 ⟨c,hmem,by simp [hk,hu]⟩
 ·rw [List.take_of_length_le (by omega)] at hall
  refine zgo ?_
  refine Runs.ret func193 (ret1 results193 rfl) ⟨hx02.trans hx3,?_⟩
  congr 1;symm
  unfold besB
  rw [List.any_eq_false]
  intro c hc;simp [hall c hc]
theorem pneeded_ret {F:Nat→Prop} (x:PD3) (ch:List ChangeD) (cv:Value) (h:Heap) (hp:PV F h x) (hl:x.p.changes.length≤1000) (hc:Rd h 6 cv ch.length (changes ch)) (hcl:ch.length≤1000) :
  Ret Tryz.prog 152 #[.agg x.cells.toArray,cv] h fun v h'=>Ext h h'∧v = .bool (ndB ch x.p):=by
 refine Ret.of_body func152 rfl ntmps152 rfl rfl ?_
 obtain ⟨ad,cap,hcv⟩:=hc.form
 subst hcv
 refine zgo ?_
 refine zb fun h1 hb1 hx1 hs1=>?_
 refine zgo ?_
 refine Runs.loop (X:=Nat) (fun i=>[(1,.slice ad ch.length cap),(2,.pointer (some ⟨h.size,0,none⟩)),(5,.int .i64 (i:Int))])
  (fun i h'=>Ext h1 h'∧i≤ch.length∧∀ c∈ch.take i,((decide (c.up.p=x.p.id)||decide (c.down.p=x.p.id))||(decide (c.kind=2)&&besB c.up x.p))=false) (fun i=>ch.length-i) 0 ⟨rfl,rfl,rfl,trivial⟩ ⟨Fr.refl _ _,Nat.zero_le _,by simp⟩ ?_
 rintro i h3 ⟨hx3,hi,hall⟩ ih
 have hx03:=hx1.trans hx3
 refine zgo ?_
 refine Runs.cond_dec rfl (fun hlt=>?_) (fun hge=>?_)
 ·have hlt':i<ch.length:=by omega
  have hget:ch[i]? = some ch[i]:=List.getElem?_eq_getElem hlt'
  have hmem:ch[i]∈ch:=List.getElem_mem hlt'
  have hsn:ch.take (i+1)=ch.take i++[ch[i]]:=List.take_succ_eq_append_getElem hlt'
  generalize ch[i]=c at *
  obtain ⟨b0,p0,cap0,hv,_,hcells⟩:=(hc.ext hx03).pos (by omega)
  cases hv
  have hch:=changes_get hcells hget
  have next:((decide (c.up.p=x.p.id)||decide (c.down.p=x.p.id))||(decide (c.kind=2)&&besB c.up x.p))=false→∀ d∈ch.take (i+1),((decide (d.up.p=x.p.id)||decide (d.down.p=x.p.id))||(decide (d.kind=2)&&besB d.up x.p))=false:=fun hc d hd=>by
   rw [hsn] at hd
   rcases List.mem_append.1 hd with e | e
   ·exact hall d e
   ·simp at e;subst e;exact hc
  refine zgo ?_
  refine zv (ChangeD.one c) fun h4 hb4 hx4 hs4=>?_
  have hx14:=hx3.trans hx4
  have hx04:=hx1.trans hx14
  have c0:=hb4.cell (j:=0) rfl
  have c1:cellAt h4 h3.size (0+1+0)=some (.int .i64 (c.up.p:Int)):=hb4.cell (j:=1) rfl
  have c3:cellAt h4 h3.size (0+3+0)=some (.int .i64 (c.down.p:Int)):=hb4.cell (j:=3) rfl
  have e4:Cells h4 h3.size (0+1) c.up.cells:=hb4.cells.tail.take 2
  have xc:Cells h4 h.size 0 x.cells:=hx14.xcs hb1.cells
  have x0:cellAt h4 h.size (0+0)=some (.int .i64 (x.p.id:Int)):=xc.head
  refine zgo ?_
  by_cases hu:c.up.p=x.p.id
  ·have hd:decide ((c.up.p:Int)=(x.p.id:Int))=true:=decide_eq_true (by omega)
   rw [hd]
   refine zgo ?_
   refine Runs.ret func152 (ret1 results152 rfl) ⟨hx04,?_⟩
   congr 1;symm
   exact List.any_eq_true.2 ⟨c,hmem,by simp [hu]⟩
  have hd:decide ((c.up.p:Int)=(x.p.id:Int))=false:=decide_eq_false (by omega)
  rw [hd]
  refine zgo ?_
  by_cases hw:c.down.p=x.p.id
  ·have hd2:decide ((c.down.p:Int)=(x.p.id:Int))=true:=decide_eq_true (by omega)
   rw [hd2]
   refine zgo ?_
   refine Runs.ret func152 (ret1 results152 rfl) ⟨hx04,?_⟩
   congr 1;symm
   exact List.any_eq_true.2 ⟨c,hmem,by simp [hw]⟩
  have hd2:decide ((c.down.p:Int)=(x.p.id:Int))=false:=decide_eq_false (by omega)
  rw [hd2]
  refine zgo ?_
  by_cases hk:c.kind=2
  rotate_left
  ·have hd3:decide ((c.kind:Int)=2)=false:=decide_eq_false (by omega)
   rw [hd3]
   refine zgo ?_
   exact ih (i+1) _ _ (by omega) ⟨rfl,rfl,rfl,trivial⟩ ⟨hx14,hlt',next (by simp [hk,hu,hw])⟩
  have hd3:decide ((c.kind:Int)=2)=true:=decide_eq_true (by omega)
  rw [hd3]
  refine zgo ?_
  refine WO.call rfl rfl rfl rfl plain_putsBeside rfl (putsBeside_ret x c.up h4 (hp.ext hx04) hl) fun v5 h5 ⟨hx5,hv5⟩=>?_
  subst hv5
  cases hq:besB c.up x.p
  ·refine zgo ?_
   exact ih (i+1) _ _ (by omega) ⟨rfl,rfl,rfl,trivial⟩ ⟨hx14.trans hx5,hlt',next (by simp [hu,hw,hq])⟩
  ·refine zgo ?_
   refine Runs.ret func152 (ret1 results152 rfl) ⟨hx04.trans hx5,?_⟩
   congr 1;symm
   exact List.any_eq_true.2 ⟨c,hmem,by simp [hk,hq]⟩
 ·rw [List.take_of_length_le (by omega)] at hall
  refine zgo ?_
  refine Runs.ret func152 (ret1 results152 rfl) ⟨hx03,?_⟩
  congr 1;symm
  unfold ndB
  rw [List.any_eq_false]
  intro c hc;rw [hall c hc];simp
theorem pneeds_ret {F:Nat→Prop} (l:List PD3) (lv:Value) (ch:List ChangeD) (cv:Value) (h:Heap) (hs:XS F h lv l) (hl:l.length≤1000) (hpl:∀ y∈l,y.p.changes.length≤1000) (hc:Rd h 6 cv ch.length (changes ch)) (hcl:ch.length≤1000) :
  Ret Tryz.prog 108 #[lv,cv] h fun v h'=>Ext h h'∧Own h' 3 1 v (ndS (l.map PD3.p) ch).length (ints (ndS (l.map PD3.p) ch))∧∀ k,v.ownBlock=some k→h.size≤k:=by
 refine Ret.of_body func108 rfl ntmps108 rfl rfl ?_
 obtain ⟨ad,cap,hv⟩:=hs.rd.form
 subst hv
 obtain ⟨ac,cc,hcv⟩:=hc.form
 subst hcv
 refine zgo ?_
 refine Runs.loop (X:=IV) (fun u=>[(0,.slice ad l.length cap),(1,.slice ac ch.length cc),(5,u.v),(6,.int .i64 (u.i:Int))])
  (fun u h'=>u.i≤l.length∧Ext h h'∧Own h' 3 1 u.v (ndS ((l.take u.i).map PD3.p) ch).length (ints (ndS ((l.take u.i).map PD3.p) ch))∧∀ k,u.v.ownBlock=some k→h.size≤k)
  (fun u=>l.length-u.i) ⟨0,.slice none 0 0⟩ ⟨rfl,rfl,rfl,rfl,trivial⟩ ⟨Nat.zero_le _,Fr.refl _ _,Own.nil _ _ _,fun k hk=>by simp [Value.ownBlock] at hk⟩ ?_
 rintro ⟨i,v⟩ h2 ⟨hi,hx2,ho2,hm2⟩ ih
 dsimp only at hi hx2 ho2 hm2 ih ⊢
 have hz2:=hx2.size
 refine zgo ?_
 refine Runs.cond_dec rfl (fun hlt=>?_) (fun hge=>?_)
 ·have hlt':i<l.length:=by omega
  have hget:l[i]? = some l[i]:=List.getElem?_eq_getElem hlt'
  have hmem:l[i]∈l:=List.getElem_mem hlt'
  have hsn:l.take (i+1)=l.take i++[l[i]]:=List.take_succ_eq_append_getElem hlt'
  generalize l[i]=y at *
  have hnd:ndS ((l.take (i+1)).map PD3.p) ch=ndS ((l.take i).map PD3.p) ch++if ndB ch y.p=true then [y.p.id] else []:=by
   unfold ndS
   rw [hsn,List.map_append,List.filter_append,List.map_append]
   congr 1
   cases hq:ndB ch y.p<;>simp [hq]
  have hnl:(ndS ((l.take i).map PD3.p) ch).length≤1000:=by
   unfold ndS
   rw [List.length_map]
   refine Nat.le_trans (List.length_filter_le _ _) ?_
   simp;omega
  obtain ⟨b0,p0,cap0,hv,hcy,hpv⟩:=(hs.ext hx2).get hget
  cases hv
  refine zgo ?_
  refine WO.call rfl rfl rfl rfl plain_pneeded rfl (pneeded_ret y ch _ h2 hpv (hpl y hmem) (hc.ext hx2) hcl) fun v3 h3 ⟨hx3,hv3⟩=>?_
  subst hv3
  have ho3:=ho2.fr hx3 (by simp)
  have y0:cellAt h3 b0 (p0+i*3+0)=some (.int .i64 (y.p.id:Int)):=hx3.xc hcy.head
  have hz3:=hx3.size
  refine zgo ?_
  refine Runs.cond rfl (fun hq=>?_) (fun hq=>?_)
  ·refine zgo ?_
   refine zh (one_int _) ho3 ?_
   intro v4 h4 o1 o2 o3
   refine zgo ?_
   refine ih ⟨i+1,v4⟩ _ _ (by dsimp only;omega) ⟨rfl,rfl,rfl,rfl,trivial⟩ ⟨hlt',(hx2.trans hx3).trans_new (o2.mono fun k _ e=>.inr (hm2 k e)),?_,fun k hk=>?_⟩
   ·dsimp only
    rw [hnd,if_pos hq,List.length_append]
    simpa [ints] using o1
   ·rcases o3 k hk with e | e
    ·exact hm2 k e
    ·omega
  ·refine zgo ?_
   refine ih ⟨i+1,v⟩ _ _ (by dsimp only;omega) ⟨rfl,rfl,rfl,rfl,trivial⟩ ⟨hlt',hx2.trans hx3,?_,hm2⟩
   dsimp only
   rw [hnd,if_neg (by rw [hq];simp),List.append_nil]
   exact ho3
 ·rw [List.take_of_length_le (by omega)] at ho2
  refine zgo ?_
  exact Runs.ret func108 (ret1 results108 rfl) ⟨hx2,ho2,hm2⟩
def ldR (ls:List LineD) (on:List (List Bool)) (a b:RefD):Bool:=match placeS ls a,placeS ls b with
 | some i,some j=>getB on i j
 | _,_=>false
theorem Leads_ret (wb n:Nat) (w:Nat→WL) (lv dv:Value) (rbs:List Nat) (on:List (List Bool)) (h:Heap) (w2:cellAt h wb 2=some lv) (w3:cellAt h wb 3=some dv) (hr:Rd h 13 lv n (wlsC n w)) (hom:LM h 4 n dv rbs on) (hn:n≤100000) (a b:RefD) :
  Ret Tryz.prog 151 #[.pointer (some ⟨wb,0,none⟩),.agg a.cells.toArray,.agg b.cells.toArray] h fun v h'=>Ext h h'∧v = .bool (ldR (lnsOf n w) on a b):=by
 refine Ret.of_body func151 rfl ntmps151 rfl rfl ?_
 refine zgo ?_
 refine zb fun h1 hb1 hx1 hs1=>?_
 have e1:Cells h1 h.size 0 a.cells:=hb1.cells
 refine zgo ?_
 refine zb fun h2 hb2 hx2 hs2=>?_
 have e2:Cells h2 h1.size 0 b.cells:=hb2.cells
 have e1':=hx2.xcs e1
 have hx12:=hx1.trans hx2
 refine zgo ?_
 refine WO.call rfl rfl rfl rfl plain_wplace rfl (wplace_ret wb n w _ a _ (hx12.xc w2) (hr.ext hx12) hn) fun v3 h3 ⟨hx3,hp3⟩=>?_
 have e2':=hx3.xcs e2
 have hx13:=hx12.trans hx3
 have hv3:∃ q:Int,v3 = .int .i64 q:=by
  rcases hp3 with ⟨y,_,_,e⟩ | ⟨_,e⟩
  ·exact ⟨_,e⟩
  ·exact ⟨_,e⟩
 obtain ⟨q3,rfl⟩:=hv3
 refine zgo ?_
 refine WO.call rfl rfl rfl rfl plain_wplace rfl (wplace_ret wb n w _ b _ (hx13.xc w2) (hr.ext hx13) hn) fun v4 h4 ⟨hx4,hp4⟩=>?_
 have hx14:=hx13.trans hx4
 have hom4:=hom.ext hx14
 have w4:=hx14.xc w3
 unfold ldR
 rcases hp3 with ⟨i,hpx,hxl,hq3⟩ | ⟨hpx,hq3⟩
 ·cases hq3
  rcases hp4 with ⟨j,hpy,hyl,rfl⟩ | ⟨hpy,rfl⟩
  ·obtain ⟨ob,p,cap,rb,r,hdv,hrb,hmr,hrl,hcell,hblk,hget⟩:=hom4.get hxl
   rw [hdv] at w4
   have hij:=hget j hyl
   have d1:decide ((0:Int)≤(i:Int))=true:=decide_eq_true (by omega)
   have d2:decide ((0:Int)≤(j:Int))=true:=decide_eq_true (by omega)
   refine zgo ?_
   rw [d1]
   refine zgo ?_
   rw [d2]
   refine zgo ?_
   exact Runs.ret func151 (ret1 results151 rfl) ⟨hx14,by rw [hpx,hpy]⟩
  ·have d1:decide ((0:Int)≤(i:Int))=true:=decide_eq_true (by omega)
   refine zgo ?_
   rw [d1]
   refine zgo ?_
   exact Runs.ret func151 (ret1 results151 rfl) ⟨hx14,by rw [hpx,hpy]⟩
 ·cases hq3
  have hv4:∃ q:Int,v4 = .int .i64 q:=by
   rcases hp4 with ⟨y,_,_,e⟩ | ⟨_,e⟩
   ·exact ⟨_,e⟩
   ·exact ⟨_,e⟩
  obtain ⟨q,rfl⟩:=hv4
  refine zgo ?_
  exact Runs.ret func151 (ret1 results151 rfl) ⟨hx14,by rw [hpx]⟩
structure DR (h:Heap) (db id wb:Nat) (hv wv nv cv:Value):Prop where
 blk:Blk h db [.int .i64 (id:Int),.pointer (some ⟨wb,0,none⟩),hv,wv,nv,cv] 149
theorem isOwn_ret (db id wb:Nat) (hv wv nv cv:Value) (N:List RefD) (h:Heap) (d:DR h db id wb hv wv nv cv) (hn:Rd h 2 nv N.length (refsC N)) (j:Nat) (r:RefD) (hj:N[j]? = some r) :
  Ret Tryz.prog 148 #[.pointer (some ⟨db,0,none⟩),.int .i64 (j:Int)] h fun v h'=>h'=h∧v = .bool (decide (r.p=id)):=by
 refine Ret.of_body func148 rfl ntmps148 rfl rfl ?_
 have hlt:=(List.getElem?_eq_some_iff.1 hj).1
 obtain ⟨b,p,c,e,_,hc⟩:=hn.pos (by omega)
 subst e
 have d0:=d.blk.cell (j:=0) rfl
 have d4:=d.blk.cell (j:=4) rfl
 have r0:cellAt h b (p+j*2+0)=some (.int .i64 (r.p:Int)):=(refsC_get hc hj).head
 have e:decide (r.p=id)=decide ((r.p:Int)=(id:Int)):=decide_eq_decide.2 (by omega)
 rw [e]
 refine zgo ?_
 refine Runs.still mixed (by kernel_rfl) ?_
 refine zws ?_
 exact Runs.ret func148 (ret1 results148 rfl) ⟨rfl,rfl⟩
theorem dup_ret (db id wb:Nat) (hv wv nv cv:Value) (N:List RefD) (h:Heap) (d:DR h db id wb hv wv nv cv) (hn:Rd h 2 nv N.length (refsC N)) (j:Nat) (hj:j<N.length) (hl:N.length≤1000) :
  Ret Tryz.prog 149 #[.pointer (some ⟨db,0,none⟩),.int .i64 (j:Int)] h fun v h'=>Ext h h'∧v = .agg (if j=0 then (⟨0,0⟩:RefD) else N.getD (j-1) ⟨0,0⟩).cells.toArray:=by
 refine Ret.of_body func149 rfl ntmps149 rfl rfl ?_
 obtain ⟨b,p,c,e,_,hc⟩:=hn.pos (by omega)
 subst e
 have hdl:=d.blk.lt
 refine zgo ?_
 refine WO.alloc tab_ok rfl rfl rfl rfl rfl rfl fun h1 hb1 hx1 hs1=>?_
 have d4:=hx1.xc (d.blk.cell (j:=4) rfl)
 refine zgo ?_
 refine Runs.cond_dec rfl (fun hq=>?_) (fun hq=>?_)
 ·rw [if_pos (by omega)]
  refine zgo ?_
  refine zt (RefD.one ⟨0,0⟩) hb1 fun h2 hb2 hx2 hs2=>?_
  refine zgo ?_
  exact Runs.ret func149 (retc1 tab_ok results149 rfl rfl rfl rfl hb2.cells) ⟨hx1.trans_new (hx2.mono fun k _ e=>.inr (by omega)),rfl⟩
 ·obtain ⟨i,rfl⟩:∃ i,j=i+1:=⟨j-1,by omega⟩
  rw [if_neg (by omega)]
  have hget:N[i]? = some N[i]:=List.getElem?_eq_getElem (by omega)
  have hgd:N.getD (i+1-1) ⟨0,0⟩=N[i]:=by simp [List.getD_eq_getElem?_getD,hget]
  rw [hgd]
  generalize N[i]=r at *
  have rc:=hx1.xcs (refsC_get hc hget)
  refine zgo ?_
  rw [show (((i+1:Nat):Int)-1)=(i:Int) by omega]
  refine zgo ?_
  refine zt (RefD.one r) hb1 fun h2 hb2 hx2 hs2=>?_
  refine zgo ?_
  exact Runs.ret func149 (retc1 tab_ok results149 rfl rfl rfl rfl hb2.cells) ⟨hx1.trans_new (hx2.mono fun k _ e=>.inr (by omega)),rfl⟩
def dnL (id:Nat) (N:List RefD):Nat→Nat→RefD
 | 0,_=>⟨0,1⟩
 | f+1,k=>match N[k]? with
  | none=>⟨0,1⟩
  | some r=>if r.p=id then dnL id N f (k+1) else r
theorem dnL_succ (id:Nat) (N:List RefD) (f k:Nat):dnL id N (f+1) k=match N[k]? with
  | none=>⟨0,1⟩
  | some r=>if r.p=id then dnL id N f (k+1) else r:=rfl
theorem ddown_ret (db id wb:Nat) (hv wv nv cv:Value) (N:List RefD) (h:Heap) (d:DR h db id wb hv wv nv cv) (hn:Rd h 2 nv N.length (refsC N)) (j:Nat) (hj:j<N.length) (hl:N.length≤1000) :
  Ret Tryz.prog 150 #[.pointer (some ⟨db,0,none⟩),.int .i64 (j:Int)] h fun v h'=>Ext h h'∧v = .agg (dnL id N N.length (j+1)).cells.toArray:=by
 refine Ret.of_body func150 rfl ntmps150 rfl rfl ?_
 obtain ⟨b,p,c,e,_,hc⟩:=hn.pos (by omega)
 subst e
 refine zgo ?_
 refine WO.alloc tab_ok rfl rfl rfl rfl rfl rfl fun h1 hb1 hx1 hs1=>?_
 have d1:DR h1 db id wb hv wv (.slice (some ⟨b,p,none⟩) N.length c) cv:=⟨d.blk.ext hx1⟩
 have d4:=d1.blk.cell (j:=4) rfl
 refine zgo ?_
 refine Runs.loop (X:=Nat) (fun k=>[(0,.pointer (some ⟨db,0,none⟩)),(4,.pointer (some ⟨h.size,0,none⟩)),(5,.int .i64 (k:Int))])
  (fun k h'=>h1=h'∧k≤N.length∧dnL id N N.length (j+1)=dnL id N (N.length-k+1) k) (fun k=>N.length-k) (j+1) ⟨rfl,rfl,rfl,trivial⟩ ⟨rfl,hj,?_⟩ ?_
 ·have key:∀ (f g k:Nat),N.length-k<f→f≤g→dnL id N g k=dnL id N f k:=by
   intro f
   induction f with
   | zero=>intro g k h1 _;omega
   | succ f ih =>
    intro g k h1 h2
    obtain ⟨g',rfl⟩:∃ g',g=g'+1:=⟨g-1,by omega⟩
    rw [dnL_succ,dnL_succ]
    cases e:N[k]? with
    | none=>rfl
    | some r =>
     dsimp only
     have:=(List.getElem?_eq_some_iff.1 e).1
     rw [ih g' (k+1) (by omega) (by omega)]
  rcases Nat.lt_or_ge N.length (N.length-(j+1)+1) with q | q
  ·omega
  ·exact key _ _ _ (by omega) q
 rintro k _ ⟨rfl,hk,hdn⟩ ih
 refine zgo ?_
 refine Runs.cond_dec rfl (fun hlt=>?_) (fun hge=>?_)
 ·have hlt':k<N.length:=by omega
  have hget:N[k]? = some N[k]:=List.getElem?_eq_getElem hlt'
  generalize N[k]=r at *
  have rc:=hx1.xcs (refsC_get hc hget)
  obtain ⟨f,hf⟩:∃ f,N.length-k=f+1:=⟨N.length-k-1,by omega⟩
  rw [hf,dnL_succ,hget] at hdn
  dsimp only at hdn
  refine zgo ?_
  refine WO.call rfl rfl rfl rfl plain_isOwn rfl (isOwn_ret db id wb hv wv _ cv N h1 d1 (hn.ext hx1) k r hget) fun v2 h2 ⟨hx2,hv2⟩=>?_
  subst hx2 hv2
  refine zgo ?_
  refine Runs.cond rfl (fun hq=>?_) (fun hq=>?_)
  ·have hq':¬ r.p=id:=by simpa using hq
   rw [if_neg hq'] at hdn
   rw [hdn]
   refine zgo ?_
   refine zt (RefD.one r) hb1 fun h2 hb2 hx2 hs2=>?_
   refine zgo ?_
   exact Runs.ret func150 (retc1 tab_ok results150 rfl rfl rfl rfl hb2.cells) ⟨hx1.trans_new (hx2.mono fun k _ e=>.inr (by omega)),rfl⟩
  ·have hq':r.p=id:=by simpa using hq
   rw [if_pos hq'] at hdn
   refine zgo ?_
   exact ih (k+1) _ _ (by omega) ⟨rfl,rfl,rfl,trivial⟩ ⟨rfl,hlt',by rw [hdn,show N.length-(k+1)+1=f+1 by omega]⟩
 ·have:dnL id N (N.length-k+1) k=⟨0,1⟩:=by
   rw [dnL_succ,List.getElem?_eq_none (by omega)]
  rw [hdn,this]
  refine zgo ?_
  refine zt (RefD.one ⟨0,1⟩) hb1 fun h2 hb2 hx2 hs2=>?_
  refine zgo ?_
  exact Runs.ret func150 (retc1 tab_ok results150 rfl rfl rfl rfl hb2.cells) ⟨hx1.trans_new (hx2.mono fun k _ e=>.inr (by omega)),rfl⟩
theorem dstays_ret (db id wb:Nat) (hv wv nv cv:Value) (N:List RefD) (h:Heap) (d:DR h db id wb hv wv nv cv) (hn:Rd h 2 nv N.length (refsC N)) (r:RefD) (hl:N.length≤1000) :
  Ret Tryz.prog 147 #[.pointer (some ⟨db,0,none⟩),.agg r.cells.toArray] h fun v h'=>Ext h h'∧v = .bool (N.any fun x=>x.eqb r):=by
 refine Ret.of_body func147 rfl ntmps147 rfl rfl ?_
 obtain ⟨ad,c,e⟩:=hn.form
 subst e
 refine zgo ?_
 refine zb fun h1 hb1 hx1 hs1=>?_
 have e1:Cells h1 h.size 0 r.cells:=hb1.cells
 have d4:=hx1.xc (d.blk.cell (j:=4) rfl)
 refine zgo ?_
 refine Runs.loop (X:=Nat) (fun k=>[(0,.pointer (some ⟨db,0,none⟩)),(3,.pointer (some ⟨h.size,0,none⟩)),(5,.int .i64 (k:Int))])
  (fun k h'=>h1=h'∧k≤N.length∧∀ x∈N.take k,x.eqb r=false) (fun k=>N.length-k) 0 ⟨rfl,rfl,rfl,trivial⟩ ⟨rfl,Nat.zero_le _,by simp⟩ ?_
 rintro k _ ⟨rfl,hk,hall⟩ ih
 refine zgo ?_
 refine Runs.cond_dec rfl (fun hlt=>?_) (fun hge=>?_)
 ·have hlt':k<N.length:=by omega
  have hget:N[k]? = some N[k]:=List.getElem?_eq_getElem hlt'
  have hmem:N[k]∈N:=List.getElem_mem hlt'
  have hsn:N.take (k+1)=N.take k++[N[k]]:=List.take_succ_eq_append_getElem hlt'
  generalize N[k]=x at *
  obtain ⟨b,p,c,e,_,hc⟩:=(hn.ext hx1).pos (by omega)
  cases e
  have rc:=refsC_get hc hget
  refine zgo ?_
  refine Runs.still mixed (by kernel_rfl) ?_
  refine zws ?_
  refine WS.val (ov_eql2 two107 rfl rfl rfl) rfl rfl rfl ?_
  rw [eqbI]
  refine zws ?_
  refine Runs.cond rfl (fun hq=>?_) (fun hq=>?_)
  ·refine zgo ?_
   refine Runs.ret func147 (ret1 results147 rfl) ⟨hx1,?_⟩
   congr 1;symm
   exact List.any_eq_true.2 ⟨x,hmem,hq⟩
  ·refine zgo ?_
   refine ih (k+1) _ _ (by omega) ⟨rfl,rfl,rfl,trivial⟩ ⟨rfl,hlt',fun y hy=>?_⟩
   rw [hsn] at hy
   rcases List.mem_append.1 hy with e | e
   ·exact hall y e
   ·simp at e;subst e;exact hq
 ·rw [List.take_of_length_le (by omega)] at hall
  refine zgo ?_
  refine Runs.ret func147 (ret1 results147 rfl) ⟨hx1,?_⟩
  congr 1;symm
  rw [List.any_eq_false]
  intro x hx;rw [hall x hx];simp
end Go.Proofs.YtlaffgagmncgjabGreatDoor
namespace Go.Proofs.YtlaffgagmncgjabGreatDoor
open Tryz Go Go.Pat Go.Proofs
theorem plain_dname:Plain Tryz.prog 105:=⟨_,func105,by decide +kernel,by rfl⟩
theorem plain_tellDead:Plain Tryz.prog 106:=⟨_,func106,by decide +kernel,by rfl⟩
theorem plain_dput:Plain Tryz.prog 107:=⟨_,func107,by decide +kernel,by rfl⟩
def RC.nms (c:RC):List RefD:=(List.range c.W.length).map c.nm
theorem RC.nms_length (c:RC):c.nms.length=c.W.length:=by simp [RC.nms]
theorem RC.nms_get (c:RC) {j:Nat} (h:j<c.W.length):c.nms[j]? = some (c.nm j):=by simp [RC.nms,h]
structure QF (ps:List PatchD) (sd:Nat→Int) (orx:Nat→Bool) (c:RC):Prop where
 inv:Inv ps
 rc:RcOk ps c
 eq:c=xRC ps orx (ordX ps sd) c.id c.W
namespace QF
variable {ps:List PatchD} {sd:Nat→Int} {orx:Nat→Bool} {c:RC} (k:QF ps sd orx c)
include k
theorem len:c.R.length=(ordX ps sd).length:=by rw [k.eq];simp [xRC]
theorem ref {i a:Nat} (h:(ordX ps sd)[i]? = some a):c.ref i=(lnX ps a).ref:=by
 rw [k.eq];simp [RC.ref,xRC,List.getD_eq_getElem?_getD,h]
theorem pr:c.pr=prs (hlsX ps orx (ordX ps sd)) c.W:=by
 have:=congrArg RC.pr k.eq
 rw [this];rfl
theorem get {i:Nat} (h:i<c.R.length):∃ a,(ordX ps sd)[i]? = some a∧a<nX ps:=by
 have h':i<(ordX ps sd).length:=k.len ▸ h
 exact ⟨_,List.getElem?_eq_getElem h',(ordX_mem _ (List.getElem_mem h')).1⟩
theorem inj {i j:Nat} (hi:i<c.R.length) (hj:j<c.R.length) (e:c.ref i=c.ref j):i=j:=by
 obtain ⟨a,ha,ha'⟩:=k.get hi
 obtain ⟨b,hb,hb'⟩:=k.get hj
 rw [k.ref ha,k.ref hb] at e
 have e':=ref_at k.inv.nodup ha' hb' e
 subst e'
 have hn:(ordX ps sd).Nodup:=ordTo_nodup _
 obtain ⟨p1,e1⟩:=List.getElem?_eq_some_iff.1 ha
 obtain ⟨p2,e2⟩:=List.getElem?_eq_some_iff.1 hb
 exact nodup_get hn p1 p2 (e1.trans e2.symm)
theorem idIn {i:Nat} (h:i<c.R.length):(c.ref i).p≠c.id:=fun e=>k.rc.out (e ▸ (k.rc.refOk h).2)
theorem own {j:Nat}:(c.nm j).p=c.id↔c.st j=none:=by
 unfold RC.nm
 cases hs:c.st j with
 | none=>simp
 | some i =>
  have:=k.idIn (k.rc.st hs).1
  simp [this]
theorem any {i:Nat} (hi:i<c.R.length):(c.nms.any fun x=>x.eqb (c.ref i))=(atI c.pr i).isSome:=by
 rw [Bool.eq_iff_iff,List.any_eq_true]
 constructor
 ·rintro ⟨x,hx,e⟩
  obtain ⟨j,hj,rfl⟩:=List.mem_map.1 hx
  have e:=eqb_iff.1 e
  unfold RC.nm at e
  cases hs:c.st j with
  | none=>rw [hs] at e;exact absurd (congrArg RefD.p e).symm (k.idIn hi)
  | some i' =>
   rw [hs] at e
   have:=k.inj (k.rc.st hs).1 hi e
   subst this
   rw [(atI_iff k.rc.inc i' j).2 ((atJ_iff k.rc.inc i' j).1 hs)];rfl
 ·intro h
  obtain ⟨j,e⟩:=Option.isSome_iff_exists.1 h
  have hs:c.st j=some i:=(atJ_iff k.rc.inc i j).2 ((atI_iff k.rc.inc i j).1 e)
  refine ⟨c.nm j,List.mem_map.2 ⟨j,List.mem_range.2 (k.rc.st hs).2,rfl⟩,?_⟩
  unfold RC.nm
  rw [hs]
  exact eqb_iff.2 rfl
omit k in
theorem up {j:Nat} (h:j<c.W.length):(if j=0 then (⟨0,0⟩:RefD) else c.nms.getD (j-1) ⟨0,0⟩)=c.up j:=by
 unfold RC.up
 split
 ·rfl
 ·rw [List.getD_eq_getElem?_getD,c.nms_get (by omega)];rfl
theorem dn:∀ (f q:Nat),c.W.length-q<f→dnL c.id c.nms f q=c.dnF (List.range' q (c.W.length-q)):=by
 intro f
 induction f with
 | zero=>intro q h;omega
 | succ f ih =>
  intro q h
  rw [dnL_succ]
  by_cases hq:q<c.W.length
  ·rw [c.nms_get hq]
   obtain ⟨n,e⟩:∃ n,c.W.length-q=n+1:=⟨c.W.length-q-1,by omega⟩
   rw [e,List.range'_succ]
   dsimp only
   unfold RC.dnF
   cases hs:c.st q with
   | none =>
    rw [if_pos (k.own.2 hs),ih (q+1) (by omega),show c.W.length-(q+1)=n by omega];simp
   | some i =>
    rw [if_neg (fun e=>by rw [k.own.1 e] at hs;cases hs)];simp
  ·rw [List.getElem?_eq_none (by rw [c.nms_length];omega),show c.W.length-q=0 by omega];rfl
theorem down {j:Nat} (h:j<c.W.length):dnL c.id c.nms c.nms.length (j+1)=c.dn j:=by
 rw [c.nms_length]
 exact k.dn _ _ (by omega)
theorem lead {i j:Nat} (hi:i<c.R.length) (hj:j<c.R.length):ldR (linesS ps) (onS ps) (c.ref i) (c.ref j)=c.ld i j:=by
 obtain ⟨a,ha,ha'⟩:=k.get hi
 obtain ⟨b,hb,hb'⟩:=k.get hj
 have e:c.ld i j=xLd ps (ordX ps sd) i j:=by rw [congrArg RC.ld k.eq];rfl
 rw [e]
 unfold ldR xLd
 rw [k.ref ha,k.ref hb,(place_iff k.inv.nodup).2 ⟨ha',rfl⟩,(place_iff k.inv.nodup).2 ⟨hb',rfl⟩,ha,hb]
end QF
structure DS (h1 h':Heap) (db id wb:Nat) (hv wv nv cv:Value) (N:List RefD) (ch:List ChangeD):Prop where
 ext:Ext h1 h'
 lo:h1.size≤db
 dr:DR h' db id wb hv wv nv cv
 nm:Own h' 100 2 nv N.length (refsC N)
 own:Own h' 138 6 cv ch.length (changes ch)
 nvb:∀ k,nv.ownBlock=some k→h1.size≤k∧k≠db
 cvb:∀ k,cv.ownBlock=some k→h1.size≤k∧k≠db∧nv.ownBlock≠some k
section
variable {h1 h h2 h3:Heap} {db id wb:Nat} {hv wv nv cv v':Value} {N:List RefD} {ch:List ChangeD}
theorem DS.up (x:DS h1 h db id wb hv wv nv cv N ch) (f:Ext h h2):DS h1 h2 db id wb hv wv nv cv N ch :=
 ⟨x.ext.trans f,x.lo,⟨x.dr.blk.ext f⟩,x.nm.fr f (by simp),x.own.fr f (by simp),x.nvb,x.cvb⟩
theorem DS.pushC (x:DS h1 h db id wb hv wv nv cv N ch) {d:ChangeD} (o1:Own h2 138 6 v' (ch.length+1) (changes ch++d.cells)) (o2:Fr (fun k=>cv.ownBlock=some k) h h2) (o3:Moved h cv v')
  (hb:Blk h3 db [.int .i64 (id:Int),.pointer (some ⟨wb,0,none⟩),hv,wv,nv,v'] 149) (hx:Fr (fun k=>k=db) h2 h3):DS h1 h3 db id wb hv wv nv v' N (ch++[d]):=by
 have hdl:=x.dr.blk.lt
 have hnl:=x.nm.lt
 have hz:=x.ext.size
 have key:∀ k,v'.ownBlock=some k→h1.size≤k∧k≠db∧nv.ownBlock≠some k:=fun k hk=>by
  rcases o3 k hk with e | e
  ·exact x.cvb k e
  ·exact ⟨by omega,by omega,fun e'=>by have:=hnl k e';omega⟩
 have hlo:=x.lo
 refine ⟨(x.ext.trans_new (o2.mono fun k _ e=>.inr (x.cvb k e).1)).trans_new (hx.mono fun k _ e=>.inr (by omega)),x.lo,⟨hb⟩,(x.nm.fr o2 fun k hk e=>(x.cvb k e).2.2 hk).fr hx fun k hk e=>(x.nvb k hk).2 e,?_,x.nvb,key⟩
 have:Own h2 138 6 v' (ch++[d]).length (changes (ch++[d])):=by
  rw [changes_append,List.length_append];simpa [changes] using o1
 exact this.fr hx fun k hk e=>(key k hk).2.1 e
theorem DS.pushN (x:DS h1 h db id wb hv wv nv cv N []) (hcv:cv = .slice none 0 0) {r:RefD} (o1:Own h2 100 2 v' (N.length+1) (refsC N++r.cells)) (o2:Fr (fun k=>nv.ownBlock=some k) h h2) (o3:Moved h nv v')
  (hb:Blk h3 db [.int .i64 (id:Int),.pointer (some ⟨wb,0,none⟩),hv,wv,v',cv] 149) (hx:Fr (fun k=>k=db) h2 h3):DS h1 h3 db id wb hv wv v' cv (N++[r]) []:=by
 have hdl:=x.dr.blk.lt
 have hz:=x.ext.size
 have key:∀ k,v'.ownBlock=some k→h1.size≤k∧k≠db:=fun k hk=>by
  rcases o3 k hk with e | e
  ·exact x.nvb k e
  ·exact ⟨by omega,by omega⟩
 have hlo:=x.lo
 subst hcv
 refine ⟨(x.ext.trans_new (o2.mono fun k _ e=>.inr (x.nvb k e).1)).trans_new (hx.mono fun k _ e=>.inr (by omega)),x.lo,⟨hb⟩,?_,Own.nil _ _ _,key,fun k hk=>by simp [Value.ownBlock] at hk⟩
 have:Own h2 100 2 v' (N++[r]).length (refsC (N++[r])):=by
  rw [refsC_append,List.length_append];simpa [refsC] using o1
 exact this.fr hx fun k hk e=>(key k hk).2 e
end
structure QNX where
 (j:Nat) (v:Value)
theorem dname_ret {ps:List PatchD} {sd:Nat→Int} {orx:Nat→Bool} {c:RC} (q:QF ps sd orx c) (h1 h:Heap) (db wb:Nat) (hv wv:Value) (x:DS h1 h db c.id wb hv wv (.slice none 0 0) (.slice none 0 0) [] [])
  (hH:Rd h1 5 hv (ordX ps sd).length ((ordX ps sd).flatMap (slX ps sd orx))) (hW:Rd h1 1 wv c.W.length (strs c.W)) (hl:(ordX ps sd).length≤1000) (hw:c.W.length≤24) :
  Ret Tryz.prog 105 #[.pointer (some ⟨db,0,none⟩)] h fun _ h'=>∃ nv,DS h1 h' db c.id wb hv wv nv (.slice none 0 0) c.nms []:=by
 refine Ret.of_body func105 rfl ntmps105 rfl rfl ?_
 obtain ⟨ah,chh,e⟩:=hH.form
 subst e
 obtain ⟨aw,cw,e⟩:=hW.form
 subst e
 have d2:=x.dr.blk.cell (j:=2) rfl
 have d3:=x.dr.blk.cell (j:=3) rfl
 have hpr:=q.pr
 have hst:∀ j,atJ (prs (hlsX ps orx (ordX ps sd)) c.W) j=c.st j:=fun j=>by rw [← hpr];rfl
 have hsr:∀ {i j},c.st j=some i→i<(ordX ps sd).length:=fun hs=>q.len ▸ (q.rc.st hs).1
 have hrefs:∀ {i a},(ordX ps sd)[i]? = some a→c.ref i=(lnX ps a).ref:=fun h=>q.ref h
 generalize ordX ps sd=L at *
 refine zgo ?_
 refine Runs.drawn (m:=10) (fun h'=>Ext h h') (fun _=>false) mixed rfl ?_
 refine zp 0 (Fr.refl _ _) ?_
 refine zp 1 (Fr.refl _ _) ?_
 refine zp 2 (Fr.refl _ _) ?_
 refine zl 3 (fun _ hS=>(Fr.xc hS d2)) (Fr.refl _ _) ?_
 refine zp 4 (Fr.refl _ _) ?_
 refine zp 5 (Fr.refl _ _) ?_
 refine zp 6 (Fr.refl _ _) ?_
 refine zl 7 (fun _ hS=>(Fr.xc hS d3)) (Fr.refl _ _) ?_
 refine WF.call 8 (by kernel_rfl) rfl rfl rfl rfl rfl plain_rstay rfl (rstay_ret ps sd orx L c.W _ _ h (hH.ext x.ext) (hW.ext x.ext) hl (by omega)) fun v3 h3 ⟨hx3,ho3,hm3⟩=>⟨.inr hx3,?_⟩
 refine zx 9 hx3 ?_
 refine zd ?_
 have hr3:=ho3.rd
 have hl3:=ho3.lt
 obtain ⟨av,cav,e⟩:=hr3.form
 subst e
 have hz3:=hx3.size
 have hdl:=x.dr.blk.lt
 have hz1:=x.ext.size
 refine zgo ?_
 refine Runs.loop (X:=QNX) (fun u=>[(0,.pointer (some ⟨db,0,none⟩)),(2,.slice av c.W.length cav),(3,.int .i64 (c.own u.j:Int)),(4,.int .i64 (u.j:Int))])
  (fun u h'=>u.j≤c.W.length∧DS h1 h' db c.id wb (.slice ah L.length chh) (.slice aw c.W.length cw) u.v (.slice none 0 0) ((List.range u.j).map c.nm) []∧Fr (fun k=>k=db) h3 h'∧∀ k,u.v.ownBlock=some k→h3.size≤k)
  (fun u=>c.W.length-u.j) ⟨0,.slice none 0 0⟩ ⟨rfl,rfl,rfl,rfl,trivial⟩ ⟨Nat.zero_le _,x.up hx3,Fr.refl _ _,fun k hk=>by simp [Value.ownBlock] at hk⟩ ?_
 rintro ⟨j,v⟩ h5 ⟨hj,y,hf5,hm5⟩ ih
 dsimp only at hj y hf5 hm5 ih ⊢
 have hz5:=hf5.size
 have hr5:Rd h5 1 (.slice av c.W.length cav) c.W.length (rowZ c.W.length fun j=>oi (atJ (prs (hlsX ps orx L) c.W) j)):=hr3.fr hf5 fun k hk e=>by have:=hm3 k hk;omega
 have hNl:((List.range j).map c.nm).length=j:=by simp
 refine zgo ?_
 refine Runs.cond_dec rfl (fun hlt=>?_) (fun hge=>?_)
 rotate_left
 ·have hj':j=c.W.length:=by omega
  subst hj'
  refine zgo ?_
  exact Runs.fall func105 (ret0 results105) ⟨v,y⟩
 have hlt':j<c.W.length:=by omega
 obtain ⟨bp,pp,kp,ep,_,gp⟩:=hr5.cell (rowZ_get hlt')
 cases ep
 rw [hst j] at gp
 have hown:=c.own_le j
 have hosuc:=c.own_succ j
 have hnmr:(List.range (j+1)).map c.nm=(List.range j).map c.nm++[c.nm j]:=by rw [List.range_succ,List.map_append];rfl
 have hS0:Fr (fun k=>v.ownBlock=some k) h5 h5:=Fr.refl _ _
 have hvd:v.ownBlock≠some db:=fun e=>by have:=hm5 _ e;omega
 have n4:=y.dr.blk.cell (j:=4) rfl
 have n0:=y.dr.blk.cell (j:=0) rfl
 have n2:=y.dr.blk.cell (j:=2) rfl
 refine zgo ?_
 refine Runs.cond_dec rfl (fun hneg=>?_) (fun hpos=>?_)
 ·have hno:c.st j=none:=by
   cases e:c.st j with
   | none=>rfl
   | some i=>rw [e] at hneg;simp only [oi] at hneg;omega
  rw [hno] at hosuc
  have hnm:c.nm j=⟨c.id,c.own j⟩:=by unfold RC.nm;rw [hno]
  refine zgo ?_
  refine Runs.drawn (m:=16) (fun h'=>Fr (fun k=>v.ownBlock=some k) h5 h') (fun i=>Nat.beq i 15) mixed rfl ?_
  refine zp 0 hS0 ?_
  refine zp 1 hS0 ?_
  refine zp 2 hS0 ?_
  refine zp 3 hS0 ?_
  refine zl 4 (fun _ hS=>(Fr.cell hS hvd n4)) hS0 ?_
  refine zp 5 hS0 ?_
  refine zp 6 hS0 ?_
  refine zp 7 hS0 ?_
  refine zl 8 (fun _ hS=>(Fr.cell hS hvd n0)) hS0 ?_
  refine zp 9 hS0 ?_
  refine zp 10 hS0 ?_
  refine WF.push 11 12 tab_ok (by kernel_rfl) (by kernel_rfl) rfl rfl rfl rfl rfl rfl rfl rfl rfl rfl rfl rfl rfl rfl rfl rfl rfl rfl rfl (by simp) (RefD.one ⟨c.id,c.own j⟩) y.nm (by omega) (fun h' hf=>hf) ?_
  intro v7 h7 o1 o2 o3
  refine zx 13 o2 ?_
  refine zx 14 o2 ?_
  obtain ⟨ad7,cap7,hv7⟩:=o1.rd.form
  have hone7:One [v7]:=by rw [hv7];exact one_slice _ _ _
  have hl7:oneList v7=some [v7]:=by rw [hv7];rfl
  refine WF.put 15 tab_ok (by kernel_rfl) rfl rfl rfl rfl rfl rfl rfl hl7 rfl hone7 (y.dr.blk.fr o2 fun e=>hvd e) rfl rfl fun h8 hb8 hx8 hs8=>?_
  refine zd ?_
  have y8:=y.pushN rfl (r:=⟨c.id,c.own j⟩) o1 o2 o3 hb8 hx8
  refine zgo ?_
  refine ih ⟨j+1,v7⟩ _ _ (by dsimp only;omega) ⟨rfl,rfl,by dsimp only;rw [hosuc];rfl,rfl,trivial⟩ ⟨hlt',by dsimp only;rw [hnmr,hnm];exact y8,?_,fun k hk=>?_⟩
  ·exact (hf5.trans_new (o2.mono fun k _ e=>.inr (hm5 k e))).trans hx8
  ·rcases o3 k hk with e | e
   ·exact hm5 k e
   ·omega
 ·obtain ⟨i,hso⟩:∃ i,c.st j=some i:=by
   cases e:c.st j with
   | none=>rw [e] at hpos;exact absurd rfl hpos
   | some i=>exact ⟨i,rfl⟩
  rw [hso] at hosuc gp
  simp only [oi] at gp
  have hil:=hsr hso
  have hget:L[i]? = some L[i]:=List.getElem?_eq_getElem hil
  have hrf:=hrefs hget
  have hnm:c.nm j=(lnX ps L[i]).ref:=by unfold RC.nm;rw [hso];exact hrf
  generalize L[i]=a at *
  obtain ⟨bh,ph,kh,eh,_,gh0⟩:=hH.pos (by omega)
  cases eh
  have gh1:Cells h1 bh (ph+i*5+0) (lnX ps a).ref.cells:=(flat_get (slX_len ps sd orx) gh0 hget).take 2
  have gh:=y.ext.xcs gh1
  have hbh:v.ownBlock≠some bh:=fun e=>by
   have:=hm5 _ e
   have:=lt_of_cell gh1.head
   omega
  have hbp:v.ownBlock≠some bp:=fun e=>by
   have:=hm5 _ e
   have:=hl3 bp rfl
   omega
  refine zgo ?_
  refine Runs.drawn (m:=21) (fun h'=>Fr (fun k=>v.ownBlock=some k) h5 h') (fun i=>Nat.beq i 20) mixed rfl ?_
  refine zp 0 hS0 ?_
  refine zp 1 hS0 ?_
  refine zp 2 hS0 ?_
  refine zp 3 hS0 ?_
  refine zl 4 (fun _ hS=>(Fr.cell hS hvd n4)) hS0 ?_
  refine zp 5 hS0 ?_
  refine zp 6 hS0 ?_
  refine zp 7 hS0 ?_
  refine zl 8 (fun _ hS=>(Fr.cell hS hvd n2)) hS0 ?_
  refine zp 9 hS0 ?_
  refine zp 10 hS0 ?_
  refine zi 11 hlt' hS0 ?_
  refine zl 12 (fun _ hS=>(Fr.cell hS hbp gp)) hS0 ?_
  refine zi 13 hil hS0 ?_
  refine zp 14 hS0 ?_
  refine zL 15 (fun _ hS=>(Fr.cells hS hbh gh)) hS0 ?_
  refine WF.push 16 17 tab_ok (by kernel_rfl) (by kernel_rfl) rfl rfl rfl rfl rfl rfl rfl rfl rfl rfl rfl rfl rfl rfl rfl rfl rfl rfl rfl (by simp) (RefD.one (lnX ps a).ref) y.nm (by omega) (fun h' hf=>hf) ?_
  intro v7 h7 o1 o2 o3
  refine zx 18 o2 ?_
  refine zx 19 o2 ?_
  obtain ⟨ad7,cap7,hv7⟩:=o1.rd.form
  have hone7:One [v7]:=by rw [hv7];exact one_slice _ _ _
  have hl7:oneList v7=some [v7]:=by rw [hv7];rfl
  refine WF.put 20 tab_ok (by kernel_rfl) rfl rfl rfl rfl rfl rfl rfl hl7 rfl hone7 (y.dr.blk.fr o2 fun e=>hvd e) rfl rfl fun h8 hb8 hx8 hs8=>?_
  refine zd ?_
  have y8:=y.pushN rfl (r:=(lnX ps a).ref) o1 o2 o3 hb8 hx8
  refine zgo ?_
  refine ih ⟨j+1,v7⟩ _ _ (by dsimp only;omega) ⟨rfl,rfl,by dsimp only;rw [hosuc];rfl,rfl,trivial⟩ ⟨hlt',by dsimp only;rw [hnmr,hnm];exact y8,?_,fun k hk=>?_⟩
  ·exact (hf5.trans_new (o2.mono fun k _ e=>.inr (hm5 k e))).trans hx8
  ·rcases o3 k hk with e | e
   ·exact hm5 k e
   ·omega
theorem tellDead_ret {ps:List PatchD} {sd:Nat→Int} {orx:Nat→Bool} {c:RC} (q:QF ps sd orx c) (h1 h:Heap) (db wb:Nat) (hv wv nv:Value) (x:DS h1 h db c.id wb hv wv nv (.slice none 0 0) c.nms [])
  (hH:Rd h1 5 hv (ordX ps sd).length ((ordX ps sd).flatMap (slX ps sd orx))) (hl:(ordX ps sd).length≤1000) (hw:c.W.length≤24) :
  Ret Tryz.prog 106 #[.pointer (some ⟨db,0,none⟩)] h fun _ h'=>∃ cv,DS h1 h' db c.id wb hv wv nv cv c.nms (c.dels c.R.length):=by
 refine Ret.of_body func106 rfl ntmps106 rfl rfl ?_
 obtain ⟨ah,chh,e⟩:=hH.form
 subst e
 have hlen:=q.len
 have hrefs:∀ {i a},(ordX ps sd)[i]? = some a→c.ref i=(lnX ps a).ref:=fun h=>q.ref h
 generalize ordX ps sd=L at *
 refine zgo ?_
 refine Runs.loop (X:=QNX) (fun u=>[(0,.pointer (some ⟨db,0,none⟩)),(2,.int .i64 (u.j:Int))])
  (fun u h'=>u.j≤L.length∧DS h1 h' db c.id wb (.slice ah L.length chh) wv nv u.v c.nms (c.dels u.j))
  (fun u=>L.length-u.j) ⟨0,.slice none 0 0⟩ ⟨rfl,rfl,trivial⟩ ⟨Nat.zero_le _,x⟩ ?_
 rintro ⟨i,v⟩ h5 ⟨hi,y⟩ ih
 dsimp only at hi y ih ⊢
 have n2:=y.dr.blk.cell (j:=2) rfl
 refine zgo ?_
 refine Runs.cond_dec rfl (fun hlt=>?_) (fun hge=>?_)
 rotate_left
 ·have hi':i=c.R.length:=by omega
  subst hi'
  refine zgo ?_
  exact Runs.fall func106 (ret0 results106) ⟨v,y⟩
 have hlt':i<L.length:=by omega
 have hget:L[i]? = some L[i]:=List.getElem?_eq_getElem hlt'
 have hrf:=hrefs hget
 have hany:=q.any (i:=i) (by omega)
 generalize L[i]=a at *
 obtain ⟨bh,ph,kh,eh,_,gh0⟩:=hH.pos (by omega)
 cases eh
 have gh1:Cells h1 bh (ph+i*5+0) (lnX ps a).ref.cells:=(flat_get (slX_len ps sd orx) gh0 hget).take 2
 have gh:=y.ext.xcs gh1
 have hdl:=c.dels_len i
 refine zgo ?_
 refine WO.call rfl rfl rfl rfl plain_dstays rfl (dstays_ret db c.id wb _ wv nv v c.nms h5 y.dr y.nm.rd (lnX ps a).ref (by rw [c.nms_length];omega)) fun v6 h6 ⟨hx6,hv6⟩=>?_
 rw [← hrf,hany] at hv6
 subst hv6
 have y6:=y.up hx6
 have m2:=y6.dr.blk.cell (j:=2) rfl
 have m5:=y6.dr.blk.cell (j:=5) rfl
 have gh6:=hx6.xcs gh
 refine zgo ?_
 refine Runs.cond rfl (fun hq=>?_) (fun hq=>?_)
 ·have hno:atI c.pr i=none:=by simpa using hq
  have hdel:c.dels (i+1)=c.dels i++[⟨2,(lnX ps a).ref,⟨0,0⟩,[]⟩]:=by rw [RC.dels_succ,RC.del,hno,hrf];rfl
  have hS0:Fr (fun k=>v.ownBlock=some k) h6 h6:=Fr.refl _ _
  have hvd:v.ownBlock≠some db:=fun e=>(y.cvb _ e).2.1 rfl
  have hbh:v.ownBlock≠some bh:=fun e=>by
   have:=(y.cvb _ e).1
   have:=lt_of_cell gh1.head
   omega
  refine zgo ?_
  refine Runs.drawn (m:=19) (fun h'=>Fr (fun k=>v.ownBlock=some k) h6 h') (fun i=>Nat.beq i 18) mixed rfl ?_
  refine zp 0 hS0 ?_
  refine zp 1 hS0 ?_
  refine zp 2 hS0 ?_
  refine zp 3 hS0 ?_
  refine zl 4 (fun _ hS=>(Fr.cell hS hvd m5)) hS0 ?_
  refine zp 5 hS0 ?_
  refine zp 6 hS0 ?_
  refine zp 7 hS0 ?_
  refine zl 8 (fun _ hS=>(Fr.cell hS hvd m2)) hS0 ?_
  refine zp 9 hS0 ?_
  refine zi 10 hlt' hS0 ?_
  refine zp 11 hS0 ?_
  refine zL 12 (fun _ hS=>(Fr.cells hS hbh gh6)) hS0 ?_
  refine zp 13 hS0 ?_
  refine WF.push 14 15 tab_ok (by kernel_rfl) (by kernel_rfl) rfl rfl rfl rfl rfl rfl rfl rfl rfl rfl rfl rfl rfl rfl rfl rfl rfl rfl rfl (by simp) (ChangeD.one ⟨2,(lnX ps a).ref,⟨0,0⟩,[]⟩) y6.own (by omega) (fun h' hf=>hf) ?_
  intro v7 h7 o1 o2 o3
  refine zx 16 o2 ?_
  refine zx 17 o2 ?_
  obtain ⟨ad7,cap7,hv7⟩:=o1.rd.form
  have hone7:One [v7]:=by rw [hv7];exact one_slice _ _ _
  have hl7:oneList v7=some [v7]:=by rw [hv7];rfl
  refine WF.put 18 tab_ok (by kernel_rfl) rfl rfl rfl rfl rfl rfl rfl hl7 rfl hone7 (y6.dr.blk.fr o2 fun e=>hvd e) rfl rfl fun h8 hb8 hx8 hs8=>?_
  refine zd ?_
  have y8:=y6.pushC (d:=⟨2,(lnX ps a).ref,⟨0,0⟩,[]⟩) o1 o2 o3 hb8 hx8
  refine zgo ?_
  exact ih ⟨i+1,v7⟩ _ _ (by dsimp only;omega) ⟨rfl,rfl,trivial⟩ ⟨hlt',by dsimp only;rw [hdel];exact y8⟩
 ·have hdel:c.dels (i+1)=c.dels i:=by
   rw [RC.dels_succ,RC.del]
   cases e:atI c.pr i with
   | none=>rw [e] at hq;simp at hq
   | some j=>simp
  refine zgo ?_
  exact ih ⟨i+1,v⟩ _ _ (by dsimp only;omega) ⟨rfl,rfl,trivial⟩ ⟨hlt',by dsimp only;rw [hdel];exact y6⟩
theorem dput_ret {ps:List PatchD} {sd:Nat→Int} {orx:Nat→Bool} {c:RC} (q:QF ps sd orx c) (h1 h:Heap) (db wb:Nat) (hv wv nv cv lv dv:Value) (rbs:List Nat) (w:Nat→WL) (ch:List ChangeD) (x:DS h1 h db c.id wb hv wv nv cv c.nms ch)
  (hW:Rd h1 1 wv c.W.length (strs c.W)) (w2:cellAt h1 wb 2=some lv) (w3:cellAt h1 wb 3=some dv) (hr:Rd h1 13 lv (nX ps) (wlsC (nX ps) w)) (hom:LM h1 4 (nX ps) dv rbs (onS ps)) (hls:lnsOf (nX ps) w=linesS ps) (hn:nX ps≤100000) (hw:c.W.length≤24) (hcl:ch.length≤1000) (j:Nat) (hj:j<c.W.length) :
  Ret Tryz.prog 107 #[.pointer (some ⟨db,0,none⟩),.int .i64 (j:Int)] h fun _ h'=>∃ cv',DS h1 h' db c.id wb hv wv nv cv' c.nms (ch++c.put j):=by
 refine Ret.of_body func107 rfl ntmps107 rfl rfl ?_
 have hgj:=c.nms_get hj
 have hnl:=c.nms_length
 refine zgo ?_
 refine WO.call rfl rfl rfl rfl plain_isOwn rfl (isOwn_ret db c.id wb hv wv nv cv c.nms h x.dr x.nm.rd j _ hgj) fun v2 h2 ⟨hx2,hv2⟩=>?_
 replace hx2:=hx2.symm
 subst hx2 hv2
 refine zgo ?_
 refine Runs.cond rfl (fun hq=>?_) (fun hq=>?_)
 ·have hno:c.st j=none:=q.own.1 (of_decide_eq_true hq)
  have hput:c.put j=[⟨1,c.up j,c.dn j,c.W.getD j []⟩]:=by unfold RC.put;rw [hno]
  refine zgo ?_
  refine WO.call rfl rfl rfl rfl plain_dup rfl (dup_ret db c.id wb hv wv nv cv c.nms h x.dr x.nm.rd j (by omega) (by omega)) fun v3 h3 ⟨hx3,hv3⟩=>?_
  rw [QF.up hj] at hv3
  subst hv3
  refine zgo ?_
  refine zv (RefD.one (c.up j)) fun h4 hb4 hx4 hs4=>?_
  have x4:=x.up (hx3.trans hx4)
  refine zgo ?_
  refine WO.call rfl rfl rfl rfl plain_ddown rfl (ddown_ret db c.id wb hv wv nv cv c.nms h4 x4.dr x4.nm.rd j (by omega) (by omega)) fun v5 h5 ⟨hx5,hv5⟩=>?_
  rw [q.down hj] at hv5
  subst hv5
  refine zgo ?_
  refine zv (RefD.one (c.dn j)) fun h6 hb6 hx6 hs6=>?_
  have x6:=x4.up (hx5.trans hx6)
  have eu:Cells h6 h3.size 0 (c.up j).cells:=(hx5.trans hx6).xcs hb4.cells
  have ed:Cells h6 h5.size 0 (c.dn j).cells:=hb6.cells
  have hgw:c.W[j]? = some c.W[j]:=List.getElem?_eq_getElem hj
  have hgd:c.W.getD j []=c.W[j]:=by simp [List.getD_eq_getElem?_getD,hgw]
  rw [hgd] at hput
  generalize c.W[j]=t at *
  obtain ⟨bw,pw,kw,ew,_,gw1⟩:=hW.cell (strs_get hgw)
  subst ew
  have gw:=x6.ext.xc gw1
  have m3:=x6.dr.blk.cell (j:=3) rfl
  have m5:=x6.dr.blk.cell (j:=5) rfl
  have hS0:Fr (fun k=>cv.ownBlock=some k) h6 h6:=Fr.refl _ _
  have hvd:cv.ownBlock≠some db:=fun e=>(x.cvb _ e).2.1 rfl
  have hvl:=x.own.lt
  have hz3:=hx3.size
  have hz4:=hx4.size
  have hz5:=hx5.size
  have hbu:cv.ownBlock≠some h3.size:=fun e=>by have:=hvl _ e;omega
  have hbd:cv.ownBlock≠some h5.size:=fun e=>by have:=hvl _ e;omega
  have hbw:cv.ownBlock≠some bw:=fun e=>by
   have:=(x.cvb _ e).1
   have:=lt_of_cell gw1
   omega
  rw [hput]
  refine zgo ?_
  refine Runs.drawn (m:=20) (fun h'=>Fr (fun k=>cv.ownBlock=some k) h6 h') (fun i=>Nat.beq i 19) mixed rfl ?_
  refine zp 0 hS0 ?_
  refine zp 1 hS0 ?_
  refine zp 2 hS0 ?_
  refine zp 3 hS0 ?_
  refine zl 4 (fun _ hS=>(Fr.cell hS hvd m5)) hS0 ?_
  refine zL 5 (fun _ hS=>(Fr.cells hS hbu eu)) hS0 ?_
  refine zL 6 (fun _ hS=>(Fr.cells hS hbd ed)) hS0 ?_
  refine zp 7 hS0 ?_
  refine zp 8 hS0 ?_
  refine zp 9 hS0 ?_
  refine zl 10 (fun _ hS=>(Fr.cell hS hvd m3)) hS0 ?_
  refine zp 11 hS0 ?_
  refine zi 12 hj hS0 ?_
  refine zl 13 (fun _ hS=>(Fr.cell hS hbw gw)) hS0 ?_
  refine zp 14 hS0 ?_
  refine WF.push 15 16 tab_ok (by kernel_rfl) (by kernel_rfl) rfl rfl rfl rfl rfl rfl rfl rfl rfl rfl rfl rfl rfl rfl rfl rfl rfl rfl rfl (by simp) (ChangeD.one ⟨1,c.up j,c.dn j,t⟩) x6.own (by omega) (fun h' hf=>hf) ?_
  intro v7 h7 o1 o2 o3
  refine zx 17 o2 ?_
  refine zx 18 o2 ?_
  obtain ⟨ad7,cap7,hv7⟩:=o1.rd.form
  have hone7:One [v7]:=by rw [hv7];exact one_slice _ _ _
  have hl7:oneList v7=some [v7]:=by rw [hv7];rfl
  refine WF.put 19 tab_ok (by kernel_rfl) rfl rfl rfl rfl rfl rfl rfl hl7 rfl hone7 (x6.dr.blk.fr o2 fun e=>hvd e) rfl rfl fun h8 hb8 hx8 hs8=>?_
  refine zd ?_
  have x8:=x6.pushC (d:=⟨1,c.up j,c.dn j,t⟩) o1 o2 o3 hb8 hx8
  refine zgo ?_
  exact Runs.ret func107 (ret0 results107) ⟨v7,x8⟩
 ·obtain ⟨i,hso⟩:∃ i,c.st j=some i:=by
   cases e:c.st j with
   | none=>rw [decide_eq_true (q.own.2 e)] at hq;cases hq
   | some i=>exact ⟨i,rfl⟩
  have hS0:Ext h h:=Fr.refl _ _
  by_cases hj0:j=0
  ·subst hj0
   have hput:c.put 0=[]:=by unfold RC.put;rw [hso];rfl
   rw [hput,List.append_nil]
   refine zgo ?_
   refine Runs.drawn (m:=30) (fun h'=>Ext h h') (fun _=>false) mixed rfl ?_
   refine zp 0 hS0 ?_
   refine zp 1 hS0 ?_
   refine zp 2 hS0 ?_
   refine zq 3 hS0 ?_
   refine zq 4 hS0 ?_
   refine zq 5 hS0 ?_
   refine zq 6 hS0 ?_
   refine zp 7 hS0 ?_
   refine zp 8 hS0 ?_
   refine zq 9 hS0 ?_
   refine zq 10 hS0 ?_
   refine zq 11 hS0 ?_
   refine zq 12 hS0 ?_
   refine zq 13 hS0 ?_
   refine zq 14 hS0 ?_
   refine zq 15 hS0 ?_
   refine zq 16 hS0 ?_
   refine zq 17 hS0 ?_
   refine zq 18 hS0 ?_
   refine zq 19 hS0 ?_
   refine zq 20 hS0 ?_
   refine zq 21 hS0 ?_
   refine zq 22 hS0 ?_
   refine zq 23 hS0 ?_
   refine zq 24 hS0 ?_
   refine zq 25 hS0 ?_
   refine zq 26 hS0 ?_
   refine zq 27 hS0 ?_
   refine zq 28 hS0 ?_
   refine zp 29 hS0 ?_
   refine zd ?_
   refine zgo ?_
   exact Runs.ret func107 (ret0 results107) ⟨cv,x⟩
  obtain ⟨k,rfl⟩:∃ k,j=k+1:=⟨j-1,by omega⟩
  have hd0:decide (((k+1:Nat):Int)=0)=false:=decide_eq_false (by omega)
  have hgk:=c.nms_get (show k<c.W.length by omega)
  refine zgo ?_
  refine Runs.drawn (m:=30) (fun h'=>Ext h h') (fun _=>false) mixed rfl ?_
  refine zp 0 hS0 ?_
  refine zp 1 hS0 ?_
  rw [hd0]
  refine zp 2 hS0 ?_
  refine zp 3 hS0 ?_
  refine zp 4 hS0 ?_
  refine WF.take 5 rfl (fun _ _=>ov_sub rfl rfl rfl (in_i64 (by omega) (by omega))) hS0 rfl rfl rfl (by kernel_rfl) ?_
  rw [show (((k+1:Nat):Int)-1)=(k:Int) by omega]
  refine WF.call 6 (by kernel_rfl) rfl rfl rfl rfl rfl plain_isOwn rfl (isOwn_ret db c.id wb hv wv nv cv c.nms h x.dr x.nm.rd k _ hgk) fun v3 h3 ⟨hx3,hv3⟩=>⟨.inr (hx3 ▸ Fr.refl _ _),?_⟩
  replace hx3:=hx3.symm
  subst hx3 hv3
  cases hs':c.st k with
  | none =>
   have hput:c.put (k+1)=[]:=by unfold RC.put;rw [hso];simp [hs']
   rw [hput,List.append_nil,decide_eq_true (q.own.2 hs')]
   refine zp 7 hS0 ?_
   refine zp 8 hS0 ?_
   refine zq 9 hS0 ?_
   refine zq 10 hS0 ?_
   refine zq 11 hS0 ?_
   refine zq 12 hS0 ?_
   refine zq 13 hS0 ?_
   refine zq 14 hS0 ?_
   refine zq 15 hS0 ?_
   refine zq 16 hS0 ?_
   refine zq 17 hS0 ?_
   refine zq 18 hS0 ?_
   refine zq 19 hS0 ?_
   refine zq 20 hS0 ?_
   refine zq 21 hS0 ?_
   refine zq 22 hS0 ?_
   refine zq 23 hS0 ?_
   refine zq 24 hS0 ?_
   refine zq 25 hS0 ?_
   refine zq 26 hS0 ?_
   refine zq 27 hS0 ?_
   refine zq 28 hS0 ?_
   refine zp 29 hS0 ?_
   refine zd ?_
   refine zgo ?_
   exact Runs.ret func107 (ret0 results107) ⟨cv,x⟩
  | some i' =>
   have hne:decide ((c.nm k).p=c.id)=false:=decide_eq_false fun e=>by rw [q.own.1 e] at hs';cases hs'
   rw [hne]
   have hi:=(q.rc.st hso).1
   have hi':=(q.rc.st hs').1
   have hld:=q.lead hi' hi
   have hnk:c.nm k=c.ref i':=by unfold RC.nm;rw [hs']
   have hnj:c.nm (k+1)=c.ref i:=by unfold RC.nm;rw [hso]
   obtain ⟨bn,pn,kn,en,_,gn0⟩:=x.nm.rd.pos (by omega)
   subst en
   have gk:Cells h bn (pn+k*2) (c.ref i').cells:=by have:=refsC_get gn0 hgk;rw [hnk] at this;exact this
   have gj:Cells h bn (pn+(k+1)*2) (c.ref i).cells:=by have:=refsC_get gn0 hgj;rw [hnj] at this;exact this
   have m1:=x.dr.blk.cell (j:=1) rfl
   have m4:=x.dr.blk.cell (j:=4) rfl
   have m5:=x.dr.blk.cell (j:=5) rfl
   have hkl:k<c.nms.length:=by omega
   have hkl1:k+1<c.nms.length:=by omega
   refine zp 7 hS0 ?_
   refine zp 8 hS0 ?_
   refine zp 9 hS0 ?_
   refine zp 10 hS0 ?_
   refine zp 11 hS0 ?_
   refine zl 12 (fun _ hS=>(Fr.xc hS m1)) hS0 ?_
   refine zp 13 hS0 ?_
   refine zp 14 hS0 ?_
   refine zp 15 hS0 ?_
   refine zl 16 (fun _ hS=>(Fr.xc hS m4)) hS0 ?_
   refine zp 17 hS0 ?_
   refine WF.take 18 rfl (fun _ _=>ov_sub rfl rfl rfl (in_i64 (by omega) (by omega))) hS0 rfl rfl rfl (by kernel_rfl) ?_
   rw [show (((k+1:Nat):Int)-1)=(k:Int) by omega]
   refine zi 19 hkl hS0 ?_
   refine zL 20 (fun _ hS=>(Fr.xcs hS gk)) hS0 ?_
   refine zp 21 hS0 ?_
   refine zp 22 hS0 ?_
   refine zp 23 hS0 ?_
   refine zl 24 (fun _ hS=>(Fr.xc hS m4)) hS0 ?_
   refine zp 25 hS0 ?_
   refine zi 26 hkl1 hS0 ?_
   refine zL 27 (fun _ hS=>(Fr.xcs hS gj)) hS0 ?_
   refine WF.call 28 (by kernel_rfl) rfl rfl rfl rfl rfl plain_Leads rfl (Leads_ret wb (nX ps) w lv dv rbs (onS ps) h (x.ext.xc w2) (x.ext.xc w3) (hr.ext x.ext) (hom.ext x.ext) hn (c.ref i') (c.ref i)) fun v4 h4 ⟨hx4,hv4⟩=>⟨.inr hx4,?_⟩
   rw [hls,hld] at hv4
   subst hv4
   refine zx 29 hx4 ?_
   refine zd ?_
   have x4:=x.up hx4
   refine Runs.cond rfl (fun hq2=>?_) (fun hq2=>?_)
   ·have hput:c.put (k+1)=[]:=by unfold RC.put;rw [hso];simp [hs',hq2]
    rw [hput,List.append_nil]
    refine zgo ?_
    exact Runs.ret func107 (ret0 results107) ⟨cv,x4⟩
   ·have hput:c.put (k+1)=[⟨3,c.ref i',c.ref i,[]⟩]:=by unfold RC.put;rw [hso];simp [hs',hq2]
    rw [hput]
    have hvd:cv.ownBlock≠some db:=fun e=>(x.cvb _ e).2.1 rfl
    have hbn:cv.ownBlock≠some bn:=fun e=>(x.cvb _ e).2.2 rfl
    have hS4:Fr (fun k=>cv.ownBlock=some k) h4 h4:=Fr.refl _ _
    have gk4:=hx4.xcs gk
    have gj4:=hx4.xcs gj
    have m44:=hx4.xc m4
    have m54:=hx4.xc m5
    refine zgo ?_
    refine Runs.drawn (m:=26) (fun h'=>Fr (fun k=>cv.ownBlock=some k) h4 h') (fun i=>Nat.beq i 25) mixed rfl ?_
    refine zp 0 hS4 ?_
    refine zp 1 hS4 ?_
    refine zp 2 hS4 ?_
    refine zp 3 hS4 ?_
    refine zl 4 (fun _ hS=>(Fr.cell hS hvd m54)) hS4 ?_
    refine zp 5 hS4 ?_
    refine zp 6 hS4 ?_
    refine zp 7 hS4 ?_
    refine zl 8 (fun _ hS=>(Fr.cell hS hvd m44)) hS4 ?_
    refine zp 9 hS4 ?_
    refine WF.take 10 rfl (fun _ _=>ov_sub rfl rfl rfl (in_i64 (by omega) (by omega))) hS4 rfl rfl rfl (by kernel_rfl) ?_
    rw [show (((k+1:Nat):Int)-1)=(k:Int) by omega]
    refine zi 11 hkl hS4 ?_
    refine zL 12 (fun _ hS=>(Fr.cells hS hbn gk4)) hS4 ?_
    refine zp 13 hS4 ?_
    refine zp 14 hS4 ?_
    refine zp 15 hS4 ?_
    refine zl 16 (fun _ hS=>(Fr.cell hS hvd m44)) hS4 ?_
    refine zp 17 hS4 ?_
    refine zi 18 hkl1 hS4 ?_
    refine zL 19 (fun _ hS=>(Fr.cells hS hbn gj4)) hS4 ?_
    refine zp 20 hS4 ?_
    refine WF.push 21 22 tab_ok (by kernel_rfl) (by kernel_rfl) rfl rfl rfl rfl rfl rfl rfl rfl rfl rfl rfl rfl rfl rfl rfl rfl rfl rfl rfl (by simp) (ChangeD.one ⟨3,c.ref i',c.ref i,[]⟩) x4.own (by omega) (fun h' hf=>hf) ?_
    intro v7 h7 o1 o2 o3
    refine zx 23 o2 ?_
    refine zx 24 o2 ?_
    obtain ⟨ad7,cap7,hv7⟩:=o1.rd.form
    have hone7:One [v7]:=by rw [hv7];exact one_slice _ _ _
    have hl7:oneList v7=some [v7]:=by rw [hv7];rfl
    refine WF.put 25 tab_ok (by kernel_rfl) rfl rfl rfl rfl rfl rfl rfl hl7 rfl hone7 (x4.dr.blk.fr o2 fun e=>hvd e) rfl rfl fun h8 hb8 hx8 hs8=>?_
    refine zd ?_
    have x8:=x4.pushC (d:=⟨3,c.ref i',c.ref i,[]⟩) o1 o2 o3 hb8 hx8
    refine zgo ?_
    exact Runs.fall func107 (ret0 results107) ⟨v7,x8⟩
end Go.Proofs.YtlaffgagmncgjabGreatDoor
namespace Go.Proofs.YtlaffgagmncgjabGreatDoor
open Tryz Go Go.Pat Go.Proofs
theorem plain_Make:Plain Tryz.prog 61:=⟨_,func61,by decide +kernel,by rfl⟩
theorem plain_xRecord:Plain Tryz.prog 22:=⟨_,func22,by decide +kernel,by rfl⟩
def recD (ps:List PatchD) (c:RC):PatchD:=⟨c.id,ndS ps c.ch,c.ch⟩
theorem textOk_len {t:List UInt8} (h:textOk t=true):t.length≤12:=by
 unfold textOk at h
 rw [Bool.and_eq_true] at h
 exact of_decide_eq_true h.1
theorem fileOk_out {W:List (List UInt8)} (h:fileOk W=true):W.length≤24∧∀ t∈W,t.length≤12:=by
 unfold fileOk at h
 rw [Bool.and_eq_true,List.all_eq_true] at h
 exact ⟨of_decide_eq_true h.1,fun t ht=>textOk_len (h.2 t ht)⟩
theorem Make_ret {F:Nat→Prop} (lv wv:Value) (l:List PD3) (W:List (List UInt8)) (id:Nat) (h:Heap) (hs:XS F h lv l) (hF:∀ k,F k→k<h.size) (hinv:Inv (l.map PD3.p)) (hid:id<10000∧id≠0) (hout:id∉(l.map PD3.p).map PatchD.id)
  (hW:Rd h 1 wv W.length (strs W)) (hw:W.length≤24∧∀ t∈W,t.length≤12) :
  Ret Tryz.prog 61 #[lv,.int .i64 (id:Int),wv] h fun v h'=>Ext h h'∧∃ sd orx,NumX (l.map PD3.p) sd orx∧∃ nv cv,v = .agg (PD3.cells ⟨recD (l.map PD3.p) (xRC (l.map PD3.p) orx (ordX (l.map PD3.p) sd) id W),nv,cv⟩).toArray ∧
   PV (fun k=>h.size≤k) h' ⟨recD (l.map PD3.p) (xRC (l.map PD3.p) orx (ordX (l.map PD3.p) sd) id W),nv,cv⟩:=by
 refine Ret.of_body func61 rfl ntmps61 rfl rfl ?_
 obtain ⟨orx,horx⟩:=orx_ex (l.map PD3.p)
 have hnX:nX (l.map PD3.p)≤90:=hinv.lines
 have hll:l.length≤1000:=by have:=hinv.len;simp at this;omega
 have hcl:∀ y∈l,y.p.changes.length≤1000:=fun y hy=>by have:=(hinv.ok (List.mem_map.2 ⟨y,hy,rfl⟩)).len;omega
 refine zgo ?_
 refine WO.alloc tab_ok rfl rfl rfl rfl rfl rfl fun h0 hb0 hx0 hs0=>?_
 refine zgo ?_
 refine WO.call rfl rfl rfl rfl plain_spin rfl (spin_ret lv l _ (hs.ext hx0) (fun k hk=>by have:=hF k hk;omega) hinv) fun v1 h1 ⟨hx1,wb,G,x,pa,sd,hv1,hpa,hpi,y1⟩=>?_
 subst hv1
 refine zgo ?_
 refine WO.call rfl rfl rfl rfl plain_wShown rfl (wShown_ret l _ hinv hpa y1 orx horx) fun v2 h2 ⟨hx2,ho2,hm2⟩=>?_
 have hnum:NumX (l.map PD3.p) sd orx:=⟨strX_of hpi,horx⟩
 have hx02:Ext h h2:=(hx0.trans hx1).trans hx2
 have hx12:Ext h0 h2:=hx1.trans hx2
 have hrc:=xRC_ok hinv (orx:=orx) (sd:=sd) hid hout hw
 have qf:QF (l.map PD3.p) sd orx (xRC (l.map PD3.p) orx (ordX (l.map PD3.p) sd) id W):=⟨hinv,hrc,rfl⟩
 have hLl:=ordX_length (l.map PD3.p) sd
 have hr2:=ho2.rd
 obtain ⟨ah,chh,e⟩:=hr2.form
 subst e
 obtain ⟨aw,cw,e⟩:=hW.form
 subst e
 refine zgo ?_
 refine zb fun h3 hb3 hx3 hs3=>?_
 have x3:DS h2 h3 h2.size (xRC (l.map PD3.p) orx (ordX (l.map PD3.p) sd) id W).id wb (.slice ah (ordX (l.map PD3.p) sd).length chh) (.slice aw W.length cw) (.slice none 0 0) (.slice none 0 0) [] [] :=
  ⟨hx3,Nat.le_refl _,⟨hb3⟩,Own.nil _ _ _,Own.nil _ _ _,fun k hk=>by simp [Value.ownBlock] at hk,fun k hk=>by simp [Value.ownBlock] at hk⟩
 refine zgo ?_
 refine WO.call rfl rfl rfl rfl plain_dname rfl (dname_ret qf h2 h3 h2.size wb _ _ x3 hr2 (hW.ext hx02) (by omega) hw.1) fun v4 h4 ⟨nv,x4⟩=>?_
 refine zgo ?_
 refine WO.call rfl rfl rfl rfl plain_tellDead rfl (tellDead_ret qf h2 h4 h2.size wb _ _ nv x4 hr2 (by omega) hw.1) fun v5 h5 ⟨cv5,x5⟩=>?_
 have hnm:=x5.nm.rd
 have hnl:(xRC (l.map PD3.p) orx (ordX (l.map PD3.p) sd) id W).nms.length=W.length:=RC.nms_length _
 have hRl:(xRC (l.map PD3.p) orx (ordX (l.map PD3.p) sd) id W).R.length≤90:=by rw [qf.len];omega
 have hdl:=(xRC (l.map PD3.p) orx (ordX (l.map PD3.p) sd) id W).dels_len (xRC (l.map PD3.p) orx (ordX (l.map PD3.p) sd) id W).R.length
 have hcWl:(xRC (l.map PD3.p) orx (ordX (l.map PD3.p) sd) id W).W=W:=rfl
 have hcid:(xRC (l.map PD3.p) orx (ordX (l.map PD3.p) sd) id W).id=id:=rfl
 have hch:(xRC (l.map PD3.p) orx (ordX (l.map PD3.p) sd) id W).ch=(xRC (l.map PD3.p) orx (ordX (l.map PD3.p) sd) id W).dels (xRC (l.map PD3.p) orx (ordX (l.map PD3.p) sd) id W).R.length++(xRC (l.map PD3.p) orx (ordX (l.map PD3.p) sd) id W).puts W.length:=rfl
 have fin:∀ nv cv h',Ext h h'→PV (fun k=>h.size≤k) h' ⟨recD (l.map PD3.p) (xRC (l.map PD3.p) orx (ordX (l.map PD3.p) sd) id W),nv,cv⟩→Ext h h'∧∃ sd orx,NumX (l.map PD3.p) sd orx∧∃ nv' cv',(Value.agg (PD3.cells ⟨recD (l.map PD3.p) (xRC (l.map PD3.p) orx (ordX (l.map PD3.p) sd) id W),nv',cv'⟩).toArray = .agg #[.int .i64 (id:Int),nv,cv]) ∧
   PV (fun k=>h.size≤k) h' ⟨recD (l.map PD3.p) (xRC (l.map PD3.p) orx (ordX (l.map PD3.p) sd) id W),nv',cv'⟩:=fun nv cv h' hx hp=>⟨hx,sd,orx,hnum,nv,cv,rfl,hp⟩
 generalize xRC (l.map PD3.p) orx (ordX (l.map PD3.p) sd) id W=c at *
 obtain ⟨an,cn,e⟩:=hnm.form
 subst e
 have m4:∀ {h' cv ch},DS h2 h' h2.size c.id wb (.slice ah (ordX (l.map PD3.p) sd).length chh) (.slice aw W.length cw) (.slice an c.nms.length cn) cv c.nms ch→cellAt h' h2.size 4=some (.slice an c.nms.length cn):=fun y=>y.dr.blk.cell (j:=4) rfl
 refine zgo ?_
 refine Runs.loop (X:=QNX) (fun u=>[(0,lv),(1,.int .i64 (id:Int)),(6,.pointer (some ⟨h.size,0,none⟩)),(8,.pointer (some ⟨h2.size,0,none⟩)),(9,.int .i64 (u.j:Int))])
  (fun u h'=>u.j≤W.length∧DS h2 h' h2.size c.id wb (.slice ah (ordX (l.map PD3.p) sd).length chh) (.slice aw W.length cw) (.slice an c.nms.length cn) u.v c.nms (c.dels c.R.length++c.puts u.j))
  (fun u=>W.length-u.j) ⟨0,cv5⟩ ⟨rfl,rfl,rfl,rfl,rfl,trivial⟩ ⟨Nat.zero_le _,by simpa [RC.puts] using x5⟩ ?_
 rintro ⟨j,cv⟩ h6 ⟨hj,y⟩ ih
 dsimp only at hj y ih ⊢
 have n4:=m4 y
 rw [hnl] at n4
 have hpl:=c.puts_len j
 refine zgo ?_
 refine Runs.cond_dec rfl (fun hlt=>?_) (fun hge=>?_)
 ·have hlt':j<W.length:=by omega
  refine zgo ?_
  refine WO.call rfl rfl rfl rfl plain_dput rfl (dput_ret qf h2 h6 h2.size wb _ _ _ cv x.lv x.dv x.rbs _ _ y (by rw [hcWl];exact hW.ext hx02) (hx2.xc (y1.blk.cell (j:=2) rfl)) (hx2.xc (y1.blk.cell (j:=3) rfl)) (y1.own.rd.ext hx2) (y1.lm.ext hx2) (lnsOf_w0X (l.map PD3.p)) (by omega) (by rw [hcWl];exact hw.1) (by rw [List.length_append];omega) j (by rw [hcWl];exact hlt')) fun v7 h7 ⟨cv7,x7⟩=>?_
  refine zgo ?_
  refine ih ⟨j+1,cv7⟩ _ _ (by dsimp only;omega) ⟨rfl,rfl,rfl,rfl,rfl,trivial⟩ ⟨hlt',?_⟩
  dsimp only
  rw [RC.puts_succ,← List.append_assoc]
  exact x7
 have hj':j=W.length:=by omega
 subst hj'
 rw [← hch] at y
 have hx06:Ext h h6:=hx02.trans y.ext
 have hchl:c.ch.length≤1000:=by rw [hch,List.length_append];omega
 have n5:=y.dr.blk.cell (j:=5) rfl
 have hrc6:=y.own.rd
 obtain ⟨ac,cc,e⟩:=hrc6.form
 subst e
 refine zgo ?_
 refine Runs.drawn (m:=13) (fun h'=>Ext h6 h') (fun i=>Nat.beq i 12) mixed rfl ?_
 refine zp 0 (Fr.refl _ _) ?_
 refine zp 1 (Fr.refl _ _) ?_
 refine zp 2 (Fr.refl _ _) ?_
 refine zp 3 (Fr.refl _ _) ?_
 refine zp 4 (Fr.refl _ _) ?_
 refine zl 5 (fun _ hS=>(Fr.xc hS n5)) (Fr.refl _ _) ?_
 refine zp 7 (Fr.refl _ _) ?_
 refine zp 8 (Fr.refl _ _) ?_
 refine zp 9 (Fr.refl _ _) ?_
 refine zl 10 (fun _ hS=>(Fr.xc hS n5)) (Fr.refl _ _) ?_
 refine WF.call 6 (by kernel_rfl) rfl rfl rfl rfl rfl plain_pneeds rfl (pneeds_ret l lv c.ch _ h6 (hs.ext hx06) hll hcl hrc6 hchl) fun v7 h7 ⟨hx7,ho7,hm7⟩=>⟨.inr hx7,?_⟩
 have hr7:=ho7.rd
 obtain ⟨a7,c7,e⟩:=hr7.form
 subst e
 refine zp 11 hx7 ?_
 have hone:One [.int .i64 (id:Int),.slice a7 (ndS (l.map PD3.p) c.ch).length c7,.slice ac c.ch.length cc]:=by
  intro u hu
  simp only [List.mem_cons,List.not_mem_nil,or_false] at hu
  rcases hu with rfl | rfl | rfl<;>rfl
 have hb7:=hb0.ext ((hx12.trans y.ext).trans hx7)
 refine WF.put 12 tab_ok (by kernel_rfl) rfl rfl rfl rfl rfl rfl rfl rfl rfl hone hb7 rfl rfl fun h8 hb8 hx8 hs8=>?_
 refine zd ?_
 refine zgo ?_
 have hz2:=hx02.size
 have hz12:=hx12.size
 have hz6:=y.ext.size
 refine Runs.ret func61 (retc1 tab_ok results61 rfl rfl rfl rfl hb8.cells) ?_
 obtain ⟨k1,sd',orx',k2,nv',cv',k3,k4⟩:=fin (.slice a7 (ndS (l.map PD3.p) c.ch).length c7) (.slice ac c.ch.length cc) h8 ((hx06.trans hx7).trans_new (hx8.mono fun k _ e=>.inr (by omega))) ⟨hr7.fr hx8 fun k hk e=>by have:=hm7 k hk;omega,(hrc6.ext hx7).fr hx8 fun k hk e=>by have:=(y.cvb k hk).1;have:=hx0.size;omega,fun k hk=>by have:=hm7 k hk;omega,fun k hk=>by have:=(y.cvb k hk).1;omega⟩
 exact ⟨k1,sd',orx',k2,nv',cv',k3.symm,k4⟩
def RecX (ps:List PatchD) (q:Int) (W:List (List UInt8)) (e:Nat) (t:List UInt8):Prop :=
 (¬ (1≤q∧q≤9999∧fileOk W=true)∧e=12∧t=[])∨((1≤q∧q≤9999∧fileOk W=true)∧∃ id:Nat,q=(id:Int)∧((id∈ps.map PatchD.id∧e=3∧t=[])∨(id∉ps.map PatchD.id∧∃ sd orx,NumX ps sd orx∧(e,t)=recS ps (xRC ps orx (ordX ps sd) id W))))
theorem xRecord_ret {T:Heap→Prop} (hI:ItoaOK T) {F:Nat→Prop} (xb:Nat) (l:List PD3) (lv wv:Value) (q:Int) (W:List (List UInt8)) (h:Heap) (ht:T h) (hb:Blk h xb [lv] 81) (hs:XS F h lv l) (hF:∀ k,F k→k<h.size) (hinv:Inv (l.map PD3.p)) (hW:Rd h 1 wv W.length (strs W)) (hwl:W.length≤16777216) (htl:∀ t∈W,t.length≤16777216) :
  Ret Tryz.prog 22 #[.pointer (some ⟨xb,0,none⟩),.int .i64 q,wv] h fun v h'=>Ext h h'∧∃ t e,v = .tuple #[.string (str t),.int .i64 (e:Nat)]∧RecX (l.map PD3.p) q W e t:=by
 refine Ret.of_body func22 rfl ntmps22 rfl rfl ?_
 have x0:=hb.cell (j:=0) rfl
 have hll:l.length≤1000:=by have:=hinv.len;simp at this;omega
 have bad:∀ h',Ext h h'→¬ (1≤q∧q≤9999∧fileOk W=true)→Ext h h'∧∃ t e,(Value.tuple #[.string (str []),.int .i64 12]) = .tuple #[.string (str t),.int .i64 (e:Nat)]∧RecX (l.map PD3.p) q W e t:=fun h' hx hn=>⟨hx,[],12,rfl,.inl ⟨hn,rfl,rfl⟩⟩
 obtain ⟨aw,cw,e⟩:=hW.form
 subst e
 obtain ⟨al,cl,e⟩:=hs.rd.form
 subst e
 refine zgo ?_
 by_cases h1:q<1
 ·have hd:decide (q<1)=true:=decide_eq_true h1
  rw [hd]
  refine zgo ?_
  exact Runs.ret func22 (ret2 results22 rfl rfl) (bad _ (Fr.refl _ _) (by omega))
 have hd1:decide (q<1)=false:=decide_eq_false h1
 rw [hd1]
 refine zgo ?_
 by_cases h2:9999<q
 ·have hd:decide (9999<q)=true:=decide_eq_true h2
  rw [hd]
  refine zgo ?_
  exact Runs.ret func22 (ret2 results22 rfl rfl) (bad _ (Fr.refl _ _) (by omega))
 have hd2:decide (9999<q)=false:=decide_eq_false h2
 rw [hd2]
 refine zgo ?_
 refine WO.call rfl rfl rfl rfl plain_mayBeFile rfl (mayBeFile_ret W _ h hW hwl htl) fun v3 h3 ⟨hx3,hv3⟩=>?_
 replace hx3:=hx3.symm
 subst hx3 hv3
 cases hfo:fileOk W
 ·refine zgo ?_
  exact Runs.ret func22 (ret2 results22 rfl rfl) (bad _ (Fr.refl _ _) (by rw [hfo];simp))
 clear bad
 obtain ⟨id,rfl⟩:∃ id:Nat,q=(id:Int):=⟨q.toNat,by omega⟩
 have hok:(1≤(id:Int)∧(id:Int)≤9999∧fileOk W=true):=⟨by omega,by omega,hfo⟩
 refine zgo ?_
 refine WO.call rfl rfl rfl rfl plain_Find rfl (Find_ret l _ (id:Int) _ hs hll) fun v4 h4 ⟨hx4,hf4⟩=>?_
 obtain ⟨u0,u1,u2,r,hv4,hone,hU⟩:=found_form hs hf4
 subst hv4
 refine zgo ?_
 refine zv hone fun h5 hb5 hx5 hs5=>?_
 have hx05:=hx4.trans hx5
 have x05:=hx05.xc x0
 rcases hU with ⟨rfl,y,hfd,hym,hus⟩ | ⟨rfl,hfd⟩
 ·refine zgo ?_
  refine Runs.ret func22 (ret2 results22 rfl rfl) ⟨hx05,[],3,rfl,.inr ⟨hok,id,rfl,.inl ⟨?_,rfl,rfl⟩⟩⟩
  have:=(fdS_mem hfd).2
  exact List.mem_map.2 ⟨y.p,List.mem_map.2 ⟨y,hym,rfl⟩,by omega⟩
 have hout:id∉(l.map PD3.p).map PatchD.id:=fun hm=>by
  obtain ⟨p,hp,e⟩:=List.mem_map.1 hm
  obtain ⟨x,hx,rfl⟩:=List.mem_map.1 hp
  unfold fdS at hfd
  rw [List.find?_eq_none] at hfd
  have:=hfd x hx
  simp at this
  omega
 have hw:=fileOk_out hfo
 refine zgo ?_
 refine WO.call rfl rfl rfl rfl plain_Make rfl (Make_ret _ _ l W id h5 (hs.ext hx05) (fun k hk=>by have:=hF k hk;have:=hx05.size;omega) hinv ⟨by omega,by omega⟩ hout (hW.ext hx05) hw) fun v6 h6 ⟨hx6,sd,orx,hnum,nv,cv,hv6,hpv⟩=>?_
 subst hv6
 have hrc:=xRC_ok hinv (orx:=orx) (sd:=sd) (id:=id) (W:=W) ⟨by omega,by omega⟩ hout hw
 refine zgo ?_
 refine zv hpv.one fun h7 hb7 hx7 hs7=>?_
 have hx07:=(hx05.trans hx6).trans hx7
 have hpv7:=hpv.ext hx7
 have c2:=hb7.cell (j:=2) rfl
 have hpc:=hpv7.changes
 obtain ⟨ac,cc,ec⟩:=hpc.form
 have hcl:(recD (l.map PD3.p) (xRC (l.map PD3.p) orx (ordX (l.map PD3.p) sd) id W)).changes.length=(xRC (l.map PD3.p) orx (ordX (l.map PD3.p) sd) id W).ch.length:=rfl
 have fin:∀ t e h',Ext h h'→(e,t)=recS (l.map PD3.p) (xRC (l.map PD3.p) orx (ordX (l.map PD3.p) sd) id W)→Ext h h'∧∃ t' e',(Value.tuple #[.string (str t),.int .i64 (e:Nat)]) = .tuple #[.string (str t'),.int .i64 (e':Nat)]∧RecX (l.map PD3.p) (id:Int) W e' t':=fun t e h' hx hr=>⟨hx,t,e,rfl,.inr ⟨hok,id,rfl,.inr ⟨hout,sd,orx,hnum,hr⟩⟩⟩
 dsimp only at ec
 rw [ec] at c2
 have k7:Cells h7 h6.size 0 (PD3.cells ⟨recD (l.map PD3.p) (xRC (l.map PD3.p) orx (ordX (l.map PD3.p) sd) id W),nv,cv⟩):=hb7.cells
 refine zgo ?_
 refine Runs.cond_dec rfl (fun hq=>?_) (fun hq=>?_)
 ·refine zgo ?_
  refine Runs.ret func22 (ret2 results22 rfl rfl) (fin [] 7 _ hx07 ?_)
  unfold recS
  rw [if_pos (by omega)]
 refine zgo ?_
 refine Runs.cond_dec rfl (fun hz=>?_) (fun hz=>?_)
 ·refine zgo ?_
  refine Runs.ret func22 (ret2 results22 rfl rfl) (fin [] 11 _ hx07 ?_)
  unfold recS
  rw [if_neg (by omega),if_pos (by omega)]
 have hpok:=hrc.pOk hinv (by omega)
 have hk3:∀ d∈(recD (l.map PD3.p) (xRC (l.map PD3.p) orx (ordX (l.map PD3.p) sd) id W)).changes,kind3 d:=fun d hd=>RC.kind3 _ hd
 refine zgo ?_
 refine WO.call rfl rfl rfl rfl plain_Write rfl (Write_ret hI ⟨recD (l.map PD3.p) (xRC (l.map PD3.p) orx (ordX (l.map PD3.p) sd) id W),nv,cv⟩ _ (hI.1 _ _ ht hx07) hpv7 hpok hk3) fun v8 h8 ⟨hx8,hv8⟩=>?_
 subst hv8
 refine zgo ?_
 refine Runs.ret func22 (ret2 results22 rfl rfl) (fin _ 0 _ (hx07.trans hx8) ?_)
 unfold recS
 rw [if_neg (by omega),if_neg (by omega)]
 rfl
end Go.Proofs.YtlaffgagmncgjabGreatDoor
