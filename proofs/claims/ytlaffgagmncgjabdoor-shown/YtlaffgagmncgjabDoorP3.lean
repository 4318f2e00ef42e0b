import Derived.Test.YtlaffgagmncgjabDoorP2
set_option maxRecDepth 20000
set_option maxHeartbeats 1600000
namespace Go.Proofs.YtlaffgagmncgjabDoor
open Go Go.Pat Go.Proofs
theorem plain_needs:Plain Tryd.prog 59:=⟨_,Tryd.func59,by decide +kernel,by rfl⟩
theorem plain_changes:Plain Tryd.prog 60:=⟨_,Tryd.func60,by decide +kernel,by rfl⟩
theorem plain_Read:Plain Tryd.prog 38:=⟨_,Tryd.func38,by decide +kernel,by rfl⟩
def readL (lo b:Nat) (s:List UInt8) (o:Option (List Nat × List UInt8)) (v:Value) (h':Heap):Prop:=match o with
 | some (ns,l)=>∃ nv,v = .tuple #[nv,.bool true]∧Own h' 3 1 nv ns.length (ints ns)∧(∀ k,nv.ownBlock=some k→lo≤k)∧RdAt h' b s l
 | none=>v = .tuple #[.slice none 0 0,.bool false]
def readC (lo:Nat) (o:Option (List ChangeD)) (v:Value) (h':Heap):Prop:=match o with
 | some cs=>∃ cv,v = .tuple #[cv,.bool (decide (0<cs.length))]∧Own h' 106 6 cv cs.length (changes cs)∧(∀ k,cv.ownBlock=some k→lo≤k)
 | none=>v = .tuple #[.slice none 0 0,.bool false]
structure NX where
 (ns:List Nat) (v:Value) (l:List UInt8)
structure CHX where
 (cs:List ChangeD) (v:Value) (l:List UInt8)
def preNs (ns:List Nat):Option (List Nat × List UInt8)→Option (List Nat × List UInt8)
 | some (ms,l)=>some (ns++ms,l)
 | none=>none
def preCs (cs:List ChangeD):Option (List ChangeD)→Option (List ChangeD)
 | some ds=>some (cs++ds)
 | none=>none
theorem needs_ret (b:Nat) (s l:List UInt8) (h:Heap) (hr:RdAt h b s l) (hs:s.length≤16777216) :
  Ret Tryd.prog 59 #[.pointer (some ⟨b,0,none⟩)] h fun v h'=>Fr (fun k=>k=b) h h'∧readL h.size b s (wantR l) v h':=by
 refine Ret.of_body Tryd.func59 rfl Tryd.ntmps59 rfl rfl ?_
 have hlt:=hr.lt
 unfold wantR
 refine zgo ?_
 refine WO.call rfl rfl rfl rfl plainTakes rfl (takes_ret b s [110,101,101,100,115] l _ hr hs (by decide)) fun v1 h1 ⟨hf1,hp1⟩=>?_
 cases hT:takesR [110,101,101,100,115] l with
 | none =>
  rw [hT] at hp1
  obtain ⟨rfl,_⟩:=hp1
  refine zgo ?_
  exact Runs.ret Tryd.func59 (ret2 Tryd.results59 rfl rfl) ⟨hf1,rfl⟩
 | some l1 =>
  rw [hT] at hp1
  obtain ⟨rfl,ha1⟩:=hp1
  have hs1:=hf1.size
  dsimp only
  refine zgo ?_
  refine Runs.loop (X:=NX) (fun x=>[(0,.pointer (some ⟨b,0,none⟩)),(4,x.v)])
   (fun x h'=>Fr (fun k=>k=b) h h'∧RdAt h' b s x.l∧Own h' 3 1 x.v x.ns.length (ints x.ns)∧(∀ k,x.v.ownBlock=some k→h.size≤k)∧x.ns.length≤20∧needsR 21 l1=preNs x.ns (needsR (21-x.ns.length) x.l))
   (fun x=>21-x.ns.length) ⟨[],.slice none 0 0,l1⟩ ⟨rfl,rfl,trivial⟩ ⟨hf1,ha1,Own.nil _ _ _,fun k hk=>by simp [Value.ownBlock] at hk,by simp,?_⟩ ?_
  ·dsimp only [List.length_nil,Nat.sub_zero]
   cases needsR 21 l1 with
   | none=>rfl
   | some x=>rfl
  rintro ⟨ns,nv,l2⟩ h2 ⟨hf2,ha2,ho2,hm2,hn2,hq2⟩ ih
  dsimp only at hf2 ha2 ho2 hm2 hn2 hq2 ih ⊢
  have hun:21-ns.length=(20-ns.length)+1:=by omega
  have hbn:∀ k,nv.ownBlock=some k→¬ k=b:=fun k hk=>by have:=hm2 k hk;omega
  refine zgo ?_
  refine WO.call rfl rfl rfl rfl plainTakes rfl (takes_ret b s [32] l2 _ ha2 hs (by decide)) fun v3 h3 ⟨hf3,hp3⟩=>?_
  have hf23:=hf2.trans hf3
  have ho3:=ho2.fr hf3 hbn
  cases hT3:takesR [32] l2 with
  | none =>
   have hN:needsR 21 l1=some (ns,l2):=by rw [hq2,hun];simp only [needsR];rw [hT3];simp [preNs]
   rw [hN]
   rw [hT3] at hp3
   obtain ⟨rfl,ha3⟩:=hp3
   dsimp only
   refine zgo ?_
   refine WO.call rfl rfl rfl rfl plainTakes rfl (takes_ret b s [10] l2 _ ha3 hs (by decide)) fun v4 h4 ⟨hf4,hp4⟩=>?_
   have hf24:=hf23.trans hf4
   have ho4:=ho3.fr hf4 hbn
   cases hT4:takesR [10] l2 with
   | none =>
    rw [hT4] at hp4
    obtain ⟨rfl,_⟩:=hp4
    refine zgo ?_
    exact Runs.ret Tryd.func59 (ret2 Tryd.results59 rfl rfl) ⟨hf24,rfl⟩
   | some l3 =>
    rw [hT4] at hp4
    obtain ⟨rfl,ha4⟩:=hp4
    refine zgo ?_
    exact Runs.ret Tryd.func59 (ret2 Tryd.results59 rfl rfl) ⟨hf24,nv,rfl,ho4,hm2,ha4⟩
  | some l3 =>
   rw [hT3] at hp3
   obtain ⟨rfl,ha3⟩:=hp3
   refine zgo ?_
   refine WO.call rfl rfl rfl rfl plainName rfl (rname_ret b s l3 _ ha3 hs) fun v4 h4 ⟨hf4,hp4⟩=>?_
   have hf24:=hf23.trans hf4
   have ho4:=ho3.fr hf4 hbn
   cases hM:nameR l3 with
   | none =>
    have hN:needsR 21 l1=none:=by rw [hq2,hun];simp only [needsR];rw [hT3];simp only;rw [hM];rfl
    rw [hN]
    rw [hM] at hp4
    unfold readN at hp4
    subst hp4
    refine zgo ?_
    exact Runs.ret Tryd.func59 (ret2 Tryd.results59 rfl rfl) ⟨hf24,rfl⟩
   | some y =>
    obtain ⟨n,l4⟩:=y
    rw [hM] at hp4
    obtain ⟨rfl,ha4⟩:=hp4
    obtain ⟨ad,cap,hnv⟩:=ho4.rd.form
    subst hnv
    have hN:needsR 21 l1=preNs (ns++[n]) (needsR (20-ns.length) l4):=by
     rw [hq2,hun];simp only [needsR];rw [hT3];simp only;rw [hM];simp only
     cases needsR (20-ns.length) l4 with
     | none=>rfl
     | some x=>simp [preNs]
    refine zgo ?_
    refine Runs.cond_dec rfl (fun h20=>?_) (fun h20=>?_)
    ·have e20:20-ns.length=0:=by omega
     rw [e20] at hN
     rw [hN]
     refine zgo ?_
     exact Runs.ret Tryd.func59 (ret2 Tryd.results59 rfl rfl) ⟨hf24,rfl⟩
    ·refine zgo ?_
     refine zh (one_int _) ho4 ?_
     intro v5 h5 o1 o2 o3
     refine zgo ?_
     have hsz:=hf24.size
     refine ih ⟨ns++[n],v5,l4⟩ _ _ (by simp;omega) ⟨rfl,rfl,trivial⟩ ⟨hf24.trans_new (o2.mono (fun k _ e=>.inr (hm2 k e))),ha4.fr o2 (fun e=>hbn _ e rfl),?_,?_,by simp;omega,?_⟩
     ·simpa [ints] using o1
     ·intro k hk
      rcases o3 k hk with e | e
      ·exact hm2 k e
      ·omega
     ·rw [hN];simp
theorem changes_ret (b:Nat) (s l:List UInt8) (h:Heap) (hr:RdAt h b s l) (hs:s.length≤16777216) :
  Ret Tryd.prog 60 #[.pointer (some ⟨b,0,none⟩)] h fun v h'=>Fr (fun k=>k=b) h h'∧readC h.size (changesR 31 l) v h':=by
 refine Ret.of_body Tryd.func60 rfl Tryd.ntmps60 rfl rfl ?_
 have hlt:=hr.lt
 refine zgo ?_
 refine Runs.loop (X:=CHX) (fun x=>[(0,.pointer (some ⟨b,0,none⟩)),(4,x.v)])
  (fun x h'=>Fr (fun k=>k=b) h h'∧RdAt h' b s x.l∧Own h' 106 6 x.v x.cs.length (changes x.cs)∧(∀ k,x.v.ownBlock=some k→h.size≤k)∧x.cs.length≤30∧changesR 31 l=preCs x.cs (changesR (31-x.cs.length) x.l))
  (fun x=>31-x.cs.length) ⟨[],.slice none 0 0,l⟩ ⟨rfl,rfl,trivial⟩ ⟨Fr.refl _ _,hr,Own.nil _ _ _,fun k hk=>by simp [Value.ownBlock] at hk,by simp,?_⟩ ?_
 ·dsimp only [List.length_nil,Nat.sub_zero]
  cases changesR 31 l with
  | none=>rfl
  | some x=>rfl
 rintro ⟨cs,cv,l2⟩ h2 ⟨hf2,ha2,ho2,hm2,hn2,hq2⟩ ih
 dsimp only at hf2 ha2 ho2 hm2 hn2 hq2 ih ⊢
 have hun:31-cs.length=(30-cs.length)+1:=by omega
 have hbn:∀ k,cv.ownBlock=some k→¬ k=b:=fun k hk=>by have:=hm2 k hk;omega
 have hat:=ha2
 obtain ⟨a,hal,hdr,hb2⟩:=ha2
 have f0:=hb2.cell (j:=0) rfl
 have f1:=hb2.cell (j:=1) rfl
 refine zgo ?_
 refine Runs.still mixed (by kernel_rfl) ?_
 refine zws ?_
 refine Runs.cond_dec rfl (fun hin=>?_) (fun hin=>?_)
 ·have hne:l2≠[]:=fun e=>by
   have:=congrArg List.length hdr
   rw [e,List.length_drop] at this
   simp at this;omega
  obtain ⟨x,l3,hx⟩:=List.exists_cons_of_ne_nil hne
  refine zgo ?_
  refine WO.call rfl rfl rfl rfl plain_change rfl (rchange_ret b s l2 _ hat hs) fun v3 h3 ⟨hf3,hp3⟩=>?_
  have hf23:=hf2.trans hf3
  have ho3:=ho2.fr hf3 hbn
  cases hC:changeR l2 with
  | none =>
   have hN:changesR 31 l=none:=by rw [hq2,hun,hx];simp only [changesR];rw [← hx,hC];rfl
   rw [hN]
   rw [hC] at hp3
   unfold readChg at hp3
   subst hp3
   refine zgo ?_
   refine zv (ChangeD.one chg0) fun h4 hb4 hx4 hs4=>?_
   refine zgo ?_
   exact Runs.ret Tryd.func60 (ret2 Tryd.results60 rfl rfl) ⟨hf23.ex hx4,rfl⟩
  | some y =>
   obtain ⟨c,l4⟩:=y
   rw [hC] at hp3
   obtain ⟨rfl,ha3⟩:=hp3
   have hN:changesR 31 l=preCs (cs++[c]) (changesR (30-cs.length) l4):=by
    rw [hq2,hun,hx];simp only [changesR];rw [← hx,hC];simp only
    cases changesR (30-cs.length) l4 with
    | none=>rfl
    | some x=>simp [preCs]
   refine zgo ?_
   refine zv (ChangeD.one c) fun h4 hb4 hx4 hs4=>?_
   have hf24:=hf23.ex hx4
   have ho4:=ho3.fr hx4 (by simp)
   have ha4:=ha3.ext hx4
   obtain ⟨ad,cap,hnv⟩:=ho4.rd.form
   subst hnv
   refine zgo ?_
   refine Runs.cond_dec rfl (fun h20=>?_) (fun h20=>?_)
   ·have e20:30-cs.length=0:=by omega
    rw [e20] at hN
    rw [hN]
    refine zgo ?_
    exact Runs.ret Tryd.func60 (ret2 Tryd.results60 rfl rfl) ⟨hf24,rfl⟩
   ·have k4:Cells h4 h3.size 0 c.cells:=hb4.cells
    refine zgo ?_
    refine zh (ChangeD.one c) ho4 ?_
    intro v5 h5 o1 o2 o3
    refine zgo ?_
    have hsz:=hf24.size
    refine ih ⟨cs++[c],v5,l4⟩ _ _ (by simp;omega) ⟨rfl,rfl,trivial⟩ ⟨hf24.trans_new (o2.mono (fun k _ e=>.inr (hm2 k e))),ha4.fr o2 (fun e=>hbn _ e rfl),?_,?_,by simp;omega,?_⟩
    ·simpa [changes] using o1
    ·intro k hk
     rcases o3 k hk with e | e
     ·exact hm2 k e
     ·omega
    ·rw [hN];simp
 ·have hnil:l2=[]:=by
   rw [← hdr];exact List.drop_eq_nil_of_le (by omega)
  have hN:changesR 31 l=some cs:=by rw [hq2,hun,hnil];simp [changesR,preCs]
  rw [hN]
  obtain ⟨ad,cap,hnv⟩:=ho2.rd.form
  subst hnv
  refine zgo ?_
  refine Runs.ret Tryd.func60 (ret2 Tryd.results60 rfl rfl) ⟨hf2,_,?_,ho2,hm2⟩
  congr 3
  simp
structure PD3 where
 (p:PatchD) (nv cv:Value)
def PD3.cells (x:PD3):List Value:=[.int .i64 (x.p.id:Int),x.nv,x.cv]
structure PV (F:Nat→Prop) (h:Heap) (x:PD3):Prop where
 needs:Rd h 1 x.nv x.p.needs.length (ints x.p.needs)
 changes:Rd h 6 x.cv x.p.changes.length (changes x.p.changes)
 fn:∀ k,x.nv.ownBlock=some k→F k
 fc:∀ k,x.cv.ownBlock=some k→F k
theorem PV.fr {F S:Nat→Prop} {h h':Heap} {x:PD3} (v:PV F h x) (f:Fr S h h') (hs:∀ k,F k→¬ S k):PV F h' x :=
 ⟨v.needs.fr f fun k hk=>hs k (v.fn k hk),v.changes.fr f fun k hk=>hs k (v.fc k hk),v.fn,v.fc⟩
theorem PV.ext {F:Nat→Prop} {h h':Heap} {x:PD3} (v:PV F h x) (f:Ext h h'):PV F h' x:=v.fr f (by simp)
theorem PV.mono {F F':Nat→Prop} {h:Heap} {x:PD3} (v:PV F h x) (hs:∀ k,F k→F' k):PV F' h x:=⟨v.needs,v.changes,fun k hk=>hs k (v.fn k hk),fun k hk=>hs k (v.fc k hk)⟩
theorem one_of_rd {h:Heap} {sz n:Nat} {v:Value} {xs:List Value} (hr:Rd h sz v n xs):One [v]:=by
 obtain ⟨ad,cap,rfl⟩:=hr.form
 exact one_slice _ _ _
theorem PV.one {F:Nat→Prop} {h:Heap} {x:PD3} (v:PV F h x):One x.cells:=by
 obtain ⟨a1,c1,h1⟩:=v.needs.form
 obtain ⟨a2,c2,h2⟩:=v.changes.form
 intro u hu
 simp only [PD3.cells,h1,h2,List.mem_cons,List.not_mem_nil,or_false] at hu
 rcases hu with rfl | rfl | rfl<;>rfl
def readP (s:List UInt8) (h:Heap) (v:Value) (h':Heap):Prop:=match parseS s with
 | some p=>∃ nv cv,v = .tuple #[.agg #[.int .i64 (p.id:Int),nv,cv],.bool true]∧PV (New h h') h' ⟨p,nv,cv⟩
 | none=>v = .tuple #[.agg #[.int .i64 0,.slice none 0 0,.slice none 0 0],.bool false]
theorem one3 (a:Int) (p q:Option Addr) (i j m n:Nat):One [.int .i64 a,.slice p i j,.slice q m n]:=by
 intro u hu;simp at hu;rcases hu with rfl | rfl | rfl<;>rfl
theorem pread_ret (s:List UInt8) (h:Heap) (hs:s.length≤16777216):Ret Tryd.prog 38 #[.string (str s)] h fun v h'=>Ext h h'∧readP s h v h':=by
 refine Ret.of_body Tryd.func38 rfl Tryd.ntmps38 rfl rfl ?_
 unfold readP
 rw [← readR_eq]
 unfold readR
 refine zgo ?_
 refine WO.alloc tab_ok rfl rfl rfl rfl rfl rfl fun h0 hb0 hx0 hs0=>?_
 refine zgo ?_
 by_cases hbig:1400<s.length
 ·have hd:decide ((1400:Int)<(s.length:Int))=true:=decide_eq_true (by omega)
  rw [hd,if_pos hbig]
  refine zgo ?_
  refine WO.put tab_ok rfl rfl rfl rfl rfl rfl rfl rfl (one3 _ _ _ _ _ _ _) hb0 rfl fun h9 hb9 hx9 hs9=>?_
  refine zgo ?_
  exact Runs.ret Tryd.func38 (retc tab_ok Tryd.results38 rfl rfl rfl rfl rfl hb9.cells) ⟨Fr.wr hx0 hx9 (Nat.le_refl _),rfl⟩
 have hd:decide ((1400:Int)<(s.length:Int))=false:=decide_eq_false (by omega)
 rw [hd,if_neg hbig]
 refine zgo ?_
 refine WO.box rfl rfl rfl rfl rfl rfl fun h1 hb1 hx1 hs1=>?_
 have hx01:=hx0.trans hx1
 have hne:¬ h.size=h0.size:=by omega
 have hbA:=hb0.ext hx1
 have hr1:RdAt h1 h0.size s s:=⟨0,Nat.zero_le _,rfl,hb1⟩
 refine zgo ?_
 refine WO.call rfl rfl rfl rfl plain_head rfl (head_ret h0.size s s _ hr1 hs) fun v2 h2 ⟨hf2,hp2⟩=>?_
 have hx02:Ext h h2:=Fr.wr hx01 hf2 (by omega)
 have hbB:=hbA.fr hf2 hne
 have hz2:=hf2.size
 cases hH:headR s with
 | none =>
  rw [hH] at hp2
  unfold readN at hp2
  subst hp2
  refine zgo ?_
  refine WO.put tab_ok rfl rfl rfl rfl rfl rfl rfl rfl (one3 _ _ _ _ _ _ _) hbB rfl fun h9 hb9 hx9 hs9=>?_
  refine zgo ?_
  exact Runs.ret Tryd.func38 (retc tab_ok Tryd.results38 rfl rfl rfl rfl rfl hb9.cells) ⟨Fr.wr hx02 hx9 (Nat.le_refl _),rfl⟩
 | some y =>
  obtain ⟨id,l1⟩:=y
  rw [hH] at hp2
  obtain ⟨rfl,ha2⟩:=hp2
  dsimp only
  refine zgo ?_
  refine WO.call rfl rfl rfl rfl plain_needs rfl (needs_ret h0.size s l1 _ ha2 hs) fun v3 h3 ⟨hf3,hp3⟩=>?_
  have hx03:Ext h h3:=Fr.wr hx02 hf3 (by omega)
  have hbC:=hbB.fr hf3 hne
  have hz3:=hf3.size
  cases hW:wantR l1 with
  | none =>
   rw [hW] at hp3
   unfold readL at hp3
   subst hp3
   refine zgo ?_
   refine WO.put tab_ok rfl rfl rfl rfl rfl rfl rfl rfl (one3 _ _ _ _ _ _ _) hbC rfl fun h9 hb9 hx9 hs9=>?_
   refine zgo ?_
   exact Runs.ret Tryd.func38 (retc tab_ok Tryd.results38 rfl rfl rfl rfl rfl hb9.cells) ⟨Fr.wr hx03 hx9 (Nat.le_refl _),rfl⟩
  | some y =>
   obtain ⟨ns,l2⟩:=y
   rw [hW] at hp3
   obtain ⟨nv,rfl,ho3,hm3,ha3⟩:=hp3
   obtain ⟨adn,capn,hnv⟩:=ho3.rd.form
   subst hnv
   dsimp only
   refine zgo ?_
   refine WO.call rfl rfl rfl rfl plain_changes rfl (changes_ret h0.size s l2 _ ha3 hs) fun v4 h4 ⟨hf4,hp4⟩=>?_
   have hx04:Ext h h4:=Fr.wr hx03 hf4 (by omega)
   have hbD:=hbC.fr hf4 hne
   have ho4:=ho3.fr hf4 (fun k hk e=>by have:=hm3 k hk;omega)
   cases hC:changesR 31 l2 with
   | none =>
    rw [hC] at hp4
    unfold readC at hp4
    subst hp4
    refine zgo ?_
    refine WO.put tab_ok rfl rfl rfl rfl rfl rfl rfl rfl (one3 _ _ _ _ _ _ _) hbD rfl fun h9 hb9 hx9 hs9=>?_
    refine zgo ?_
    exact Runs.ret Tryd.func38 (retc tab_ok Tryd.results38 rfl rfl rfl rfl rfl hb9.cells) ⟨Fr.wr hx04 hx9 (Nat.le_refl _),rfl⟩
   | some cs =>
    rw [hC] at hp4
    obtain ⟨cv,rfl,ho5,hm5⟩:=hp4
    obtain ⟨adc,capc,hcv⟩:=ho5.rd.form
    subst hcv
    dsimp only
    by_cases h0:cs.length=0
    ·have hd:decide (0<cs.length)=false:=decide_eq_false (by omega)
     rw [hd,if_pos h0]
     refine zgo ?_
     refine WO.put tab_ok rfl rfl rfl rfl rfl rfl rfl rfl (one3 _ _ _ _ _ _ _) hbD rfl fun h9 hb9 hx9 hs9=>?_
     refine zgo ?_
     exact Runs.ret Tryd.func38 (retc tab_ok Tryd.results38 rfl rfl rfl rfl rfl hb9.cells) ⟨Fr.wr hx04 hx9 (Nat.le_refl _),rfl⟩
    ·have hd:decide (0<cs.length)=true:=decide_eq_true (by omega)
     rw [hd,if_neg h0]
     refine zgo ?_
     refine WO.put tab_ok rfl rfl rfl rfl rfl rfl rfl rfl (one3 _ _ _ _ _ _ _) hbD rfl fun h9 hb9 hx9 hs9=>?_
     refine zgo ?_
     have hz:=hx01.size
     refine Runs.ret Tryd.func38 (retc tab_ok Tryd.results38 rfl rfl rfl rfl rfl hb9.cells) ⟨Fr.wr hx04 hx9 (Nat.le_refl _),_,_,rfl,⟨?_,?_,fun k hk=>?_,fun k hk=>?_⟩⟩
     ·exact (ho4.fr hx9 (fun k hk e=>by have:=hm3 k hk;omega)).rd
     ·exact (ho5.fr hx9 (fun k hk e=>by have:=hm5 k hk;omega)).rd
     ·exact ⟨by have:=hm3 k hk;omega,(ho4.fr hx9 (fun k hk e=>by have:=hm3 k hk;omega)).lt k hk⟩
     ·exact ⟨by have:=hm5 k hk;omega,(ho5.fr hx9 (fun k hk e=>by have:=hm5 k hk;omega)).lt k hk⟩
end Go.Proofs.YtlaffgagmncgjabDoor
