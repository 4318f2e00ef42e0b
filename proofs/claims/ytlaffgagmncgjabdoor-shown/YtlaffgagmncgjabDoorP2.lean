import Derived.Test.YtlaffgagmncgjabDoorP1
import Derived.Test.YtlaffgagmncgjabDoorMem3
set_option maxRecDepth 20000
set_option maxHeartbeats 1600000
namespace Go.Proofs.YtlaffgagmncgjabDoor
open Go Go.Pat Go.Proofs
theorem plain_head:Plain Tryd.prog 58:=⟨_,Tryd.func58,by decide +kernel,by rfl⟩
theorem plain_line:Plain Tryd.prog 106:=⟨_,Tryd.func106,by decide +kernel,by rfl⟩
theorem plain_place:Plain Tryd.prog 104:=⟨_,Tryd.func104,by decide +kernel,by rfl⟩
theorem plain_rest:Plain Tryd.prog 105:=⟨_,Tryd.func105,by decide +kernel,by rfl⟩
theorem plain_add:Plain Tryd.prog 90:=⟨_,Tryd.func90,by decide +kernel,by rfl⟩
theorem plain_del:Plain Tryd.prog 91:=⟨_,Tryd.func91,by decide +kernel,by rfl⟩
theorem plain_tie:Plain Tryd.prog 92:=⟨_,Tryd.func92,by decide +kernel,by rfl⟩
theorem plain_change:Plain Tryd.prog 75:=⟨_,Tryd.func75,by decide +kernel,by rfl⟩
theorem RdAt.fr {S:Nat→Prop} {h h':Heap} {b:Nat} {s l:List UInt8} (x:RdAt h b s l) (f:Fr S h h') (hs:¬ S b):RdAt h' b s l:=by
 obtain ⟨a,h1,h2,h3⟩:=x
 exact ⟨a,h1,h2,h3.fr f hs⟩
theorem RdAt.ext {h h':Heap} {b:Nat} {s l:List UInt8} (x:RdAt h b s l) (f:Ext h h'):RdAt h' b s l:=x.fr f (by simp)
theorem RdAt.lt {h:Heap} {b:Nat} {s l:List UInt8} (x:RdAt h b s l):b<h.size:=by
 obtain ⟨a,h1,h2,h3⟩:=x
 exact h3.lt
def ref0:RefD:=⟨0,0⟩
def chg0:ChangeD:=⟨0,⟨0,0⟩,⟨0,0⟩,[]⟩
def readRef (b:Nat) (s:List UInt8) (o:Option (RefD × List UInt8)) (v:Value) (h':Heap):Prop:=match o with
 | some (r,l)=>v = .tuple #[.agg r.cells.toArray,.bool true]∧RdAt h' b s l
 | none=>v = .tuple #[.agg ref0.cells.toArray,.bool false]
def readStr (b:Nat) (s:List UInt8) (o:Option (List UInt8 × List UInt8)) (v:Value) (h':Heap):Prop:=match o with
 | some (r,l)=>v = .tuple #[.string (str r),.bool true]∧RdAt h' b s l
 | none=>v = .tuple #[.string (str []),.bool false]
def readChg (b:Nat) (s:List UInt8) (o:Option (ChangeD × List UInt8)) (v:Value) (h':Heap):Prop:=match o with
 | some (r,l)=>v = .tuple #[.agg r.cells.toArray,.bool true]∧RdAt h' b s l
 | none=>v = .tuple #[.agg chg0.cells.toArray,.bool false]
theorem head_ret (b:Nat) (s l:List UInt8) (h:Heap) (hr:RdAt h b s l) (hs:s.length≤16777216) :
  Ret Tryd.prog 58 #[.pointer (some ⟨b,0,none⟩)] h fun v h'=>Fr (fun k=>k=b) h h'∧readN b s (headR l) v h':=by
 refine Ret.of_body Tryd.func58 rfl Tryd.ntmps58 rfl rfl ?_
 unfold headR
 refine zgo ?_
 refine WO.call rfl rfl rfl rfl plainTakes rfl (takes_ret b s [112,97,116,99,104,32] l _ hr hs (by decide)) fun v1 h1 ⟨hf1,hp1⟩=>?_
 cases hT:takesR [112,97,116,99,104,32] l with
 | none =>
  rw [hT] at hp1
  obtain ⟨rfl,_⟩:=hp1
  refine zgo ?_
  exact Runs.ret Tryd.func58 (ret2 Tryd.results58 rfl rfl) ⟨hf1,rfl⟩
 | some l1 =>
  rw [hT] at hp1
  obtain ⟨rfl,ha1⟩:=hp1
  refine zgo ?_
  refine WO.call rfl rfl rfl rfl plainName rfl (rname_ret b s l1 _ ha1 hs) fun v2 h2 ⟨hf2,hp2⟩=>?_
  have hf12:=hf1.trans hf2
  dsimp only
  cases hN:nameR l1 with
  | none =>
   rw [hN] at hp2
   unfold readN at hp2
   subst hp2
   refine zgo ?_
   exact Runs.ret Tryd.func58 (ret2 Tryd.results58 rfl rfl) ⟨hf12,rfl⟩
  | some x =>
   obtain ⟨id,l2⟩:=x
   rw [hN] at hp2
   obtain ⟨rfl,ha2⟩:=hp2
   refine zgo ?_
   refine WO.call rfl rfl rfl rfl plainTakes rfl (takes_ret b s [10] l2 _ ha2 hs (by decide)) fun v3 h3 ⟨hf3,hp3⟩=>?_
   have hf13:=hf12.trans hf3
   dsimp only
   cases hT3:takesR [10] l2 with
   | none =>
    rw [hT3] at hp3
    obtain ⟨rfl,_⟩:=hp3
    refine zgo ?_
    exact Runs.ret Tryd.func58 (ret2 Tryd.results58 rfl rfl) ⟨hf13,rfl⟩
   | some l3 =>
    rw [hT3] at hp3
    obtain ⟨rfl,ha3⟩:=hp3
    refine zgo ?_
    exact Runs.ret Tryd.func58 (ret2 Tryd.results58 rfl rfl) ⟨hf13,rfl,ha3⟩
theorem rline_ret (b:Nat) (s l:List UInt8) (h:Heap) (hr:RdAt h b s l) (hs:s.length≤16777216) :
  Ret Tryd.prog 106 #[.pointer (some ⟨b,0,none⟩)] h fun v h'=>Fr (fun k=>k=b) h h'∧readRef b s (lineR l) v h':=by
 refine Ret.of_body Tryd.func106 rfl Tryd.ntmps106 rfl rfl ?_
 have hlt:=hr.lt
 have hne:¬ h.size=b:=by omega
 unfold lineR
 refine zgo ?_
 refine WO.alloc tab_ok rfl rfl rfl rfl rfl rfl fun h0 hb0 hx0 hs0=>?_
 refine zgo ?_
 refine WO.call rfl rfl rfl rfl plainName rfl (rname_ret b s l _ (hr.ext hx0) hs) fun v1 h1 ⟨hf1,hp1⟩=>?_
 have hb1:=hb0.fr hf1 hne
 have hg1:Fr (fun k=>k=b) h h1:=hx0.up.trans hf1
 cases hN:nameR l with
 | none =>
  rw [hN] at hp1
  unfold readN at hp1
  subst hp1
  refine zgo ?_
  refine WO.put tab_ok rfl rfl rfl rfl rfl rfl rfl rfl (RefD.one ref0) hb1 rfl fun h9 hb9 hx9 hs9=>?_
  refine zgo ?_
  exact Runs.ret Tryd.func106 (retc tab_ok Tryd.results106 rfl rfl rfl rfl rfl hb9.cells) ⟨hg1.wr hx9 (Nat.le_refl _),rfl⟩
 | some x =>
  obtain ⟨p,l1⟩:=x
  rw [hN] at hp1
  obtain ⟨rfl,ha1⟩:=hp1
  refine zgo ?_
  refine WO.call rfl rfl rfl rfl plainTakes rfl (takes_ret b s [46] l1 _ ha1 hs (by decide)) fun v2 h2 ⟨hf2,hp2⟩=>?_
  have hb2:=hb1.fr hf2 hne
  have hg2:=hg1.trans hf2
  dsimp only
  cases hT:takesR [46] l1 with
  | none =>
   rw [hT] at hp2
   obtain ⟨rfl,_⟩:=hp2
   refine zgo ?_
   refine WO.put tab_ok rfl rfl rfl rfl rfl rfl rfl rfl (RefD.one ref0) hb2 rfl fun h9 hb9 hx9 hs9=>?_
   refine zgo ?_
   exact Runs.ret Tryd.func106 (retc tab_ok Tryd.results106 rfl rfl rfl rfl rfl hb9.cells) ⟨hg2.wr hx9 (Nat.le_refl _),rfl⟩
  | some l2 =>
   rw [hT] at hp2
   obtain ⟨rfl,ha2⟩:=hp2
   refine zgo ?_
   refine WO.call rfl rfl rfl rfl plainNumber rfl (rnum_ret b s l2 _ ha2 hs) fun v3 h3 ⟨hf3,hp3⟩=>?_
   have hb3:=hb2.fr hf3 hne
   have hg3:=hg2.trans hf3
   dsimp only
   cases hM:numR l2 with
   | none =>
    rw [hM] at hp3
    unfold readN at hp3
    subst hp3
    refine zgo ?_
    refine WO.put tab_ok rfl rfl rfl rfl rfl rfl rfl rfl (RefD.one ref0) hb3 rfl fun h9 hb9 hx9 hs9=>?_
    refine zgo ?_
    exact Runs.ret Tryd.func106 (retc tab_ok Tryd.results106 rfl rfl rfl rfl rfl hb9.cells) ⟨hg3.wr hx9 (Nat.le_refl _),rfl⟩
   | some y =>
    obtain ⟨i,l3⟩:=y
    rw [hM] at hp3
    obtain ⟨rfl,ha3⟩:=hp3
    refine zgo ?_
    refine WO.put tab_ok rfl rfl rfl rfl rfl rfl rfl rfl (RefD.one ⟨p,i⟩) hb3 rfl fun h9 hb9 hx9 hs9=>?_
    refine zgo ?_
    exact Runs.ret Tryd.func106 (retc tab_ok Tryd.results106 rfl rfl rfl rfl rfl hb9.cells) ⟨hg3.wr hx9 (Nat.le_refl _),rfl,ha3.fr hx9 (fun e=>hne e.symm)⟩
theorem place_rret (b i:Nat) (c:UInt8) (s l:List UInt8) (h:Heap) (hr:RdAt h b s l) (hs:s.length≤16777216) :
  Ret Tryd.prog 104 #[.pointer (some ⟨b,0,none⟩),.string (str [c]),.int .i64 (i:Int)] h fun v h'=>Fr (fun k=>k=b) h h'∧readRef b s (placeR c i l) v h':=by
 refine Ret.of_body Tryd.func104 rfl Tryd.ntmps104 rfl rfl ?_
 have hlt:=hr.lt
 have hne:¬ h.size=b:=by omega
 unfold placeR
 refine zgo ?_
 refine WO.alloc tab_ok rfl rfl rfl rfl rfl rfl fun h0 hb0 hx0 hs0=>?_
 refine zgo ?_
 refine WO.call rfl rfl rfl rfl plainTakes rfl (takes_ret b s [c] l _ (hr.ext hx0) hs (by simp)) fun v1 h1 ⟨hf1,hp1⟩=>?_
 have hb1:=hb0.fr hf1 hne
 have hg1:Fr (fun k=>k=b) h h1:=hx0.up.trans hf1
 cases hT:takesR [c] l with
 | some l1 =>
  rw [hT] at hp1
  obtain ⟨rfl,ha1⟩:=hp1
  refine zgo ?_
  refine WO.put tab_ok rfl rfl rfl rfl rfl rfl rfl rfl (RefD.one ⟨0,i⟩) hb1 rfl fun h9 hb9 hx9 hs9=>?_
  refine zgo ?_
  exact Runs.ret Tryd.func104 (retc tab_ok Tryd.results104 rfl rfl rfl rfl rfl hb9.cells) ⟨hg1.wr hx9 (Nat.le_refl _),rfl,ha1.fr hx9 (fun e=>hne e.symm)⟩
 | none =>
  rw [hT] at hp1
  obtain ⟨rfl,ha1⟩:=hp1
  refine zgo ?_
  refine WO.call rfl rfl rfl rfl plain_line rfl (rline_ret b s l _ ha1 hs) fun v2 h2 ⟨hf2,hp2⟩=>?_
  have hb2:=hb1.fr hf2 hne
  have hg2:=hg1.trans hf2
  dsimp only
  cases hL:lineR l with
  | none =>
   rw [hL] at hp2
   unfold readRef at hp2
   subst hp2
   refine zgo ?_
   refine WO.put tab_ok rfl rfl rfl rfl rfl rfl rfl rfl (RefD.one ref0) hb2 rfl fun h9 hb9 hx9 hs9=>?_
   refine zgo ?_
   exact Runs.ret Tryd.func104 (retc tab_ok Tryd.results104 rfl rfl rfl rfl rfl hb9.cells) ⟨hg2.wr hx9 (Nat.le_refl _),rfl⟩
  | some y =>
   obtain ⟨r,l3⟩:=y
   rw [hL] at hp2
   obtain ⟨rfl,ha2⟩:=hp2
   refine zgo ?_
   refine WO.put tab_ok rfl rfl rfl rfl rfl rfl rfl rfl (RefD.one r) hb2 rfl fun h9 hb9 hx9 hs9=>?_
   refine zgo ?_
   exact Runs.ret Tryd.func104 (retc tab_ok Tryd.results104 rfl rfl rfl rfl rfl hb9.cells) ⟨hg2.wr hx9 (Nat.le_refl _),rfl,ha2.fr hx9 (fun e=>hne e.symm)⟩
theorem plain_isPlain:Plain Tryd.prog 118:=⟨_,Tryd.func118,by decide +kernel,by rfl⟩
theorem isPlain_ret (c:UInt8) (h:Heap):Ret Tryd.prog 118 #[.int .u8 (c.toNat:Int)] h fun v h'=>h'=h∧v = .bool (isPrn c):=by
 refine Ret.of_body Tryd.func118 rfl Tryd.ntmps118 rfl rfl ?_
 have hda:isPrn c=(decide ((32:Int)≤(c.toNat:Int))&&decide ((c.toNat:Int)≤126)):=by simp only [isPrn];rw [Bool.eq_iff_iff];simp;omega
 rw [hda]
 refine zgo ?_
 by_cases h48:(32:Int)≤(c.toNat:Int)
 ·have hd1:decide ((32:Int)≤(c.toNat:Int))=true:=decide_eq_true h48
  rw [hd1]
  refine zgo ?_
  exact Runs.ret Tryd.func118 (ret1 Tryd.results118 rfl) ⟨rfl,rfl⟩
 ·have hd1:decide ((32:Int)≤(c.toNat:Int))=false:=decide_eq_false h48
  rw [hd1]
  refine zgo ?_
  exact Runs.ret Tryd.func118 (ret1 Tryd.results118 rfl) ⟨rfl,rfl⟩
def prnAt (l:List UInt8) (k:Nat):Bool:=match l[k]? with
 | some c=>isPrn c
 | none=>false
theorem rest_ret (b:Nat) (s l:List UInt8) (h:Heap) (hr:RdAt h b s l) (hs:s.length≤16777216) :
  Ret Tryd.prog 105 #[.pointer (some ⟨b,0,none⟩)] h fun v h'=>Fr (fun k=>k=b) h h'∧readStr b s (restR l) v h':=by
 refine Ret.of_body Tryd.func105 rfl Tryd.ntmps105 rfl rfl ?_
 obtain ⟨a,ha,hl,hb⟩:=hr
 have f1:=hb.cell (j:=1) rfl
 refine zgo ?_
 refine Runs.loop (X:=Nat) (fun k=>[(0,.pointer (some ⟨b,0,none⟩)),(4,.int .i64 (a:Int))])
  (fun k h'=>Fr (fun k=>k=b) h h'∧Blk h' b [.string (str s),.int .i64 ((a+k:Nat):Int)] 96∧a+k≤s.length∧(∀ y∈l.take k,isPrn y=true))
  (fun k=>s.length+1-k) 0 ⟨rfl,rfl,trivial⟩ ⟨Fr.refl _ _,hb,ha,by simp⟩ ?_
 rintro k h1 ⟨hf1,hb1,hk,hdig⟩ ih
 have g0:=hb1.cell (j:=0) rfl
 have g1:=hb1.cell (j:=1) rfl
 have hlk:l[k]? = s[a+k]?:=by rw [← hl,List.getElem?_drop]
 refine zgo ?_
 refine Runs.join (fun env' h'=>h1=h'∧Sub [(0,.pointer (some ⟨b,0,none⟩)),(4,.int .i64 (a:Int)),(31,.bool (prnAt l k))] env') (fun hJ=>?_) ?_
 ·refine Runs.drawn (m:=22) (fun h'=>h1=h') (fun _=>false) mixed rfl ?_
  refine zp 0 rfl ?_
  refine zp 1 rfl ?_
  refine zp 2 rfl ?_
  refine WF.take 3 rfl (fun _ hS=>by rw [← hS];exact ov_load tab_ok rfl rfl rfl rfl g1) rfl rfl rfl rfl (by kernel_rfl) ?_
  refine zp 4 rfl ?_
  refine zp 5 rfl ?_
  refine zp 6 rfl ?_
  refine WF.take 7 rfl (fun _ hS=>by rw [← hS];exact ov_load tab_ok rfl rfl rfl rfl g0) rfl rfl rfl rfl (by kernel_rfl) ?_
  refine zp 8 rfl ?_
  refine zp 9 rfl ?_
  by_cases hin:a+k<s.length
  ·have hc:s[a+k]? = some s[a+k]:=List.getElem?_eq_getElem hin
   generalize s[a+k]=c at *
   have hd0:decide (((a+k:Nat):Int)<(s.length:Int))=true:=decide_eq_true (by omega)
   have hda:prnAt l k=isPrn c:=by unfold prnAt;rw [hlk,hc]
   rw [hd0]
   rw [hda] at hJ
   refine zp 10 rfl ?_
   refine zp 11 rfl ?_
   refine zp 12 rfl ?_
   refine zp 13 rfl ?_
   refine WF.take 14 rfl (fun _ hS=>by rw [← hS];exact ov_load tab_ok rfl rfl rfl rfl g0) rfl rfl rfl rfl (by kernel_rfl) ?_
   refine zp 15 rfl ?_
   refine zp 16 rfl ?_
   refine zp 17 rfl ?_
   refine WF.take 18 rfl (fun _ hS=>by rw [← hS];exact ov_load tab_ok rfl rfl rfl rfl g1) rfl rfl rfl rfl (by kernel_rfl) ?_
   refine WF.take 19 rfl (fun _ _=>ov_index tab_ok rfl rfl rfl rfl rfl hc) rfl rfl rfl rfl (by kernel_rfl) ?_
   refine WF.call 20 (by kernel_rfl) rfl rfl rfl rfl rfl plain_isPlain rfl (isPlain_ret c h1) fun v3 h3 ⟨hx3,hv3⟩=>⟨.inr hx3.symm,?_⟩
   subst hx3 hv3
   refine zx 21 rfl ?_
   refine WF.done (by kernel_rfl) ?_
   exact hJ _ _ ⟨rfl,rfl,rfl,rfl,trivial⟩
  ·have hd0:decide (((a+k:Nat):Int)<(s.length:Int))=false:=decide_eq_false (by omega)
   have hda:prnAt l k=false:=by
    unfold prnAt;rw [hlk,List.getElem?_eq_none (by omega)]
   rw [hd0]
   rw [hda] at hJ
   refine zp 10 rfl ?_
   refine zq 11 rfl ?_
   refine zq 12 rfl ?_
   refine zq 13 rfl ?_
   refine zq 14 rfl ?_
   refine zq 15 rfl ?_
   refine zq 16 rfl ?_
   refine zq 17 rfl ?_
   refine zq 18 rfl ?_
   refine zq 19 rfl ?_
   refine zq 20 rfl ?_
   refine zp 21 rfl ?_
   refine WF.done (by kernel_rfl) ?_
   exact hJ _ _ ⟨rfl,rfl,rfl,rfl,trivial⟩
 rintro env' _ ⟨rfl,hsub⟩
 refine Runs.sub hsub ?_
 clear hsub env'
 refine zgo ?_
 refine Runs.cond rfl (fun hq=>?_) (fun hq=>?_)
 ·obtain ⟨c,hc0,hcd⟩:∃ c,l[k]? = some c∧isPrn c=true:=by
   unfold prnAt at hq
   split at hq
   ·rename_i c e;exact ⟨c,e,hq⟩
   ·cases hq
  have hin:a+k<s.length:=by rw [hlk] at hc0;exact (List.getElem?_eq_some_iff.1 hc0).1
  have hkl:k<l.length:=(List.getElem?_eq_some_iff.1 hc0).1
  have htk:l.take (k+1)=l.take k++[c]:=by
   rw [List.take_succ_eq_append_getElem hkl]
   rw [List.getElem?_eq_getElem hkl] at hc0
   cases hc0;rfl
  refine zgo ?_
  refine WO.put tab_ok rfl rfl rfl rfl rfl rfl rfl rfl (one_int _) hb1 rfl fun h2 hb2 hx2 hs2=>?_
  refine zgo ?_
  refine ih (k+1) _ _ (by omega) ⟨rfl,rfl,trivial⟩ ⟨hf1.trans hx2,hb2,by omega,fun y hy=>?_⟩
  rw [htk] at hy
  rcases List.mem_append.1 hy with e | e
  ·exact hdig y e
  ·simp at e;rw [e];exact hcd
 ·have hno:∀ x,l[k]? = some x→isPrn x=false:=fun x hx=>by
   unfold prnAt at hq
   rw [hx] at hq
   exact hq
  obtain ⟨s1,s2⟩:=span_at hdig hno
  have hlen:(l.take k).length=k:=by rw [List.length_take,← hl,List.length_drop];omega
  have hat:RdAt h1 b s (l.drop k):=⟨a+k,hk,by rw [← hl,List.drop_drop],hb1⟩
  have htk:(s.take (a+k)).drop a=l.take k:=by rw [← hl];exact (take_drop_eq s a k).symm
  unfold restR
  rw [s1,s2,hlen]
  refine zgo ?_
  refine Runs.still mixed (by kernel_rfl) ?_
  refine zws ?_
  rw [htk]
  refine zgo ?_
  rw [hlen]
  by_cases h12:12<k
  ·have hd:decide ((12:Int)<(k:Int))=true:=decide_eq_true (by omega)
   rw [hd,if_pos h12]
   refine zgo ?_
   exact Runs.ret Tryd.func105 (ret2 Tryd.results105 rfl rfl) ⟨hf1,rfl⟩
  ·have hd:decide ((12:Int)<(k:Int))=false:=decide_eq_false (by omega)
   rw [hd,if_neg h12]
   refine zgo ?_
   refine WO.call rfl rfl rfl rfl plainTakes rfl (takes_ret b s [10] (l.drop k) _ hat hs (by simp)) fun v2 h2 ⟨hf2,hp2⟩=>?_
   have hg2:=hf1.trans hf2
   cases hT:takesR [10] (l.drop k) with
   | none =>
    rw [hT] at hp2
    obtain ⟨rfl,_⟩:=hp2
    refine zgo ?_
    exact Runs.ret Tryd.func105 (ret2 Tryd.results105 rfl rfl) ⟨hg2,rfl⟩
   | some r =>
    rw [hT] at hp2
    obtain ⟨rfl,ha2⟩:=hp2
    refine zgo ?_
    exact Runs.ret Tryd.func105 (ret2 Tryd.results105 rfl rfl) ⟨hg2,rfl,ha2⟩
theorem del_ret (b:Nat) (s l:List UInt8) (h:Heap) (hr:RdAt h b s l) (hs:s.length≤16777216) :
  Ret Tryd.prog 91 #[.pointer (some ⟨b,0,none⟩)] h fun v h'=>Fr (fun k=>k=b) h h'∧readChg b s (delR l) v h':=by
 refine Ret.of_body Tryd.func91 rfl Tryd.ntmps91 rfl rfl ?_
 have hlt:=hr.lt
 have hne:¬ h.size=b:=by omega
 unfold delR
 refine zgo ?_
 refine WO.alloc tab_ok rfl rfl rfl rfl rfl rfl fun h0 hb0 hx0 hs0=>?_
 have ha0:=hr.ext hx0
 have hg0:Fr (fun k=>k=b) h h0:=hx0.up
 refine zgo ?_
 refine WO.call rfl rfl rfl rfl plain_line rfl (rline_ret b s l _ ha0 hs) fun v1 h1 ⟨hf1,hp1⟩=>?_
 have hb1:=hb0.fr hf1 hne
 have hg1:=hg0.trans hf1
 try dsimp only
 cases hS1:lineR l with
 | none =>
  rw [hS1] at hp1
  unfold readRef at hp1
  subst hp1
  refine zgo ?_
  refine zv (RefD.one ref0) fun h8 hb8 hx8 hs8=>?_
  have hbz:=hb1.ext hx8
  have hgz:=hg1.ex hx8
  refine zgo ?_
  refine WO.put tab_ok rfl rfl rfl rfl rfl rfl rfl rfl (ChangeD.one chg0) hbz rfl fun h9 hb9 hx9 hs9=>?_
  refine zgo ?_
  exact Runs.ret Tryd.func91 (retc tab_ok Tryd.results91 rfl rfl rfl rfl rfl hb9.cells) ⟨hgz.wr hx9 (Nat.le_refl _),rfl⟩
 | some y1 =>
  obtain ⟨up,l1⟩:=y1
  rw [hS1] at hp1
  obtain ⟨rfl,ha1⟩:=hp1
  refine zgo ?_
  refine zv (RefD.one up) fun h101 hvup_101 hx101 hs101=>?_
  have hb101:=hb1.ext hx101
  have hg101:=hg1.ex hx101
  have ha101:=ha1.ext hx101
  have hsz101:=hg1.size
  refine zgo ?_
  refine WO.call rfl rfl rfl rfl plainTakes rfl (takes_ret b s [10] l1 _ ha101 hs (by simp)) fun v102 h102 ⟨hf102,hp102⟩=>?_
  have hb102:=hb101.fr hf102 hne
  have hg102:=hg101.trans hf102
  have hvup_102:=hvup_101.fr hf102 (by omega)
  try dsimp only
  cases hS102:takesR [10] l1 with
  | none =>
   rw [hS102] at hp102
   obtain ⟨rfl,_⟩:=hp102
   refine zgo ?_
   refine WO.put tab_ok rfl rfl rfl rfl rfl rfl rfl rfl (ChangeD.one chg0) hb102 rfl fun h9 hb9 hx9 hs9=>?_
   refine zgo ?_
   exact Runs.ret Tryd.func91 (retc tab_ok Tryd.results91 rfl rfl rfl rfl rfl hb9.cells) ⟨hg102.wr hx9 (Nat.le_refl _),rfl⟩
  | some l102 =>
   rw [hS102] at hp102
   obtain ⟨rfl,ha102⟩:=hp102
   have hkup:=hvup_102.cells
   refine zgo ?_
   refine WO.put tab_ok rfl rfl rfl rfl rfl rfl rfl rfl (ChangeD.one ⟨2,up,⟨0,0⟩,[]⟩) hb102 rfl fun h9 hb9 hx9 hs9=>?_
   refine zgo ?_
   exact Runs.ret Tryd.func91 (retc tab_ok Tryd.results91 rfl rfl rfl rfl rfl hb9.cells) ⟨hg102.wr hx9 (Nat.le_refl _),rfl,ha102.fr hx9 (fun e=>hne e.symm)⟩
theorem tie_ret (b:Nat) (s l:List UInt8) (h:Heap) (hr:RdAt h b s l) (hs:s.length≤16777216) :
  Ret Tryd.prog 92 #[.pointer (some ⟨b,0,none⟩)] h fun v h'=>Fr (fun k=>k=b) h h'∧readChg b s (tieR l) v h':=by
 refine Ret.of_body Tryd.func92 rfl Tryd.ntmps92 rfl rfl ?_
 have hlt:=hr.lt
 have hne:¬ h.size=b:=by omega
 unfold tieR
 refine zgo ?_
 refine WO.alloc tab_ok rfl rfl rfl rfl rfl rfl fun h0 hb0 hx0 hs0=>?_
 have ha0:=hr.ext hx0
 have hg0:Fr (fun k=>k=b) h h0:=hx0.up
 refine zgo ?_
 refine WO.call rfl rfl rfl rfl plain_line rfl (rline_ret b s l _ ha0 hs) fun v1 h1 ⟨hf1,hp1⟩=>?_
 have hb1:=hb0.fr hf1 hne
 have hg1:=hg0.trans hf1
 try dsimp only
 cases hS1:lineR l with
 | none =>
  rw [hS1] at hp1
  unfold readRef at hp1
  subst hp1
  refine zgo ?_
  refine zv (RefD.one ref0) fun h8 hb8 hx8 hs8=>?_
  have hbz:=hb1.ext hx8
  have hgz:=hg1.ex hx8
  refine zgo ?_
  refine WO.put tab_ok rfl rfl rfl rfl rfl rfl rfl rfl (ChangeD.one chg0) hbz rfl fun h9 hb9 hx9 hs9=>?_
  refine zgo ?_
  exact Runs.ret Tryd.func92 (retc tab_ok Tryd.results92 rfl rfl rfl rfl rfl hb9.cells) ⟨hgz.wr hx9 (Nat.le_refl _),rfl⟩
 | some y1 =>
  obtain ⟨up,l1⟩:=y1
  rw [hS1] at hp1
  obtain ⟨rfl,ha1⟩:=hp1
  refine zgo ?_
  refine zv (RefD.one up) fun h101 hvup_101 hx101 hs101=>?_
  have hb101:=hb1.ext hx101
  have hg101:=hg1.ex hx101
  have ha101:=ha1.ext hx101
  have hsz101:=hg1.size
  refine zgo ?_
  refine WO.call rfl rfl rfl rfl plainTakes rfl (takes_ret b s [32] l1 _ ha101 hs (by simp)) fun v102 h102 ⟨hf102,hp102⟩=>?_
  have hb102:=hb101.fr hf102 hne
  have hg102:=hg101.trans hf102
  have hvup_102:=hvup_101.fr hf102 (by omega)
  try dsimp only
  cases hS102:takesR [32] l1 with
  | none =>
   rw [hS102] at hp102
   obtain ⟨rfl,_⟩:=hp102
   refine zgo ?_
   refine WO.put tab_ok rfl rfl rfl rfl rfl rfl rfl rfl (ChangeD.one chg0) hb102 rfl fun h9 hb9 hx9 hs9=>?_
   refine zgo ?_
   exact Runs.ret Tryd.func92 (retc tab_ok Tryd.results92 rfl rfl rfl rfl rfl hb9.cells) ⟨hg102.wr hx9 (Nat.le_refl _),rfl⟩
  | some l102 =>
   rw [hS102] at hp102
   obtain ⟨rfl,ha102⟩:=hp102
   refine zgo ?_
   refine WO.call rfl rfl rfl rfl plain_line rfl (rline_ret b s l102 _ ha102 hs) fun v103 h103 ⟨hf103,hp103⟩=>?_
   have hb103:=hb102.fr hf103 hne
   have hg103:=hg102.trans hf103
   have hvup_103:=hvup_102.fr hf103 (by omega)
   try dsimp only
   cases hS103:lineR l102 with
   | none =>
    rw [hS103] at hp103
    unfold readRef at hp103
    subst hp103
    refine zgo ?_
    refine zv (RefD.one ref0) fun h8 hb8 hx8 hs8=>?_
    have hbz:=hb103.ext hx8
    have hgz:=hg103.ex hx8
    refine zgo ?_
    refine WO.put tab_ok rfl rfl rfl rfl rfl rfl rfl rfl (ChangeD.one chg0) hbz rfl fun h9 hb9 hx9 hs9=>?_
    refine zgo ?_
    exact Runs.ret Tryd.func92 (retc tab_ok Tryd.results92 rfl rfl rfl rfl rfl hb9.cells) ⟨hgz.wr hx9 (Nat.le_refl _),rfl⟩
   | some y103 =>
    obtain ⟨down,l103⟩:=y103
    rw [hS103] at hp103
    obtain ⟨rfl,ha103⟩:=hp103
    refine zgo ?_
    refine zv (RefD.one down) fun h203 hvdown_203 hx203 hs203=>?_
    have hb203:=hb103.ext hx203
    have hg203:=hg103.ex hx203
    have ha203:=ha103.ext hx203
    have hsz203:=hg103.size
    have hvup_203:=hvup_103.ext hx203
    refine zgo ?_
    refine WO.call rfl rfl rfl rfl plainTakes rfl (takes_ret b s [10] l103 _ ha203 hs (by simp)) fun v204 h204 ⟨hf204,hp204⟩=>?_
    have hb204:=hb203.fr hf204 hne
    have hg204:=hg203.trans hf204
    have hvup_204:=hvup_203.fr hf204 (by omega)
    have hvdown_204:=hvdown_203.fr hf204 (by omega)
    try dsimp only
    cases hS204:takesR [10] l103 with
    | none =>
     rw [hS204] at hp204
     obtain ⟨rfl,_⟩:=hp204
     refine zgo ?_
     refine WO.put tab_ok rfl rfl rfl rfl rfl rfl rfl rfl (ChangeD.one chg0) hb204 rfl fun h9 hb9 hx9 hs9=>?_
     refine zgo ?_
     exact Runs.ret Tryd.func92 (retc tab_ok Tryd.results92 rfl rfl rfl rfl rfl hb9.cells) ⟨hg204.wr hx9 (Nat.le_refl _),rfl⟩
    | some l204 =>
     rw [hS204] at hp204
     obtain ⟨rfl,ha204⟩:=hp204
     have hkup:=hvup_204.cells
     have hkdown:=hvdown_204.cells
     refine zgo ?_
     refine WO.put tab_ok rfl rfl rfl rfl rfl rfl rfl rfl (ChangeD.one ⟨3,up,down,[]⟩) hb204 rfl fun h9 hb9 hx9 hs9=>?_
     refine zgo ?_
     exact Runs.ret Tryd.func92 (retc tab_ok Tryd.results92 rfl rfl rfl rfl rfl hb9.cells) ⟨hg204.wr hx9 (Nat.le_refl _),rfl,ha204.fr hx9 (fun e=>hne e.symm)⟩
theorem add_ret (b:Nat) (s l:List UInt8) (h:Heap) (hr:RdAt h b s l) (hs:s.length≤16777216) :
  Ret Tryd.prog 90 #[.pointer (some ⟨b,0,none⟩)] h fun v h'=>Fr (fun k=>k=b) h h'∧readChg b s (addR l) v h':=by
 refine Ret.of_body Tryd.func90 rfl Tryd.ntmps90 rfl rfl ?_
 have hlt:=hr.lt
 have hne:¬ h.size=b:=by omega
 unfold addR
 refine zgo ?_
 refine WO.alloc tab_ok rfl rfl rfl rfl rfl rfl fun h0 hb0 hx0 hs0=>?_
 have ha0:=hr.ext hx0
 have hg0:Fr (fun k=>k=b) h h0:=hx0.up
 refine zgo ?_
 refine WO.call rfl rfl rfl rfl plain_place rfl (place_rret b 0 94 s l _ ha0 hs) fun v1 h1 ⟨hf1,hp1⟩=>?_
 have hb1:=hb0.fr hf1 hne
 have hg1:=hg0.trans hf1
 try dsimp only
 cases hS1:placeR 94 0 l with
 | none =>
  rw [hS1] at hp1
  unfold readRef at hp1
  subst hp1
  refine zgo ?_
  refine zv (RefD.one ref0) fun h8 hb8 hx8 hs8=>?_
  have hbz:=hb1.ext hx8
  have hgz:=hg1.ex hx8
  refine zgo ?_
  refine WO.put tab_ok rfl rfl rfl rfl rfl rfl rfl rfl (ChangeD.one chg0) hbz rfl fun h9 hb9 hx9 hs9=>?_
  refine zgo ?_
  exact Runs.ret Tryd.func90 (retc tab_ok Tryd.results90 rfl rfl rfl rfl rfl hb9.cells) ⟨hgz.wr hx9 (Nat.le_refl _),rfl⟩
 | some y1 =>
  obtain ⟨up,l1⟩:=y1
  rw [hS1] at hp1
  obtain ⟨rfl,ha1⟩:=hp1
  refine zgo ?_
  refine zv (RefD.one up) fun h101 hvup_101 hx101 hs101=>?_
  have hb101:=hb1.ext hx101
  have hg101:=hg1.ex hx101
  have ha101:=ha1.ext hx101
  have hsz101:=hg1.size
  refine zgo ?_
  refine WO.call rfl rfl rfl rfl plainTakes rfl (takes_ret b s [32] l1 _ ha101 hs (by simp)) fun v102 h102 ⟨hf102,hp102⟩=>?_
  have hb102:=hb101.fr hf102 hne
  have hg102:=hg101.trans hf102
  have hvup_102:=hvup_101.fr hf102 (by omega)
  try dsimp only
  cases hS102:takesR [32] l1 with
  | none =>
   rw [hS102] at hp102
   obtain ⟨rfl,_⟩:=hp102
   refine zgo ?_
   refine WO.put tab_ok rfl rfl rfl rfl rfl rfl rfl rfl (ChangeD.one chg0) hb102 rfl fun h9 hb9 hx9 hs9=>?_
   refine zgo ?_
   exact Runs.ret Tryd.func90 (retc tab_ok Tryd.results90 rfl rfl rfl rfl rfl hb9.cells) ⟨hg102.wr hx9 (Nat.le_refl _),rfl⟩
  | some l102 =>
   rw [hS102] at hp102
   obtain ⟨rfl,ha102⟩:=hp102
   refine zgo ?_
   refine WO.call rfl rfl rfl rfl plain_place rfl (place_rret b 1 36 s l102 _ ha102 hs) fun v103 h103 ⟨hf103,hp103⟩=>?_
   have hb103:=hb102.fr hf103 hne
   have hg103:=hg102.trans hf103
   have hvup_103:=hvup_102.fr hf103 (by omega)
   try dsimp only
   cases hS103:placeR 36 1 l102 with
   | none =>
    rw [hS103] at hp103
    unfold readRef at hp103
    subst hp103
    refine zgo ?_
    refine zv (RefD.one ref0) fun h8 hb8 hx8 hs8=>?_
    have hbz:=hb103.ext hx8
    have hgz:=hg103.ex hx8
    refine zgo ?_
    refine WO.put tab_ok rfl rfl rfl rfl rfl rfl rfl rfl (ChangeD.one chg0) hbz rfl fun h9 hb9 hx9 hs9=>?_
    refine zgo ?_
    exact Runs.ret Tryd.func90 (retc tab_ok Tryd.results90 rfl rfl rfl rfl rfl hb9.cells) ⟨hgz.wr hx9 (Nat.le_refl _),rfl⟩
   | some y103 =>
    obtain ⟨down,l103⟩:=y103
    rw [hS103] at hp103
    obtain ⟨rfl,ha103⟩:=hp103
    refine zgo ?_
    refine zv (RefD.one down) fun h203 hvdown_203 hx203 hs203=>?_
    have hb203:=hb103.ext hx203
    have hg203:=hg103.ex hx203
    have ha203:=ha103.ext hx203
    have hsz203:=hg103.size
    have hvup_203:=hvup_103.ext hx203
    refine zgo ?_
    refine WO.call rfl rfl rfl rfl plainTakes rfl (takes_ret b s [32] l103 _ ha203 hs (by simp)) fun v204 h204 ⟨hf204,hp204⟩=>?_
    have hb204:=hb203.fr hf204 hne
    have hg204:=hg203.trans hf204
    have hvup_204:=hvup_203.fr hf204 (by omega)
    have hvdown_204:=hvdown_203.fr hf204 (by omega)
    try dsimp only
    cases hS204:takesR [32] l103 with
    | none =>
     rw [hS204] at hp204
     obtain ⟨rfl,_⟩:=hp204
     refine zgo ?_
     refine WO.put tab_ok rfl rfl rfl rfl rfl rfl rfl rfl (ChangeD.one chg0) hb204 rfl fun h9 hb9 hx9 hs9=>?_
     refine zgo ?_
     exact Runs.ret Tryd.func90 (retc tab_ok Tryd.results90 rfl rfl rfl rfl rfl hb9.cells) ⟨hg204.wr hx9 (Nat.le_refl _),rfl⟩
    | some l204 =>
     rw [hS204] at hp204
     obtain ⟨rfl,ha204⟩:=hp204
     refine zgo ?_
     refine WO.call rfl rfl rfl rfl plain_rest rfl (rest_ret b s l204 _ ha204 hs) fun v205 h205 ⟨hf205,hp205⟩=>?_
     have hb205:=hb204.fr hf205 hne
     have hg205:=hg204.trans hf205
     have hvup_205:=hvup_204.fr hf205 (by omega)
     have hvdown_205:=hvdown_204.fr hf205 (by omega)
     try dsimp only
     cases hS205:restR l204 with
     | none =>
      rw [hS205] at hp205
      unfold readStr at hp205
      subst hp205
      refine zgo ?_
      refine WO.put tab_ok rfl rfl rfl rfl rfl rfl rfl rfl (ChangeD.one chg0) hb205 rfl fun h9 hb9 hx9 hs9=>?_
      refine zgo ?_
      exact Runs.ret Tryd.func90 (retc tab_ok Tryd.results90 rfl rfl rfl rfl rfl hb9.cells) ⟨hg205.wr hx9 (Nat.le_refl _),rfl⟩
     | some y205 =>
      obtain ⟨t,l205⟩:=y205
      rw [hS205] at hp205
      obtain ⟨rfl,ha205⟩:=hp205
      have hkup:=hvup_205.cells
      have hkdown:=hvdown_205.cells
      refine zgo ?_
      refine WO.put tab_ok rfl rfl rfl rfl rfl rfl rfl rfl (ChangeD.one ⟨1,up,down,t⟩) hb205 rfl fun h9 hb9 hx9 hs9=>?_
      refine zgo ?_
      exact Runs.ret Tryd.func90 (retc tab_ok Tryd.results90 rfl rfl rfl rfl rfl hb9.cells) ⟨hg205.wr hx9 (Nat.le_refl _),rfl,ha205.fr hx9 (fun e=>hne e.symm)⟩
theorem rchange_ret (b:Nat) (s l:List UInt8) (h:Heap) (hr:RdAt h b s l) (hs:s.length≤16777216) :
  Ret Tryd.prog 75 #[.pointer (some ⟨b,0,none⟩)] h fun v h'=>Fr (fun k=>k=b) h h'∧readChg b s (changeR l) v h':=by
 refine Ret.of_body Tryd.func75 rfl Tryd.ntmps75 rfl rfl ?_
 have hlt:=hr.lt
 have hne:¬ h.size=b:=by omega
 unfold changeR
 refine zgo ?_
 refine WO.alloc tab_ok rfl rfl rfl rfl rfl rfl fun h0 hb0 hx0 hs0=>?_
 have ha0:=hr.ext hx0
 have hg0:Fr (fun k=>k=b) h h0:=hx0.up
 refine zgo ?_
 refine WO.call rfl rfl rfl rfl plainTakes rfl (takes_ret b s [97,100,100,32] l _ ha0 hs (by simp)) fun v1 h1 ⟨hf1,hp1⟩=>?_
 have hb1:=hb0.fr hf1 hne
 have hg1:=hg0.trans hf1
 try dsimp only
 cases hS1:takesR [97,100,100,32] l with
 | some l1 =>
  rw [hS1] at hp1
  obtain ⟨rfl,ha1⟩:=hp1
  refine zgo ?_
  refine WO.call rfl rfl rfl rfl plain_add rfl (add_ret b s l1 _ ha1 hs) fun v7 h7 ⟨hf7,hp7⟩=>?_
  have hb7:=hb1.fr hf7 hne
  have hg7:=hg1.trans hf7
  dsimp only
  cases hC:addR l1 with
  | none =>
   rw [hC] at hp7
   unfold readChg at hp7
   subst hp7
   refine zgo ?_
   refine WO.put tab_ok rfl rfl rfl rfl rfl rfl rfl rfl (ChangeD.one chg0) hb7 rfl fun h9 hb9 hx9 hs9=>?_
   refine zgo ?_
   exact Runs.ret Tryd.func75 (retc tab_ok Tryd.results75 rfl rfl rfl rfl rfl hb9.cells) ⟨hg7.wr hx9 (Nat.le_refl _),rfl⟩
  | some y =>
   obtain ⟨c,l2⟩:=y
   rw [hC] at hp7
   obtain ⟨rfl,ha7⟩:=hp7
   refine zgo ?_
   refine WO.put tab_ok rfl rfl rfl rfl rfl rfl rfl rfl (ChangeD.one c) hb7 rfl fun h9 hb9 hx9 hs9=>?_
   refine zgo ?_
   exact Runs.ret Tryd.func75 (retc tab_ok Tryd.results75 rfl rfl rfl rfl rfl hb9.cells) ⟨hg7.wr hx9 (Nat.le_refl _),rfl,ha7.fr hx9 (fun e=>hne e.symm)⟩
 | none =>
  rw [hS1] at hp1
  obtain ⟨rfl,ha1⟩:=hp1
  refine zgo ?_
  refine WO.call rfl rfl rfl rfl plainTakes rfl (takes_ret b s [100,101,108,32] l _ ha1 hs (by simp)) fun v2 h2 ⟨hf2,hp2⟩=>?_
  have hb2:=hb1.fr hf2 hne
  have hg2:=hg1.trans hf2
  try dsimp only
  cases hS2:takesR [100,101,108,32] l with
  | some l1 =>
   rw [hS2] at hp2
   obtain ⟨rfl,ha2⟩:=hp2
   refine zgo ?_
   refine WO.call rfl rfl rfl rfl plain_del rfl (del_ret b s l1 _ ha2 hs) fun v7 h7 ⟨hf7,hp7⟩=>?_
   have hb7:=hb2.fr hf7 hne
   have hg7:=hg2.trans hf7
   dsimp only
   cases hC:delR l1 with
   | none =>
    rw [hC] at hp7
    unfold readChg at hp7
    subst hp7
    refine zgo ?_
    refine WO.put tab_ok rfl rfl rfl rfl rfl rfl rfl rfl (ChangeD.one chg0) hb7 rfl fun h9 hb9 hx9 hs9=>?_
    refine zgo ?_
    exact Runs.ret Tryd.func75 (retc tab_ok Tryd.results75 rfl rfl rfl rfl rfl hb9.cells) ⟨hg7.wr hx9 (Nat.le_refl _),rfl⟩
   | some y =>
    obtain ⟨c,l2⟩:=y
    rw [hC] at hp7
    obtain ⟨rfl,ha7⟩:=hp7
    refine zgo ?_
    refine WO.put tab_ok rfl rfl rfl rfl rfl rfl rfl rfl (ChangeD.one c) hb7 rfl fun h9 hb9 hx9 hs9=>?_
    refine zgo ?_
    exact Runs.ret Tryd.func75 (retc tab_ok Tryd.results75 rfl rfl rfl rfl rfl hb9.cells) ⟨hg7.wr hx9 (Nat.le_refl _),rfl,ha7.fr hx9 (fun e=>hne e.symm)⟩
  | none =>
   rw [hS2] at hp2
   obtain ⟨rfl,ha2⟩:=hp2
   refine zgo ?_
   refine WO.call rfl rfl rfl rfl plainTakes rfl (takes_ret b s [116,105,101,32] l _ ha2 hs (by simp)) fun v3 h3 ⟨hf3,hp3⟩=>?_
   have hb3:=hb2.fr hf3 hne
   have hg3:=hg2.trans hf3
   try dsimp only
   cases hS3:takesR [116,105,101,32] l with
   | some l1 =>
    rw [hS3] at hp3
    obtain ⟨rfl,ha3⟩:=hp3
    refine zgo ?_
    refine WO.call rfl rfl rfl rfl plain_tie rfl (tie_ret b s l1 _ ha3 hs) fun v7 h7 ⟨hf7,hp7⟩=>?_
    have hb7:=hb3.fr hf7 hne
    have hg7:=hg3.trans hf7
    dsimp only
    cases hC:tieR l1 with
    | none =>
     rw [hC] at hp7
     unfold readChg at hp7
     subst hp7
     refine zgo ?_
     refine WO.put tab_ok rfl rfl rfl rfl rfl rfl rfl rfl (ChangeD.one chg0) hb7 rfl fun h9 hb9 hx9 hs9=>?_
     refine zgo ?_
     exact Runs.ret Tryd.func75 (retc tab_ok Tryd.results75 rfl rfl rfl rfl rfl hb9.cells) ⟨hg7.wr hx9 (Nat.le_refl _),rfl⟩
    | some y =>
     obtain ⟨c,l2⟩:=y
     rw [hC] at hp7
     obtain ⟨rfl,ha7⟩:=hp7
     refine zgo ?_
     refine WO.put tab_ok rfl rfl rfl rfl rfl rfl rfl rfl (ChangeD.one c) hb7 rfl fun h9 hb9 hx9 hs9=>?_
     refine zgo ?_
     exact Runs.ret Tryd.func75 (retc tab_ok Tryd.results75 rfl rfl rfl rfl rfl hb9.cells) ⟨hg7.wr hx9 (Nat.le_refl _),rfl,ha7.fr hx9 (fun e=>hne e.symm)⟩
   | none =>
    rw [hS3] at hp3
    obtain ⟨rfl,ha3⟩:=hp3
    refine zgo ?_
    refine WO.put tab_ok rfl rfl rfl rfl rfl rfl rfl rfl (ChangeD.one chg0) hb3 rfl fun h9 hb9 hx9 hs9=>?_
    refine zgo ?_
    exact Runs.ret Tryd.func75 (retc tab_ok Tryd.results75 rfl rfl rfl rfl rfl hb9.cells) ⟨hg3.wr hx9 (Nat.le_refl _),rfl⟩
end Go.Proofs.YtlaffgagmncgjabDoor
