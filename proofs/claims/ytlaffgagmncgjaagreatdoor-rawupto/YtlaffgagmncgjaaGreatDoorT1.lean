import Derived.Test.YtlaffgagmncgjaaGreatDoorTab
set_option maxRecDepth 20000
set_option maxHeartbeats 800000
namespace Go.Proofs.YtlaffgagmncgjaaGreatDoor
open Tryz Go Go.Pat Go.Proofs
def splitL (c:UInt8):List UInt8→List (List UInt8)
 | []=>[[]]
 | x::r=>if x=c then []::splitL c r else
  match splitL c r with
  | p::ps=>(x::p)::ps
  | []=>[[x]]
def consPre (p:List UInt8):List (List UInt8)→List (List UInt8)
 | []=>[p]
 | q::qs=>(p++q)::qs
theorem splitL_ne (c:UInt8) (l:List UInt8):splitL c l≠[]:=by
 cases l with
 | nil=>simp [splitL]
 | cons x r=>simp only [splitL];split<;>(try split)<;>simp
theorem consPre_snoc {c x:UInt8} (hx:x≠c) (p r:List UInt8):consPre p (splitL c (x::r))=consPre (p++[x]) (splitL c r):=by
 simp only [splitL,if_neg hx]
 cases h:splitL c r with
 | nil=>exact absurd h (splitL_ne c r)
 | cons q qs=>simp [consPre]
structure SX where
 (i fr:Nat) (v:Value) (ps:List (List UInt8))
theorem split_ret (l:List UInt8) (c:UInt8) (h:Heap) (hl:l.length≤16777216):Ret Tryz.prog 113 #[.string (str l),.int .u8 (c.toNat:Int)] h fun v h' =>
  Ext h h'∧Own h' 9 1 v (splitL c l).length (strs (splitL c l))∧Moved h (.slice none 0 0) v:=by
 refine Ret.of_body func113 rfl ntmps113 rfl rfl ?_
 refine zgo ?_
 refine Runs.loop (X:=SX) (fun x=>[(0,.string (str l)),(1,.int .u8 (c.toNat:Int)),(5,x.v),(6,.int .i64 (x.fr:Int)),(7,.int .i64 (x.i:Int))])
  (fun x h'=>Ext h h'∧Own h' 9 1 x.v x.ps.length (strs x.ps)∧Moved h (.slice none 0 0) x.v∧x.fr≤x.i∧x.i≤l.length∧x.ps.length≤x.i∧splitL c l=x.ps++consPre ((l.take x.i).drop x.fr) (splitL c (l.drop x.i)))
  (fun x=>l.length-x.i) ⟨0,0,.slice none 0 0,[]⟩ ⟨rfl,rfl,rfl,rfl,rfl,trivial⟩ ⟨Fr.refl _ _,Own.nil _ _ _,by intro k hk;simp [Value.ownBlock] at hk,Nat.le_refl _,Nat.zero_le _,Nat.le_refl _,?_⟩ ?_
 ·simp only [List.take_zero,List.drop_nil,List.drop_zero,List.nil_append]
  cases hs:splitL c l with
  | nil=>exact absurd hs (splitL_ne c l)
  | cons q qs=>rfl
 rintro ⟨i,fr,v,ps⟩ h1 ⟨hx,hown,hmv,hfi,hil,hpi,hspec⟩ ih
 dsimp only at hx hown hmv hfi hil hpi hspec ih ⊢
 refine zgo ?_
 refine Runs.cond_dec rfl (fun hlt=>?_) (fun hge=>?_)
 ·have hlt':i<l.length:=by omega
  obtain ⟨x,hget⟩:∃ x,l[i]? = some x:=⟨l[i],List.getElem?_eq_getElem hlt'⟩
  refine zgo ?_
  refine Runs.cond_dec rfl (fun heq=>?_) (fun hne=>?_)
  ·refine zgo ?_
   refine zh (one_str _) hown ?_
   intro v' h' q1 q2 q3
   refine zgo ?_
   have hxc:x=c:=UInt8.toNat.inj (by omega)
   refine ih ⟨i+1,i+1,v',ps++[(l.take i).drop fr]⟩ _ _ (by dsimp only;omega) ⟨rfl,rfl,rfl,rfl,rfl,trivial⟩ ⟨hx.trans_new (q2.mono ?_),by simpa [strs] using q1,?_,Nat.le_refl _,hlt',by simp;omega,?_⟩
   ·intro k _ hk;right;have:=hmv k hk;simpa [Value.ownBlock] using this
   ·intro k hk
    right
    rcases q3 k hk with e | e
    ·have:=hmv k e;simpa [Value.ownBlock] using this
    ·have:=hx.size;omega
   ·rw [hspec,List.drop_eq_getElem_cons hlt']
    have:l[i]=c:=by rw [List.getElem?_eq_getElem hlt'] at hget;cases hget;exact hxc
    rw [this]
    have hd:List.drop (i+1) (List.take (i+1) l)=[]:=by simp
    simp only [splitL,if_true,consPre,List.append_nil,hd]
    cases hs:splitL c (List.drop (i+1) l) with
    | nil=>exact absurd hs (splitL_ne c _)
    | cons q qs=>simp
  ·refine zgo ?_
   refine ih ⟨i+1,fr,v,ps⟩ _ _ (by dsimp only;omega) ⟨rfl,rfl,rfl,rfl,rfl,trivial⟩ ⟨hx,hown,hmv,by dsimp only;omega,hlt',by dsimp only;omega,?_⟩
   have hxc:x≠c:=fun e=>hne (by rw [e])
   have hxe:l[i]=x:=by rw [List.getElem?_eq_getElem hlt'] at hget;cases hget;rfl
   rw [hspec,List.drop_eq_getElem_cons hlt',hxe,consPre_snoc hxc]
   congr 2
   rw [List.take_succ_eq_append_getElem hlt',hxe,List.drop_append_of_le_length (by simp;omega)]
 ·refine zgo ?_
  refine zh (one_str _) hown ?_
  intro v' h' q1 q2 q3
  refine zgo ?_
  have hi:i=l.length:=by omega
  subst hi
  have hfin:splitL c l=ps++[l.drop fr]:=by rw [hspec];simp [splitL,consPre]
  refine Runs.ret func113 (ret1 results113 rfl) ⟨hx.trans_new (q2.mono ?_),?_,?_⟩
  ·intro k _ hk;right;have:=hmv k hk;simpa [Value.ownBlock] using this
  ·rw [hfin];simpa [strs] using q1
  ·intro k hk
   right
   rcases q3 k hk with e | e
   ·have:=hmv k e;simpa [Value.ownBlock] using this
   ·have:=hx.size;omega
end Go.Proofs.YtlaffgagmncgjaaGreatDoor
namespace Go.Proofs.YtlaffgagmncgjaaGreatDoor
open Tryz Go Go.Pat Go.Proofs
theorem among_ret (l:List Nat) (x:Nat) (v:Value) (h:Heap) (hl:l.length≤16777216) (hr:Rd h 1 v l.length (ints l)):Ret Tryz.prog 140 #[v,.int .i64 (x:Int)] h fun r h' =>
  r = .bool (decide (x∈l))∧h'=h:=by
 obtain ⟨ad,cap,hv⟩:=hr.form
 subst hv
 refine Ret.of_body func140 rfl ntmps140 rfl rfl ?_
 refine zgo ?_
 refine Runs.loop (X:=Nat) (fun i=>[(1,.int .i64 (x:Int)),(4,.bool false),(7,.slice ad l.length cap),(8,.int .i64 (l.length:Int)),(9,.int .i64 (i:Int))])
  (fun i h'=>h'=h∧i≤l.length∧x∉l.take i) (fun i=>l.length-i) 0 ⟨rfl,rfl,rfl,rfl,rfl,trivial⟩ ⟨rfl,Nat.zero_le _,by simp⟩ ?_
 rintro i h1 ⟨rfl,hi,hnot⟩ ih
 refine zgo ?_
 refine Runs.cond_dec rfl (fun hlt=>?_) (fun hge=>?_)
 ·have hlt':i<l.length:=by omega
  obtain ⟨y,hget⟩:∃ y,l[i]? = some y:=⟨l[i],List.getElem?_eq_getElem hlt'⟩
  obtain ⟨b,p,cap',hv,hcap,hcell⟩:=hr.cell (ints_get hget)
  cases hv
  refine zgo ?_
  refine Runs.cond_dec rfl (fun heq=>?_) (fun hne=>?_)
  ·refine zgo ?_
   refine Runs.ret func140 (ret1 results140 rfl) ⟨?_,rfl⟩
   have:x∈l:=by
    have h1:y=x:=by omega
    rw [← h1];exact List.mem_of_getElem? hget
   simp [this]
  ·refine zgo ?_
   refine ih (i+1) _ _ (by omega) ⟨rfl,rfl,rfl,rfl,rfl,trivial⟩ ⟨rfl,by omega,?_⟩
   rw [List.take_succ_eq_append_getElem hlt']
   have:l[i]=y:=by rw [List.getElem?_eq_getElem hlt'] at hget;cases hget;rfl
   simp only [List.mem_append,List.mem_singleton,this,not_or]
   exact ⟨hnot,by omega⟩
 ·refine zgo ?_
  refine Runs.ret func140 (ret1 results140 rfl) ⟨?_,rfl⟩
  rw [List.take_of_length_le (by omega)] at hnot
  simp [hnot]
def numAcc (acc:Nat):List UInt8→Option Nat
 | []=>some acc
 | c::r=>if c.toNat<48∨57<c.toNat then none else numAcc (10*acc+(c.toNat-48)) r
def numberS (w:List UInt8):Option Nat:=if w.length<1∨4<w.length∨(1<w.length∧w[0]? = some 48) then none else numAcc 0 w
theorem numAcc_lt {i n:Nat} (h:n<10 ^ i) {x:UInt8} (h1:¬ x.toNat<48) (h2:¬ 57<x.toNat):10*n+(x.toNat-48)<10 ^ (i+1):=by
 rw [Nat.pow_succ];omega
theorem number_ret (l:List UInt8) (h:Heap) (hl:l.length≤16777216):Ret Tryz.prog 114 #[.string (str l)] h fun r h' =>
  r = .tuple #[.int .i64 (((numberS l).getD 0:Nat):Int),.bool (numberS l).isSome]∧h'=h:=by
 refine Ret.of_body func114 rfl ntmps114 rfl rfl ?_
 refine zgo ?_
 refine WO.join (fun env' h'=>h=h'∧∃ b,Sub [(0,.string (str l)),(23,.bool b)] env'∧(b=true↔(l.length<1∨4<l.length∨(1<l.length∧l[0]? = some 48)))) ?_ ?_
 ·refine WO.split 9 _ rfl (fun h1=>?_) (fun h1=>?_)
  ·have h1:=of_decide_eq_true h1
   refine zgo ?_
   exact ⟨rfl,_,⟨rfl,rfl,trivial⟩,⟨fun _=>.inl (by omega),fun _=>rfl⟩⟩
  ·have h1:=of_decide_eq_false h1
   refine zgo ?_
   refine WO.split 14 _ rfl (fun h2=>?_) (fun h2=>?_)
   ·have h2:=of_decide_eq_true h2
    refine zgo ?_
    exact ⟨rfl,_,⟨rfl,rfl,trivial⟩,⟨fun _=>.inr (.inl (by omega)),fun _=>rfl⟩⟩
   ·have h2:=of_decide_eq_false h2
    have hget:l[0]? = some l[0]:=List.getElem?_eq_getElem (by omega)
    refine zgo ?_
    refine WO.split 18 _ rfl (fun h3=>?_) (fun h3=>?_)
    ·have h3:=of_decide_eq_true h3
     refine zgo ?_
     refine ⟨rfl,_,⟨rfl,rfl,trivial⟩,?_⟩
     have e:(l[0]=48)↔((l[0].toNat:Int)=48):=⟨fun e=>by rw [e];rfl,fun e=>UInt8.toNat.inj (by simpa using (show l[0].toNat=48 by omega))⟩
     rw [hget,decide_eq_true_iff,Option.some.injEq,e]
     omega
    ·have h3:=of_decide_eq_false h3
     refine zgo ?_
     exact ⟨rfl,_,⟨rfl,rfl,trivial⟩,⟨fun e=>(by cases e),fun e=>by omega⟩⟩
 rintro env' _ ⟨rfl,b,hsub,hb⟩
 refine Runs.sub hsub ?_
 refine zgo ?_
 refine Runs.cond rfl (fun hbt=>?_) (fun hbf=>?_)
 ·refine zgo ?_
  refine Runs.ret func114 (ret2 results114 rfl rfl) ⟨?_,rfl⟩
  have:numberS l=none:=by unfold numberS;rw [if_pos (hb.1 hbt)]
  rw [this];rfl
 ·have hns:numberS l=numAcc 0 l:=by unfold numberS;rw [if_neg];rw [← hb,hbf];simp
  have hlen:l.length≤4:=by
   have:¬ (l.length<1∨4<l.length∨(1<l.length∧l[0]? = some 48)):=by rw [← hb,hbf];simp
   omega
  refine zgo ?_
  refine Runs.loop (X:=Nat × Nat) (fun x=>[(0,.string (str l)),(4,.int .i64 (x.2:Int)),(5,.int .i64 (x.1:Int))])
   (fun x h'=>h=h'∧x.1≤l.length∧x.2<10 ^ x.1∧numAcc 0 l=numAcc x.2 (l.drop x.1)) (fun x=>l.length-x.1) (0,0) ⟨rfl,rfl,rfl,trivial⟩ ⟨rfl,Nat.zero_le _,by simp,by simp⟩ ?_
  rintro ⟨i,m⟩ _ ⟨rfl,hi,hm,hspec⟩ ih
  dsimp only at hi hm hspec ih ⊢
  have hm':m<10000:=Nat.lt_of_lt_of_le hm (Nat.pow_le_pow_right (by omega) (by omega:i≤4))
  refine zgo ?_
  refine Runs.cond_dec rfl (fun hlt=>?_) (fun hge=>?_)
  ·have hlt':i<l.length:=by omega
   have hget:l[i]? = some l[i]:=List.getElem?_eq_getElem hlt'
   have hx:=UInt8.toNat_lt l[i]
   have hstep:numAcc m (l.drop i)=if l[i].toNat<48∨57<l[i].toNat then none else numAcc (10*m+(l[i].toNat-48)) (l.drop (i+1)):=by
    rw [List.drop_eq_getElem_cons hlt'];rfl
   generalize hxe:l[i]=x at *
   refine zgo ?_
   refine WO.join (fun env' h'=>h=h'∧∃ b,Sub [(0,.string (str l)),(4,.int .i64 (m:Int)),(5,.int .i64 (i:Int)),(39,.bool b)] env'∧(b=true↔(x.toNat<48∨57<x.toNat))) ?_ ?_
   ·refine WO.split 34 _ rfl (fun h1=>?_) (fun h1=>?_)
    ·have h1:=of_decide_eq_true h1
     refine zgo ?_
     exact ⟨rfl,_,⟨rfl,rfl,rfl,rfl,trivial⟩,by first | (rw [decide_eq_true_iff];omega) | exact ⟨fun _=>by omega,fun _=>rfl⟩⟩
    ·have h1:=of_decide_eq_false h1
     refine zgo ?_
     exact ⟨rfl,_,⟨rfl,rfl,rfl,rfl,trivial⟩,by first | (rw [decide_eq_true_iff];omega) | exact ⟨fun _=>by omega,fun _=>rfl⟩⟩
   rintro env' _ ⟨rfl,b,hsub,hb⟩
   refine Runs.sub hsub ?_
   refine zgo ?_
   refine Runs.cond rfl (fun hbt=>?_) (fun hbf=>?_)
   ·refine zgo ?_
    refine Runs.ret func114 (ret2 results114 rfl rfl) ⟨?_,rfl⟩
    have:numberS l=none:=by rw [hns,hspec,hstep,if_pos (hb.1 hbt)]
    rw [this];rfl
   ·have hnb:¬ (x.toNat<48∨57<x.toNat):=by rw [← hb,hbf];simp
    refine zgo ?_
    refine ih (i+1,10*m+(x.toNat-48)) _ _ (by dsimp only;omega) ⟨rfl,?_,rfl,trivial⟩ ⟨rfl,by dsimp only;omega,numAcc_lt hm (by omega) (by omega),?_⟩
    ·show some _=some _
     congr 2
     omega
    ·dsimp only;rw [hspec,hstep,if_neg hnb]
  ·refine zgo ?_
   refine Runs.ret func114 (ret2 results114 rfl rfl) ⟨?_,rfl⟩
   have:numberS l=some m:=by rw [hns,hspec,List.drop_eq_nil_of_le (by omega)];rfl
   rw [this];rfl
end Go.Proofs.YtlaffgagmncgjaaGreatDoor
namespace Go.Proofs.YtlaffgagmncgjaaGreatDoor
open Tryz Go Go.Pat Go.Proofs
theorem plain101:Plain Tryz.prog 113:=⟨_,func113,by decide +kernel,by rfl⟩
theorem plain102:Plain Tryz.prog 114:=⟨_,func114,by decide +kernel,by rfl⟩
def lineS (w edge:List UInt8):Option RefD :=
 if edge≠[]∧w=edge then some (if edge=[94] then ⟨0,0⟩ else ⟨0,1⟩) else
 match splitL 46 w with
 | [a,b]=>match numberS a,numberS b with
  | some p,some i=>if 0<p then some ⟨p,i⟩ else none
  | _,_=>none
 | _=>none
theorem splitL_len (c:UInt8) (l:List UInt8):((splitL c l).map fun p=>p.length+1).sum=l.length+1:=by
 induction l with
 | nil=>simp [splitL]
 | cons x r ih =>
  simp only [splitL]
  split
  ·simp [ih];omega
  ·split
   ·rename_i p ps h;rw [h] at ih;simp at ih ⊢;omega
   ·rename_i h;exact absurd h (splitL_ne c r)
theorem line_ret (wd edge:List UInt8) (h:Heap) (hl:wd.length≤16777216):Ret Tryz.prog 152 #[.string (str wd),.string (str edge)] h fun v h' =>
  Ext h h'∧∃ r:RefD,v = .tuple #[.agg r.cells.toArray,.bool (lineS wd edge).isSome]∧∀ r',lineS wd edge=some r'→r=r':=by
 refine Ret.of_body func152 rfl ntmps152 rfl rfl ?_
 refine zgo ?_
 refine WO.alloc tab_ok rfl rfl rfl rfl rfl rfl fun h1 hb1 hx1 hs1=>?_
 refine zgo ?_
 refine WO.join (fun env' h'=>h1=h'∧∃ b,Sub [(0,.string (str wd)),(1,.string (str edge)),(4,.pointer (some ⟨h.size,0,none⟩)),(17,.bool b)] env'∧(b=true↔(edge≠[]∧wd=edge))) ?_ ?_
 ·refine WO.split 13 _ rfl (fun q1=>?_) (fun q1=>?_)
  ·have q1:¬ edge=[]:=by simpa using q1
   refine zgo ?_
   exact ⟨rfl,_,⟨rfl,rfl,rfl,rfl,trivial⟩,by simp [q1]⟩
  ·have q1:edge=[]:=by simpa using q1
   refine zgo ?_
   exact ⟨rfl,_,⟨rfl,rfl,rfl,rfl,trivial⟩,by simp [q1]⟩
 rintro env' _ ⟨rfl,b,hsub,hb⟩
 refine Runs.sub hsub ?_
 refine zgo ?_
 refine Runs.cond rfl (fun hbt=>?_) (fun hbf=>?_)
 ·have hb':=hb.1 hbt
  refine zgo ?_
  refine Runs.cond_dec rfl (fun q2=>?_) (fun q2=>?_)
  ·refine zgo ?_
   refine zt (one2 _ _) hb1 fun h2 hb2 hx2 hs2=>?_
   refine zgo ?_
   refine Runs.ret func152 (retc tab_ok results152 rfl rfl rfl rfl rfl hb2.cells) ⟨hx1.trans_new (hx2.mono (by intro k _ e;right;omega)),⟨0,0⟩,?_,?_⟩
   ·simp [lineS,hb',q2,RefD.cells]
   ·intro r' e;simp [lineS,hb',q2] at e;exact e
  ·refine zgo ?_
   refine zt (one2 _ _) hb1 fun h2 hb2 hx2 hs2=>?_
   refine zgo ?_
   refine Runs.ret func152 (retc tab_ok results152 rfl rfl rfl rfl rfl hb2.cells) ⟨hx1.trans_new (hx2.mono (by intro k _ e;right;omega)),⟨0,1⟩,?_,?_⟩
   ·simp [lineS,hb',q2,RefD.cells]
   ·intro r' e;simp [lineS,hb',q2] at e;exact e
 ·have hnb:¬ (edge≠[]∧wd=edge):=by rw [← hb,hbf];simp
  have hls:lineS wd edge=match splitL 46 wd with
   | [a,b]=>match numberS a,numberS b with
    | some p,some i=>if 0<p then some ⟨p,i⟩ else none
    | _,_=>none
   | _=>none:=by unfold lineS;rw [if_neg hnb]
  refine zgo ?_
  refine WO.call rfl rfl rfl rfl plain101 rfl (split_ret wd 46 _ hl) fun v h2 ⟨hx2,ho2,hm2⟩=>?_
  obtain ⟨ad,cap,hv⟩:=ho2.rd.form
  subst hv
  have hb2:=hb1.ext hx2
  refine zgo ?_
  refine Runs.cond_ndec rfl (fun q2=>?_) (fun q2=>?_)
  ·refine zgo ?_
   refine zt (one2 _ _) hb2 fun h3 hb3 hx3 hs3=>?_
   refine zgo ?_
   have hnone:lineS wd edge=none:=by
    rw [hls]
    split
    ·rename_i a b e;rw [e] at q2;simp at q2
    ·rfl
   refine Runs.ret func152 (retc tab_ok results152 rfl rfl rfl rfl rfl hb3.cells) ⟨(hx1.trans hx2).trans_new (hx3.mono (by intro k _ e;right;omega)),⟨0,0⟩,?_,?_⟩
   ·rw [hnone];simp [RefD.cells]
   ·intro r' e;rw [hnone] at e;cases e
  ·obtain ⟨a,b',hab⟩:∃ a b',splitL 46 wd=[a,b']:=by
    match hq:splitL 46 wd,q2 with
    | [a,b'],_=>exact ⟨a,b',rfl⟩
    | [],q2=>simp at q2
    | [a],q2=>simp at q2
    | a::b::c::r,q2=>simp at q2;omega
   rw [hab] at ho2 hls
   have hla:a.length≤16777216∧b'.length≤16777216:=by
    have:=splitL_len 46 wd
    rw [hab] at this
    simp at this;omega
   rw [hab]
   obtain ⟨b0,p0,cap',hv,hcap,hc0⟩:=ho2.rd.cell (strs_get (i:=0) (x:=a) rfl)
   obtain ⟨b1,p1,cap1,hv1,hcap1,hc1⟩:=ho2.rd.cell (strs_get (i:=1) (x:=b') rfl)
   cases hv
   cases hv1
   refine zgo ?_
   refine WO.call rfl rfl rfl rfl plain102 rfl (number_ret a _ hla.1) fun v h3 ⟨hv3,hh3⟩=>?_
   subst hv3 hh3
   refine zgo ?_
   refine WO.call rfl rfl rfl rfl plain102 rfl (number_ret b' _ hla.2) fun v h3 ⟨hv3,hh3⟩=>?_
   subst hv3 hh3
   refine zgo ?_
   have hx3:Ext h h3:=hx1.trans hx2
   rcases hna:numberS a with _ | p<;>rcases hnb':numberS b' with _ | i
   all_goals
    refine zgo ?_
    refine zt (one2 _ _) hb2 fun h4 hb4 hx4 hs4=>?_
    refine zgo ?_
    refine Runs.ret func152 (retc tab_ok results152 rfl rfl rfl rfl rfl hb4.cells) ⟨hx3.trans_new (hx4.mono (by intro k _ e;right;omega)),?_⟩
    rw [hls]
    simp only [hna,hnb']
   ·exact ⟨⟨0,0⟩,rfl,fun r' e=>by cases e⟩
   ·exact ⟨⟨0,i⟩,rfl,fun r' e=>by cases e⟩
   ·exact ⟨⟨p,0⟩,rfl,fun r' e=>by cases e⟩
   ·refine ⟨⟨p,i⟩,?_,fun r' e=>?_⟩
    ·by_cases hp:0<p
     ·have:(0:Int)<(p:Int):=by omega
      simp [hp,RefD.cells]
     ·have:p=0:=by omega
      subst this
      simp [RefD.cells]
    ·split at e
     ·cases e;rfl
     ·cases e
end Go.Proofs.YtlaffgagmncgjaaGreatDoor
