import Derived.Test.YtlaffgagmncgjabDoorRdr
set_option maxRecDepth 20000
set_option maxHeartbeats 1600000
namespace Go.Proofs.YtlaffgagmncgjabDoor
open Go Go.Pat Go.Proofs
theorem plainTakes:Plain Tryd.prog 73:=⟨_,Tryd.func73,by decide +kernel,by rfl⟩
theorem plainNumber:Plain Tryd.prog 89:=⟨_,Tryd.func89,by decide +kernel,by rfl⟩
theorem plainName:Plain Tryd.prog 74:=⟨_,Tryd.func74,by decide +kernel,by rfl⟩
def RdAt (h:Heap) (b:Nat) (s l:List UInt8):Prop:=∃ a:Nat,a≤s.length∧s.drop a=l∧Blk h b [.string (str s),.int .i64 (a:Int)] 96
def taken (b:Nat) (s l:List UInt8) (o:Option (List UInt8)) (v:Value) (h':Heap):Prop:=match o with
 | some r=>v = .bool true∧RdAt h' b s r
 | none=>v = .bool false∧RdAt h' b s l
theorem take_drop_eq (s:List UInt8) (a n:Nat):(s.drop a).take n=(s.take (a+n)).drop a:=by
 rw [List.drop_take];congr 1;omega
theorem takes_ret (b:Nat) (s w l:List UInt8) (h:Heap) (hr:RdAt h b s l) (hs:s.length≤16777216) (hw:w.length≤16777216) :
  Ret Tryd.prog 73 #[.pointer (some ⟨b,0,none⟩),.string (str w)] h fun v h'=>Fr (fun k=>k=b) h h'∧taken b s l (takesR w l) v h':=by
 refine Ret.of_body Tryd.func73 rfl Tryd.ntmps73 rfl rfl ?_
 have hr0:=hr
 obtain ⟨a,ha,hl,hb⟩:=hr
 have f0:=hb.cell (j:=0) rfl
 have f1:=hb.cell (j:=1) rfl
 have htk:l.take w.length=(s.take (a+w.length)).drop a:=by rw [← hl];exact take_drop_eq s a w.length
 refine zgo ?_
 by_cases hgt:(s.length:Int)<(a:Int)+(w.length:Int)
 ·have hd:decide ((s.length:Int)<(a:Int)+(w.length:Int))=true:=by simpa using hgt
  refine Runs.still mixed (by kernel_rfl) ?_
  refine zws ?_
  rw [hd]
  refine zws ?_
  refine zgo ?_
  refine Runs.ret Tryd.func73 (ret1 Tryd.results73 rfl) ⟨Fr.refl _ _,?_⟩
  have:takesR w l=none:=by
   unfold takesR
   rw [if_neg]
   intro e
   have:=congrArg List.length e
   rw [List.length_take,← hl,List.length_drop] at this
   omega
  rw [this]
  exact ⟨rfl,hr0⟩
 ·have hd:decide ((s.length:Int)<(a:Int)+(w.length:Int))=false:=by simpa using hgt
  refine Runs.still mixed (by kernel_rfl) ?_
  refine zws ?_
  rw [hd]
  refine zws ?_
  refine Runs.cond_ndec rfl (fun hne=>?_) (fun heq=>?_)
  ·refine zgo ?_
   refine Runs.ret Tryd.func73 (ret1 Tryd.results73 rfl) ⟨Fr.refl _ _,?_⟩
   have:takesR w l=none:=by
    unfold takesR
    rw [if_neg]
    rw [htk];exact hne
   rw [this]
   exact ⟨rfl,hr0⟩
  ·refine zgo ?_
   refine WO.put tab_ok rfl rfl rfl rfl rfl rfl rfl rfl (one_int _) hb rfl fun h1 hb1 hx1 hs1=>?_
   refine zgo ?_
   refine Runs.ret Tryd.func73 (ret1 Tryd.results73 rfl) ⟨hx1,?_⟩
   have:takesR w l=some (l.drop w.length):=by
    unfold takesR
    rw [if_pos]
    rw [htk];exact heq
   rw [this]
   exact ⟨rfl,a+w.length,by omega,by rw [← hl,List.drop_drop],hb1⟩
theorem span_at {p:UInt8→Bool} {l:List UInt8} {k:Nat} (h1:∀ x∈l.take k,p x=true) (h2:∀ x,l[k]? = some x→p x=false):l.takeWhile p=l.take k∧l.dropWhile p=l.drop k:=by
 have:=span_all (p:=p) (w:=l.take k) (m:=l.drop k) h1 (fun x hx=>h2 x (by rw [List.head?_drop] at hx;exact hx))
 rwa [List.take_append_drop] at this
theorem numAcc_snoc {w:List UInt8} {c:UInt8} {a n:Nat} (h:numAcc a w=some n) (hc:isDig c=true):numAcc a (w++[c])=some (10*n+(c.toNat-48)):=by
 induction w generalizing a with
 | nil =>
  simp [numAcc] at h;subst h
  simp [isDig] at hc
  simp [numAcc];omega
 | cons x w ih =>
  simp only [numAcc,List.cons_append] at h ⊢
  split at h
  ·cases h
  ·rename_i hx;rw [if_neg hx];exact ih h
theorem takeWhile_prefix {p:UInt8→Bool} {l:List UInt8} {k:Nat} (h1:∀ x∈l.take k,p x=true) (hk:k≤l.length):k≤(l.takeWhile p).length:=by
 induction l generalizing k with
 | nil=>simp at hk;omega
 | cons x l ih =>
  cases k with
  | zero=>simp
  | succ k =>
   have hx:=h1 x (by simp)
   have:=ih (k:=k) (fun y hy=>h1 y (by simp [hy])) (by simp at hk;omega)
   simp [hx];omega
theorem num_long {l:List UInt8} (h1:∀ x∈l.take 5,isDig x=true) (hk:5≤l.length):numR l=none:=by
 have:=takeWhile_prefix h1 hk
 unfold numR numberS
 rw [if_pos (by omega)]
def readN (b:Nat) (s:List UInt8) (o:Option (Nat × List UInt8)) (v:Value) (h':Heap):Prop:=match o with
 | some (n,r)=>v = .tuple #[.int .i64 (n:Int),.bool true]∧RdAt h' b s r
 | none=>v = .tuple #[.int .i64 0,.bool false]
def digAt (l:List UInt8) (k:Nat):Bool:=match l[k]? with
 | some c=>isDig c
 | none=>false
structure KN where
 (k n:Nat)
theorem rnum_ret (b:Nat) (s l:List UInt8) (h:Heap) (hr:RdAt h b s l) (hs:s.length≤16777216) :
  Ret Tryd.prog 89 #[.pointer (some ⟨b,0,none⟩)] h fun v h'=>Fr (fun k=>k=b) h h'∧readN b s (numR l) v h':=by
 refine Ret.of_body Tryd.func89 rfl Tryd.ntmps89 rfl rfl ?_
 obtain ⟨a,ha,hl,hb⟩:=hr
 have f1:=hb.cell (j:=1) rfl
 refine zgo ?_
 refine Runs.loop (X:=KN) (fun x=>[(0,.pointer (some ⟨b,0,none⟩)),(4,.int .i64 (a:Int)),(5,.int .i64 (x.n:Int))])
  (fun x h'=>Fr (fun k=>k=b) h h'∧Blk h' b [.string (str s),.int .i64 ((a+x.k:Nat):Int)] 96∧a+x.k≤s.length∧x.k≤4∧(∀ y∈l.take x.k,isDig y=true)∧numAcc 0 (l.take x.k)=some x.n∧x.n<10 ^ x.k)
  (fun x=>5-x.k) ⟨0,0⟩ ⟨rfl,rfl,rfl,trivial⟩ ⟨Fr.refl _ _,hb,ha,by dsimp only;omega,by simp,by simp [numAcc],by simp⟩ ?_
 rintro ⟨k,n⟩ h1 ⟨hf1,hb1,hk,hk4,hdig,hacc,hn⟩ ih
 dsimp only at hf1 hb1 hk hk4 hdig hacc hn ih ⊢
 have hn4:n<10000:=Nat.lt_of_lt_of_le hn (Nat.pow_le_pow_right (by omega) hk4)
 have g0:=hb1.cell (j:=0) rfl
 have g1:=hb1.cell (j:=1) rfl
 have hlk:l[k]? = s[a+k]?:=by rw [← hl,List.getElem?_drop]
 have hcell:∀ c,l[k]? = some c→s[a+k]? = some c:=fun c hc=>by rw [← hlk];exact hc
 refine zgo ?_
 refine Runs.still mixed (by kernel_rfl) ?_
 refine WS.join (fun env'=>Sub [(0,.pointer (some ⟨b,0,none⟩)),(4,.int .i64 (a:Int)),(5,.int .i64 (n:Int)),(44,.bool (digAt l k))] env') ?_ ?_
 ·by_cases hin:a+k<s.length
  ·have hc:s[a+k]? = some s[a+k]:=List.getElem?_eq_getElem hin
   generalize s[a+k]=c at *
   have hd0:decide (((a+k:Nat):Int)<(s.length:Int))=true:=decide_eq_true (by omega)
   have hda:digAt l k=(decide ((48:Int)≤(c.toNat:Int))&&decide ((c.toNat:Int)≤57)):=by
    unfold digAt;rw [hlk,hc];simp only [isDig];rw [Bool.eq_iff_iff];simp;omega
   rw [hda]
   refine zws ?_
   rw [hd0]
   refine zws ?_
   by_cases h48:(48:Int)≤(c.toNat:Int)
   ·have hd1:decide ((48:Int)≤(c.toNat:Int))=true:=decide_eq_true h48
    rw [hd1]
    refine zws ?_
    exact ⟨rfl,rfl,rfl,rfl,trivial⟩
   ·have hd1:decide ((48:Int)≤(c.toNat:Int))=false:=decide_eq_false h48
    rw [hd1]
    refine zws ?_
    exact ⟨rfl,rfl,rfl,rfl,trivial⟩
  ·have hd0:decide (((a+k:Nat):Int)<(s.length:Int))=false:=decide_eq_false (by omega)
   have hda:digAt l k=false:=by
    unfold digAt;rw [hlk,List.getElem?_eq_none (by omega)]
   rw [hda]
   refine zws ?_
   rw [hd0]
   refine zws ?_
   exact ⟨rfl,rfl,rfl,rfl,trivial⟩
 intro env' hsub
 refine Runs.sub hsub ?_
 clear hsub env'
 refine Runs.cond rfl (fun hq=>?_) (fun hq=>?_)
 ·obtain ⟨c,hc0,hcd⟩:∃ c,l[k]? = some c∧isDig c=true:=by
   unfold digAt at hq
   split at hq
   ·rename_i c e;exact ⟨c,e,hq⟩
   ·cases hq
  have hc:=hcell c hc0
  have hin:a+k<s.length:=(List.getElem?_eq_some_iff.1 hc).1
  have hkl:k<l.length:=(List.getElem?_eq_some_iff.1 hc0).1
  have htk:l.take (k+1)=l.take k++[c]:=by
   rw [List.take_succ_eq_append_getElem hkl]
   rw [List.getElem?_eq_getElem hkl] at hc0
   cases hc0;rfl
  have hdig':∀ y∈l.take (k+1),isDig y=true:=by
   intro y hy
   rw [htk] at hy
   rcases List.mem_append.1 hy with e | e
   ·exact hdig y e
   ·simp at e;rw [e];exact hcd
  have hacc':=numAcc_snoc hacc hcd
  rw [← htk] at hacc'
  have hcr:48≤c.toNat∧c.toNat≤57:=by simp [isDig] at hcd;omega
  refine zgo ?_
  refine Runs.cond_dec rfl (fun h4=>?_) (fun h4=>?_)
  ·have hk4':k=4:=by omega
   subst hk4'
   refine zgo ?_
   refine Runs.ret Tryd.func89 (ret2 Tryd.results89 rfl rfl) ⟨hf1,?_⟩
   rw [num_long hdig' (by omega)]
   rfl
  ·have hk3:k<4:=by omega
   refine zgo ?_
   refine Runs.still mixed (by kernel_rfl) ?_
   refine zws ?_
   refine WS.val (ov_sub rfl rfl rfl (in_u8 (by omega) (by omega))) rfl rfl rfl ?_
   refine zws ?_
   have e:(n:Int)*10+((c.toNat:Int)-48)=((10*n+(c.toNat-48):Nat):Int):=by omega
   rw [e]
   refine zgo ?_
   refine WO.put tab_ok rfl rfl rfl rfl rfl rfl rfl rfl (one_int _) hb1 rfl fun h2 hb2 hx2 hs2=>?_
   refine zgo ?_
   refine ih ⟨k+1,10*n+(c.toNat-48)⟩ _ _ (by dsimp only;omega) ⟨rfl,rfl,rfl,trivial⟩ ⟨hf1.trans hx2,hb2,by dsimp only;omega,by dsimp only;omega,hdig',hacc',?_⟩
   dsimp only
   rw [Nat.pow_succ];omega
 ·have hno:∀ x,l[k]? = some x→isDig x=false:=fun x hx=>by
   unfold digAt at hq
   rw [hx] at hq
   exact hq
  obtain ⟨s1,s2⟩:=span_at hdig hno
  have hlen:(l.take k).length=k:=by rw [List.length_take,← hl,List.length_drop];omega
  have hbad:(k=0∨1<k∧l[0]? = some 48)→numR l=none:=fun hbad=>by
   unfold numR numberS
   rw [s1,s2,hlen,if_pos (by
    rcases hbad with e | ⟨e1,e2⟩
    ·left;omega
    ·right;right;exact ⟨e1,by rw [List.getElem?_take,if_pos (by omega)];exact e2⟩)]
  have hgood:¬ (k=0∨1<k∧l[0]? = some 48)→numR l=some (n,l.drop k):=fun hbad=>by
   unfold numR numberS
   rw [s1,s2,hlen,if_neg (by
    intro e
    rcases e with e | e | ⟨e1,e2⟩
    ·exact hbad (.inl (by omega))
    ·omega
    ·exact hbad (.inr ⟨e1,by rw [List.getElem?_take,if_pos (by omega)] at e2;exact e2⟩)),hacc]
  have hat:RdAt h1 b s (l.drop k):=⟨a+k,hk,by rw [← hl,List.drop_drop],hb1⟩
  refine zgo ?_
  have e0:(((a+k:Nat):Int)-(a:Int))=(k:Int):=by omega
  rw [e0]
  refine zgo ?_
  by_cases hk0:k=0
  ·have hd:decide ((k:Int)=0)=true:=decide_eq_true (by omega)
   rw [hd]
   refine zgo ?_
   refine Runs.ret Tryd.func89 (ret2 Tryd.results89 rfl rfl) ⟨hf1,?_⟩
   rw [hbad (.inl hk0)]
   rfl
  ·have hd:decide ((k:Int)=0)=false:=decide_eq_false (by omega)
   rw [hd]
   refine zgo ?_
   by_cases hk1:1<k
   ·have hd1:decide ((1:Int)<(k:Int))=true:=decide_eq_true (by omega)
    rw [hd1]
    have h0l:0<l.length:=by rw [← hl,List.length_drop];omega
    have hl0:l[0]? = some l[0]:=List.getElem?_eq_getElem h0l
    have hs0:s[a]? = some l[0]:=by rw [← hl0,← hl,List.getElem?_drop];rfl
    generalize l[0]=c at *
    refine zgo ?_
    refine Runs.cond_dec rfl (fun h48=>?_) (fun h48=>?_)
    ·refine zgo ?_
     refine Runs.ret Tryd.func89 (ret2 Tryd.results89 rfl rfl) ⟨hf1,?_⟩
     have:c=48:=UInt8.toNat_inj.1 (by show c.toNat=48;omega)
     rw [hbad (.inr ⟨hk1,by rw [hl0,this]⟩)]
     rfl
    ·refine zgo ?_
     refine Runs.ret Tryd.func89 (ret2 Tryd.results89 rfl rfl) ⟨hf1,?_⟩
     rw [hgood (fun e=>by
      rcases e with e | ⟨_,e⟩
      ·exact hk0 e
      ·rw [hl0] at e;cases e;exact h48 rfl)]
     exact ⟨rfl,hat⟩
   ·have hd1:decide ((1:Int)<(k:Int))=false:=decide_eq_false (by omega)
    rw [hd1]
    refine zgo ?_
    refine Runs.ret Tryd.func89 (ret2 Tryd.results89 rfl rfl) ⟨hf1,?_⟩
    rw [hgood (fun e=>by
     rcases e with e | ⟨e,_⟩
     ·exact hk0 e
     ·exact hk1 e)]
    exact ⟨rfl,hat⟩
theorem rname_ret (b:Nat) (s l:List UInt8) (h:Heap) (hr:RdAt h b s l) (hs:s.length≤16777216) :
  Ret Tryd.prog 74 #[.pointer (some ⟨b,0,none⟩)] h fun v h'=>Fr (fun k=>k=b) h h'∧readN b s (nameR l) v h':=by
 refine Ret.of_body Tryd.func74 rfl Tryd.ntmps74 rfl rfl ?_
 refine zgo ?_
 refine WO.call rfl rfl rfl rfl plainNumber rfl (rnum_ret b s l _ hr hs) fun v1 h1 ⟨hf1,hp1⟩=>?_
 cases hN:numR l with
 | none =>
  have hR:nameR l=none:=by simp [nameR,hN]
  rw [hN] at hp1
  unfold readN at hp1
  subst hp1
  refine zgo ?_
  exact Runs.ret Tryd.func74 (ret2 Tryd.results74 rfl rfl) ⟨hf1,by rw [hR];rfl⟩
 | some x =>
  obtain ⟨n,r⟩:=x
  rw [hN] at hp1
  obtain ⟨hv1,hat⟩:=hp1
  subst hv1
  refine zgo ?_
  refine Runs.cond_dec rfl (fun h0=>?_) (fun h0=>?_)
  ·have hR:nameR l=none:=by simp only [nameR,hN];rw [if_pos (by omega)]
   refine zgo ?_
   exact Runs.ret Tryd.func74 (ret2 Tryd.results74 rfl rfl) ⟨hf1,by rw [hR];rfl⟩
  ·have hR:nameR l=some (n,r):=by simp only [nameR,hN];rw [if_neg (by omega)]
   refine zgo ?_
   exact Runs.ret Tryd.func74 (ret2 Tryd.results74 rfl rfl) ⟨hf1,by rw [hR];exact ⟨rfl,hat⟩⟩
end Go.Proofs.YtlaffgagmncgjabDoor
