import Derived.Test.YtlaffgagmncgjabDoorP4
import Derived.Test.YtlaffgagmncgjabDoorMem3
set_option maxRecDepth 20000
set_option maxHeartbeats 1600000
namespace Go.Proofs.YtlaffgagmncgjabDoor
open Go Go.Pat Go.Proofs
theorem plain_Find:Plain Tryd.prog 44:=⟨_,Tryd.func44,by decide +kernel,by rfl⟩
theorem plain_With:Plain Tryd.prog 41:=⟨_,Tryd.func41,by decide +kernel,by rfl⟩
theorem plain_Without:Plain Tryd.prog 47:=⟨_,Tryd.func47,by decide +kernel,by rfl⟩
def cells3 (l:List PD3):List Value:=l.flatMap PD3.cells
theorem cells3_append (l m:List PD3):cells3 (l++m)=cells3 l++cells3 m:=by simp [cells3]
theorem length_cells3 (l:List PD3):(cells3 l).length=l.length*3:=by
 induction l with
 | nil=>rfl
 | cons x l ih=>simp only [cells3,List.flatMap_cons,List.length_append] at ih ⊢;rw [ih];simp [PD3.cells];omega
theorem cells3_get {h:Heap}:∀ {l:List PD3} {b p:Nat},Cells h b p (cells3 l)→∀ {i:Nat} {x:PD3},l[i]? = some x→Cells h b (p+i*3) x.cells:=by
 intro l b p hc i x hi
 have hlt:i<l.length:=(List.getElem?_eq_some_iff.1 hi).1
 intro j v hj
 have hj3:j<3:=by have:=(List.getElem?_eq_some_iff.1 hj).1;simpa [PD3.cells] using this
 have hs:l=l.take i++x::l.drop (i+1):=by
  have:=List.getElem?_eq_some_iff.1 hi
  obtain ⟨_,e⟩:=this
  rw [← e,List.getElem_cons_drop,List.take_append_drop]
 have hv:(cells3 l)[i*3+j]? = some v:=by
  rw [hs,cells3_append]
  have hl:(cells3 (l.take i)).length=i*3:=by rw [length_cells3,List.length_take];congr 1;omega
  rw [List.getElem?_append_right (by omega),hl,show i*3+j-i*3=j by omega]
  simp only [cells3,List.flatMap_cons]
  rw [List.getElem?_append_left (by simp [PD3.cells];omega)]
  exact hj
 have:=hc (i*3+j) v hv
 rw [← Nat.add_assoc] at this
 exact this
structure XS (F:Nat→Prop) (h:Heap) (lv:Value) (l:List PD3):Prop where
 rd:Rd h 3 lv l.length (cells3 l)
 pv:∀ x∈l,PV F h x
 fl:∀ k,lv.ownBlock=some k→F k
theorem XS.fr {F S:Nat→Prop} {h h':Heap} {lv:Value} {l:List PD3} (x:XS F h lv l) (f:Fr S h h') (hs:∀ k,F k→¬ S k):XS F h' lv l :=
 ⟨x.rd.fr f fun k hk=>hs k (x.fl k hk),fun y hy=>(x.pv y hy).fr f hs,x.fl⟩
theorem XS.ext {F:Nat→Prop} {h h':Heap} {lv:Value} {l:List PD3} (x:XS F h lv l) (f:Ext h h'):XS F h' lv l:=x.fr f (by simp)
theorem XS.mono {F F':Nat→Prop} {h:Heap} {lv:Value} {l:List PD3} (x:XS F h lv l) (hs:∀ k,F k→F' k):XS F' h lv l :=
 ⟨x.rd,fun y hy=>(x.pv y hy).mono hs,fun k hk=>hs k (x.fl k hk)⟩
theorem XS.get {F:Nat→Prop} {h:Heap} {lv:Value} {l:List PD3} (x:XS F h lv l) {i:Nat} {y:PD3} (hi:l[i]? = some y):∃ b p cap,lv = .slice (some ⟨b,p,none⟩) l.length cap∧Cells h b (p+i*3) y.cells∧PV F h y:=by
 have hlt:i<l.length:=(List.getElem?_eq_some_iff.1 hi).1
 obtain ⟨b,p,cap,hv,_,hc⟩:=x.rd.pos (by omega)
 exact ⟨b,p,cap,hv,cells3_get hc hi,x.pv y (List.mem_of_getElem? hi)⟩
def fdS (l:List PD3) (q:Int):Option PD3:=l.find? fun x=>decide ((x.p.id:Int)=q)
def found (o:Option PD3) (v:Value):Prop:=match o with
 | some x=>v = .tuple #[.agg x.cells.toArray,.bool true]
 | none=>v = .tuple #[.agg #[.int .i64 0,.slice none 0 0,.slice none 0 0],.bool false]
theorem find_first {α:Type} {f:α→Bool} {l:List α} {i:Nat} {x:α} (hi:l[i]? = some x) (hx:f x=true) (hno:∀ y∈l.take i,f y=false):l.find? f=some x:=by
 induction l generalizing i with
 | nil=>simp at hi
 | cons a l ih =>
  cases i with
  | zero=>simp at hi;subst hi;simp [hx]
  | succ i =>
   simp at hi
   have:=hno a (by simp)
   simp only [List.find?_cons,this]
   exact ih hi fun y hy=>hno y (by simp [hy])
theorem Find_ret {F:Nat→Prop} (l:List PD3) (lv:Value) (q:Int) (h:Heap) (hx:XS F h lv l) (hl:l.length≤1000) :
  Ret Tryd.prog 44 #[lv,.int .i64 q] h fun v h'=>Ext h h'∧found (fdS l q) v:=by
 obtain ⟨ad,cap,hv⟩:=hx.rd.form
 subst hv
 refine Ret.of_body Tryd.func44 rfl Tryd.ntmps44 rfl rfl ?_
 refine zgo ?_
 refine WO.alloc tab_ok rfl rfl rfl rfl rfl rfl fun h1 hb1 hx1 hs1=>?_
 refine zgo ?_
 refine Runs.loop (X:=Nat) (fun i=>[(0,.slice ad l.length cap),(1,.int .i64 q),(4,.pointer (some ⟨h.size,0,none⟩)),(6,.int .i64 (i:Int))])
  (fun i h'=>h1=h'∧i≤l.length∧∀ y∈l.take i,decide ((y.p.id:Int)=q)=false) (fun i=>l.length-i) 0 ⟨rfl,rfl,rfl,rfl,trivial⟩ ⟨rfl,Nat.zero_le _,by simp⟩ ?_
 rintro i _ ⟨rfl,hi,hno⟩ ih
 refine zgo ?_
 refine Runs.cond_dec rfl (fun hlt=>?_) (fun hge=>?_)
 ·have hlt':i<l.length:=by omega
  have hget:l[i]? = some l[i]:=List.getElem?_eq_getElem hlt'
  have htk:l.take (i+1)=l.take i++[l[i]]:=List.take_succ_eq_append_getElem hlt'
  generalize l[i]=y at *
  obtain ⟨b0,p0,cap0,hv,hc,hpv⟩:=(hx.ext hx1).get hget
  cases hv
  have c0:=hc.head
  refine zgo ?_
  refine Runs.cond_dec rfl (fun he=>?_) (fun he=>?_)
  ·refine zgo ?_
   refine WO.put tab_ok rfl rfl rfl rfl rfl rfl rfl rfl hpv.one hb1 rfl fun h2 hb2 hx2 hs2=>?_
   refine zgo ?_
   refine Runs.ret Tryd.func44 (retc tab_ok Tryd.results44 rfl rfl rfl rfl rfl hb2.cells) ⟨Fr.wr hx1 hx2 (Nat.le_refl _),?_⟩
   rw [show fdS l q=some y from find_first hget (by simpa using he) hno]
   rfl
  ·refine zgo ?_
   refine ih (i+1) _ _ (by omega) ⟨rfl,rfl,rfl,rfl,trivial⟩ ⟨rfl,hlt',fun z hz=>?_⟩
   rw [htk] at hz
   rcases List.mem_append.1 hz with e | e
   ·exact hno z e
   ·simp at e;rw [e];simpa using he
 ·rw [List.take_of_length_le (by omega)] at hno
  refine zgo ?_
  refine WO.put tab_ok rfl rfl rfl rfl rfl rfl rfl rfl (one3 _ _ _ _ _ _ _) hb1 rfl fun h2 hb2 hx2 hs2=>?_
  refine zgo ?_
  refine Runs.ret Tryd.func44 (retc tab_ok Tryd.results44 rfl rfl rfl rfl rfl hb2.cells) ⟨Fr.wr hx1 hx2 (Nat.le_refl _),?_⟩
  have:fdS l q=none:=by
   unfold fdS
   rw [List.find?_eq_none]
   intro y hy
   simpa using hno y hy
  rw [this]
  rfl
def withoutX (q:Int) (l:List PD3):List PD3:=l.filter fun x=>!decide ((x.p.id:Int)=q)
structure IVL where
 (i:Nat) (v:Value) (m:List PD3)
theorem Without_ret {F:Nat→Prop} (l:List PD3) (lv:Value) (q:Int) (h:Heap) (hx:XS F h lv l) (hl:l.length≤1000) :
  Ret Tryd.prog 47 #[lv,.int .i64 q] h fun v h'=>Ext h h'∧XS (fun k=>F k∨New h h' k) h' v (withoutX q l):=by
 obtain ⟨ad,cap,hv⟩:=hx.rd.form
 subst hv
 refine Ret.of_body Tryd.func47 rfl Tryd.ntmps47 rfl rfl ?_
 refine zgo ?_
 refine Runs.loop (X:=IV) (fun x=>[(0,.slice ad l.length cap),(1,.int .i64 q),(5,x.v),(6,.int .i64 (x.i:Int))])
  (fun x h'=>Ext h h'∧x.i≤l.length∧Own h' 68 3 x.v (withoutX q (l.take x.i)).length (cells3 (withoutX q (l.take x.i)))∧(∀ k,x.v.ownBlock=some k→h.size≤k)) (fun x=>l.length-x.i) ⟨0,.slice none 0 0⟩ ⟨rfl,rfl,rfl,rfl,trivial⟩ ⟨Fr.refl _ _,Nat.zero_le _,Own.nil _ _ _,fun k hk=>by simp [Value.ownBlock] at hk⟩ ?_
 rintro ⟨i,v⟩ h1 ⟨hx1,hi,ho1,hm1⟩ ih
 dsimp only at hx1 hi ho1 hm1 ih ⊢
 refine zgo ?_
 refine Runs.cond_dec rfl (fun hlt=>?_) (fun hge=>?_)
 ·have hlt':i<l.length:=by omega
  have hget:l[i]? = some l[i]:=List.getElem?_eq_getElem hlt'
  have htk:withoutX q (l.take (i+1))=withoutX q (l.take i)++(if (l[i].p.id:Int)=q then [] else [l[i]]):=by
   rw [List.take_succ_eq_append_getElem hlt'];unfold withoutX;rw [List.filter_append];by_cases e:(l[i].p.id:Int)=q<;>simp [e]
  have hwl:(withoutX q (l.take i)).length≤i:=by
   unfold withoutX
   have:=List.length_filter_le (fun x:PD3=>!decide ((x.p.id:Int)=q)) (l.take i)
   simp at this ⊢;omega
  generalize l[i]=y at *
  obtain ⟨b0,p0,cap0,hv,hc,hpv⟩:=(hx.ext hx1).get hget
  cases hv
  have c0:=hc.head
  refine zgo ?_
  refine Runs.cond_ndec rfl (fun he=>?_) (fun he=>?_)
  ·rw [if_neg he] at htk
   refine zgo ?_
   refine zh hpv.one ho1 ?_
   intro v' h2 o1 o2 o3
   refine zgo ?_
   have hsz:=hx1.size
   refine ih ⟨i+1,v'⟩ _ _ (by dsimp only;omega) ⟨rfl,rfl,rfl,rfl,trivial⟩ ⟨hx1.trans_new (o2.mono (fun k _ e=>.inr (hm1 k e))),hlt',?_,?_⟩
   ·dsimp only;rw [htk,cells3_append];simpa [cells3] using o1
   ·intro k hk
    rcases o3 k hk with e | e
    ·exact hm1 k e
    ·omega
  ·rw [if_pos he,List.append_nil] at htk
   refine zgo ?_
   exact ih ⟨i+1,v⟩ _ _ (by dsimp only;omega) ⟨rfl,rfl,rfl,rfl,trivial⟩ ⟨hx1,hlt',by dsimp only;rw [htk];exact ho1,hm1⟩
 ·rw [List.take_of_length_le (by omega)] at ho1
  refine zgo ?_
  refine Runs.ret Tryd.func47 (ret1 Tryd.results47 rfl) ⟨hx1,⟨ho1.rd,fun y hy=>?_,fun k hk=>.inr ⟨hm1 k hk,ho1.lt k hk⟩⟩⟩
  exact ((hx.pv y (List.mem_filter.1 hy).1).ext hx1).mono fun _ e=>.inl e
def withX (x:PD3) (l:List PD3):List PD3:=l.takeWhile (fun y=>decide (y.p.id<x.p.id))++x::l.dropWhile (fun y=>decide (y.p.id<x.p.id))
theorem span_lt {α:Type} {f:α→Bool} {l:List α} {i:Nat} (h1:∀ y∈l.take i,f y=true) (h2:∀ y,l[i]? = some y→f y=false):l.takeWhile f=l.take i∧l.dropWhile f=l.drop i:=by
 induction l generalizing i with
 | nil=>simp
 | cons a l ih =>
  cases i with
  | zero=>have:=h2 a (by simp);simp [this]
  | succ i =>
   have ha:=h1 a (by simp)
   have:=ih (i:=i) (fun y hy=>h1 y (by simp [hy])) (fun y hy=>h2 y (by simpa using hy))
   simp [ha,this]
theorem With_ret {F:Nat→Prop} (l:List PD3) (lv:Value) (x:PD3) (h:Heap) (hx:XS F h lv l) (hp:PV F h x) (hl:l.length≤1000) :
  Ret Tryd.prog 41 #[lv,.agg x.cells.toArray] h fun v h'=>Ext h h'∧XS (fun k=>F k∨New h h' k) h' v (withX x l):=by
 obtain ⟨ad,cap,hv⟩:=hx.rd.form
 subst hv
 refine Ret.of_body Tryd.func41 rfl Tryd.ntmps41 rfl rfl ?_
 refine zgo ?_
 refine WO.box rfl rfl rfl rfl rfl rfl fun h0 hb0 hx0 hs0=>?_
 have g0:=hb0.cell (j:=0) rfl
 have hmem:∀ (m:List PD3),(∀ y∈m,y∈l∨y=x)→∀ h',Ext h h'→∀ y∈m,PV (fun k=>F k∨New h h' k) h' y:=fun m hm h' hx' y hy=>by
  rcases hm y hy with e | e
  ·exact ((hx.pv y e).ext hx').mono fun _ e=>.inl e
  ·subst e;exact (hp.ext hx').mono fun _ e=>.inl e
 refine zgo ?_
 refine Runs.loop (X:=IV) (fun y=>[(0,.slice ad l.length cap),(3,.pointer (some ⟨h.size,0,none⟩)),(5,y.v),(6,.int .i64 (y.i:Int))])
  (fun y h'=>Ext h0 h'∧y.i≤l.length∧Own h' 68 3 y.v y.i (cells3 (l.take y.i))∧(∀ k,y.v.ownBlock=some k→h0.size≤k)∧∀ z∈l.take y.i,decide (z.p.id<x.p.id)=true) (fun y=>l.length-y.i) ⟨0,.slice none 0 0⟩ ⟨rfl,rfl,rfl,rfl,trivial⟩ ⟨Fr.refl _ _,Nat.zero_le _,Own.nil _ _ _,fun k hk=>by simp [Value.ownBlock] at hk,by simp⟩ ?_
 rintro ⟨i,v⟩ h1 ⟨hx1,hi,ho1,hm1,hlo⟩ ih
 dsimp only at hx1 hi ho1 hm1 hlo ih ⊢
 have hx01:=hx0.trans hx1
 have q0:=hx1.xc g0
 have tail:(∀ y,l[i]? = some y→decide (y.p.id<x.p.id)=false)→withX x l=l.take i++x::l.drop i:=fun hno=>by
  obtain ⟨e1,e2⟩:=span_lt hlo hno
  unfold withX;rw [e1,e2]
 refine zgo ?_
 refine Runs.still mixed (by kernel_rfl) ?_
 refine WS.join (fun env'=>Sub [(0,.slice ad l.length cap),(3,.pointer (some ⟨h.size,0,none⟩)),(5,v),(6,.int .i64 (i:Int)),(20,.bool (match l[i]? with | some y=>decide ((y.p.id:Int)<(x.p.id:Int)) | none=>false))] env') ?_ ?_
 ·by_cases hin:i<l.length
  ·have hget:l[i]? = some l[i]:=List.getElem?_eq_getElem hin
   have hd:decide ((i:Int)<(l.length:Int))=true:=decide_eq_true (by omega)
   rw [hget]
   generalize l[i]=y at *
   obtain ⟨b0,p0,cap0,hv,hc,hpv⟩:=(hx.ext hx01).get hget
   cases hv
   have c0:=hc.head
   refine zws ?_
   rw [hd]
   refine zws ?_
   exact ⟨rfl,rfl,rfl,rfl,rfl,trivial⟩
  ·have hd:decide ((i:Int)<(l.length:Int))=false:=decide_eq_false (by omega)
   rw [List.getElem?_eq_none (by omega)]
   refine zws ?_
   rw [hd]
   refine zws ?_
   exact ⟨rfl,rfl,rfl,rfl,rfl,trivial⟩
 intro env' hsub
 refine Runs.sub hsub ?_
 clear hsub env'
 refine Runs.cond rfl (fun hq=>?_) (fun hq=>?_)
 ·obtain ⟨y,hget,hyx⟩:∃ y,l[i]? = some y∧decide ((y.p.id:Int)<(x.p.id:Int))=true:=by
   split at hq
   ·rename_i y e;exact ⟨y,e,hq⟩
   ·cases hq
  have hlt':i<l.length:=(List.getElem?_eq_some_iff.1 hget).1
  have htk:l.take (i+1)=l.take i++[y]:=by
   rw [List.take_succ_eq_append_getElem hlt']
   obtain ⟨_,e⟩:=List.getElem?_eq_some_iff.1 hget
   rw [e]
  have hyx':(y.p.id:Int)<(x.p.id:Int):=of_decide_eq_true hyx
  obtain ⟨b0,p0,cap0,hv,hc,hpv⟩:=(hx.ext hx01).get hget
  cases hv
  refine zgo ?_
  refine zh hpv.one ho1 ?_
  intro v' h2 o1 o2 o3
  refine zgo ?_
  have hsz:=hx1.size
  refine ih ⟨i+1,v'⟩ _ _ (by dsimp only;omega) ⟨rfl,rfl,rfl,rfl,trivial⟩ ⟨hx1.trans_new (o2.mono (fun k _ e=>.inr (hm1 k e))),hlt',?_,?_,?_⟩
  ·dsimp only;rw [htk,cells3_append];simpa [cells3] using o1
  ·intro k hk
   rcases o3 k hk with e | e
   ·exact hm1 k e
   ·omega
  ·intro z hz
   rw [htk] at hz
   rcases List.mem_append.1 hz with e | e
   ·exact hlo z e
   ·simp at e;rw [e];exact decide_eq_true (by omega)
 ·have hno:∀ y,l[i]? = some y→decide (y.p.id<x.p.id)=false:=fun y hy=>by
   rw [hy] at hq
   have:=of_decide_eq_false hq
   exact decide_eq_false (by omega)
  rw [tail hno]
  have k0:Cells h1 h.size 0 x.cells:=(hb0.ext hx1).cells
  clear ih hq tail
  refine zgo ?_
  refine zh hp.one ho1 ?_
  intro v2 h2 o1 o2 o3
  have hx02:Ext h h2:=hx01.trans_new (o2.mono (fun k _ e=>.inr (by have:=hm1 k e;have:=hx0.size;omega)))
  have hz0:=hx0.size
  have hz1:=hx1.size
  have hm2:∀ k,v2.ownBlock=some k→h.size≤k:=fun k hk=>by
   rcases o3 k hk with e | e
   ·have:=hm1 k e;omega
   ·omega
  have ho2:Own h2 68 3 v2 (i+1+0) (cells3 (l.take i++x::(l.drop i).take 0)):=by
   have:l.take i++x::(l.drop i).take 0=l.take i++[x]:=by simp
   rw [this,cells3_append];simpa [cells3] using o1
  refine zgo ?_
  refine Runs.loop (X:=IV) (fun y=>[(0,.slice ad l.length cap),(5,y.v),(6,.int .i64 ((i+y.i:Nat):Int))])
   (fun y h'=>Ext h h'∧i+y.i≤l.length∧Own h' 68 3 y.v (i+1+y.i) (cells3 (l.take i++x::(l.drop i).take y.i))∧(∀ k,y.v.ownBlock=some k→h.size≤k)) (fun y=>l.length-(i+y.i)) ⟨0,v2⟩ ⟨rfl,rfl,rfl,trivial⟩ ⟨hx02,hi,ho2,hm2⟩ ?_
  clear ho1 hm1 o1 o2 o3 ho2 hm2 hx02
  rintro ⟨j,v⟩ h3 ⟨hx3,hj,ho3,hm3⟩ ih
  dsimp only at hx3 hj ho3 hm3 ih ⊢
  refine zgo ?_
  refine Runs.cond_dec rfl (fun hlt=>?_) (fun hge=>?_)
  ·have hlt':i+j<l.length:=by omega
   have hget:l[i+j]? = some l[i+j]:=List.getElem?_eq_getElem hlt'
   have htk:(l.drop i).take (j+1)=(l.drop i).take j++[l[i+j]]:=by
    rw [List.take_succ_eq_append_getElem (by rw [List.length_drop];omega),List.getElem_drop]
   generalize l[i+j]=y at *
   obtain ⟨b0,p0,cap0,hv,hc,hpv⟩:=(hx.ext hx3).get hget
   cases hv
   refine zgo ?_
   refine zh hpv.one ho3 ?_
   intro v' h4 o1 o2 o3
   refine zgo ?_
   have hsz:=hx3.size
   refine ih ⟨j+1,v'⟩ _ _ (by dsimp only;omega) ⟨rfl,rfl,rfl,trivial⟩ ⟨hx3.trans_new (o2.mono (fun k _ e=>.inr (hm3 k e))),hlt',?_,?_⟩
   ·dsimp only
    rw [htk,show l.take i++x::((l.drop i).take j++[y])=(l.take i++x::(l.drop i).take j)++[y] by simp,cells3_append]
    rw [show i+1+(j+1)=i+1+j+1 by omega]
    simpa [cells3] using o1
   ·intro k hk
    rcases o3 k hk with e | e
    ·exact hm3 k e
    ·omega
  ·have hje:i+j=l.length:=by omega
   have htk:(l.drop i).take j=l.drop i:=List.take_of_length_le (by rw [List.length_drop];omega)
   rw [htk] at ho3
   have hlen:(l.take i++x::l.drop i).length=i+1+j:=by simp;omega
   refine zgo ?_
   refine Runs.ret Tryd.func41 (ret1 Tryd.results41 rfl) ⟨hx3,⟨by rw [hlen];exact ho3.rd,hmem _ (fun y hy=>?_) h3 hx3,fun k hk=>.inr ⟨hm3 k hk,ho3.lt k hk⟩⟩⟩
   rcases List.mem_append.1 hy with e | e
   ·exact .inl (List.mem_of_mem_take e)
   ·rcases List.mem_cons.1 e with e | e
    ·exact .inr e
    ·exact .inl (List.mem_of_mem_drop e)
end Go.Proofs.YtlaffgagmncgjabDoor
