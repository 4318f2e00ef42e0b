import Derived.Test.YtlaffgagmncgjaaGreatDoorT1
set_option maxRecDepth 20000
set_option maxHeartbeats 800000
namespace Go.Proofs.YtlaffgagmncgjaaGreatDoor
open Tryz Go Go.Pat Go.Proofs
theorem plain_pick:Plain Tryz.prog 64:=⟨_,func64,by decide +kernel,by rfl⟩
theorem plain_stage:Plain Tryz.prog 29:=⟨_,func29,by decide +kernel,by rfl⟩
theorem plain_built:Plain Tryz.prog 30:=⟨_,func30,by decide +kernel,by rfl⟩
theorem plain_small:Plain Tryz.prog 15:=⟨_,func15,by decide +kernel,by rfl⟩
theorem plain_mNew:Plain Tryz.prog 18:=⟨_,func18,by decide +kernel,by rfl⟩
def inI (x:Int):Prop:=-9223372036854775808≤x∧x≤9223372036854775807
theorem pick_ret (c:Int) (n:Nat) (h:Heap) (hc:inI c) (hn:0<n) (hn2:n≤9223372036854775807):Ret Tryz.prog 64 #[.int .i64 c,.int .i64 (n:Int)] h fun v h'=>h'=h∧∃ r:Nat,r<n∧v = .int .i64 (r:Int):=by
 refine Ret.of_body func64 rfl ntmps64 rfl rfl ?_
 obtain ⟨c1,c2⟩:=hc
 have fin:∀ d:Int,0≤d→∃ r:Nat,r<n∧Value.int .i64 (d % (n:Int)) = .int .i64 (r:Int):=fun d hd=>by
  have h1:=Int.emod_nonneg d (show (n:Int)≠0 by omega)
  have h2:=Int.emod_lt_of_pos d (show (0:Int)<(n:Int) by omega)
  refine ⟨(d % (n:Int)).toNat,by omega,?_⟩
  congr 1;omega
 refine zgo ?_
 refine Runs.cond_dec rfl (fun hneg=>?_) (fun hpos=>?_)
 ·refine zgo ?_
  refine WO.val (ov_neg rfl rfl (in_i64 (by omega) (by omega))) rfl rfl rfl ?_
  refine zgo ?_
  refine WO.val (ov_rem rfl rfl rfl (by omega) (by omega)) rfl rfl rfl ?_
  refine zgo ?_
  exact Runs.ret func64 (ret1 results64 rfl) ⟨rfl,fin _ (by omega)⟩
 ·refine zgo ?_
  refine WO.val (ov_rem rfl rfl rfl (by omega) (by omega)) rfl rfl rfl ?_
  refine zgo ?_
  exact Runs.ret func64 (ret1 results64 rfl) ⟨rfl,fin _ (by omega)⟩
def stageS (k:Int):Int:=if k=6 then 2 else if k=16 then 2 else if k=5 then 3 else if k=17 then 3 else if k=18 then 3 else if k=14 then 4 else 1
theorem stage_ret (k:Int) (h:Heap):Ret Tryz.prog 29 #[.int .i64 k] h fun v h'=>h'=h∧v = .int .i64 (stageS k):=by
 refine Ret.of_body func29 rfl ntmps29 rfl rfl ?_
 unfold stageS
 refine zgo ?_
 by_cases h6:k=6
 ·have hd:decide (k=6)=true:=decide_eq_true h6
  rw [hd,if_pos h6]
  refine zgo ?_
  exact Runs.ret func29 (ret1 results29 rfl) ⟨rfl,rfl⟩
 have hd6:decide (k=6)=false:=decide_eq_false h6
 rw [hd6,if_neg h6]
 refine zgo ?_
 by_cases h16:k=16
 ·have hd:decide (k=16)=true:=decide_eq_true h16
  rw [hd,if_pos h16]
  refine zgo ?_
  exact Runs.ret func29 (ret1 results29 rfl) ⟨rfl,rfl⟩
 have hd16:decide (k=16)=false:=decide_eq_false h16
 rw [hd16,if_neg h16]
 refine zgo ?_
 by_cases h5:k=5
 ·have hd:decide (k=5)=true:=decide_eq_true h5
  rw [hd,if_pos h5]
  refine zgo ?_
  exact Runs.ret func29 (ret1 results29 rfl) ⟨rfl,rfl⟩
 have hd5:decide (k=5)=false:=decide_eq_false h5
 rw [hd5,if_neg h5]
 refine zgo ?_
 by_cases h17:k=17
 ·have hd:decide (k=17)=true:=decide_eq_true h17
  rw [hd,if_pos h17]
  refine zgo ?_
  exact Runs.ret func29 (ret1 results29 rfl) ⟨rfl,rfl⟩
 have hd17:decide (k=17)=false:=decide_eq_false h17
 rw [hd17,if_neg h17]
 refine zgo ?_
 by_cases h18:k=18
 ·have hd:decide (k=18)=true:=decide_eq_true h18
  rw [hd,if_pos h18]
  refine zgo ?_
  exact Runs.ret func29 (ret1 results29 rfl) ⟨rfl,rfl⟩
 have hd18:decide (k=18)=false:=decide_eq_false h18
 rw [hd18,if_neg h18]
 refine zgo ?_
 by_cases h14:k=14
 ·have hd:decide (k=14)=true:=decide_eq_true h14
  rw [hd,if_pos h14]
  refine zgo ?_
  exact Runs.ret func29 (ret1 results29 rfl) ⟨rfl,rfl⟩
 have hd14:decide (k=14)=false:=decide_eq_false h14
 rw [hd14,if_neg h14]
 refine zgo ?_
 exact Runs.ret func29 (ret1 results29 rfl) ⟨rfl,rfl⟩
theorem built_ret (k:Int) (h:Heap):Ret Tryz.prog 30 #[.int .i64 k] h fun v h'=>h'=h∧v = .int .i64 (if k = -1 then 2 else stageS k):=by
 refine Ret.of_body func30 rfl ntmps30 rfl rfl ?_
 refine zgo ?_
 refine Runs.cond_dec rfl (fun h1=>?_) (fun h1=>?_)
 ·refine zgo ?_
  exact Runs.ret func30 (ret1 results30 rfl) ⟨rfl,by rw [if_pos h1]⟩
 ·refine zgo ?_
  refine WO.call rfl rfl rfl rfl plain_stage rfl (stage_ret k _) fun v1 h1' ⟨hh1,hv1⟩=>?_
  subst hh1 hv1
  refine zgo ?_
  exact Runs.ret func30 (ret1 results30 rfl) ⟨rfl,by rw [if_neg h1]⟩
structure OpD where
 (kind a b c:Int) (s t:List UInt8)
def OpD.cells (o:OpD):List Value:=[.int .i64 o.kind,.int .i64 o.a,.int .i64 o.b,.int .i64 o.c,.string (str o.s),.string (str o.t)]
theorem OpD.one (o:OpD):One o.cells:=by intro u hu;simp [OpD.cells] at hu;rcases hu with rfl | rfl | rfl | rfl | rfl | rfl<;>rfl
structure OpD.ok (o:OpD):Prop where
 k:inI o.kind
 a:inI o.a
 b:inI o.b
 c:inI o.c
 s:o.s.length≤281474976710656
 t:o.t.length≤281474976710656
def opsC (l:List OpD):List Value:=l.flatMap OpD.cells
theorem opsC_append (l m:List OpD):opsC (l++m)=opsC l++opsC m:=by simp [opsC]
theorem length_opsC (l:List OpD):(opsC l).length=l.length*6:=by
 induction l with
 | nil=>rfl
 | cons x l ih=>simp only [opsC,List.flatMap_cons,List.length_append] at ih ⊢;rw [ih];simp [OpD.cells];omega
theorem opsC_get {h:Heap} {l:List OpD} {b p:Nat} (hc:Cells h b p (opsC l)) {i:Nat} {x:OpD} (hi:l[i]? = some x):Cells h b (p+i*6) x.cells:=by
 have hlt:i<l.length:=(List.getElem?_eq_some_iff.1 hi).1
 intro j v hj
 have hj4:j<6:=by have:=(List.getElem?_eq_some_iff.1 hj).1;simpa [OpD.cells] using this
 have hv:(opsC l)[i*6+j]? = some v:=by
  have h0:l=l.take i++x::l.drop (i+1):=by
   obtain ⟨_,e⟩:=List.getElem?_eq_some_iff.1 hi
   rw [← e,List.getElem_cons_drop,List.take_append_drop]
  rw [h0,opsC_append]
  have hl:(opsC (l.take i)).length=i*6:=by rw [length_opsC,List.length_take];congr 1;omega
  rw [List.getElem?_append_right (by omega),hl,show i*6+j-i*6=j by omega]
  simp only [opsC,List.flatMap_cons]
  rw [List.getElem?_append_left (by simp [OpD.cells];omega)]
  exact hj
 have:=hc (i*6+j) v hv
 rw [← Nat.add_assoc] at this
 exact this
def weight (l:List OpD):Nat:=(l.map fun o=>o.s.length+o.t.length).sum
theorem weight_snoc (l:List OpD) (o:OpD):weight (l++[o])=weight l+(o.s.length+o.t.length):=by simp [weight]
theorem weight_mem {l:List OpD} {o:OpD} (h:o∈l):o.s.length+o.t.length≤weight l:=by
 induction l with
 | nil=>simp at h
 | cons x l ih =>
  simp only [weight,List.map_cons,List.sum_cons] at ih ⊢
  rcases List.mem_cons.1 h with rfl | h
  ·omega
  ·have:=ih h;omega
theorem small_ret (l:List OpD) (v:Value) (h:Heap) (hr:Rd h 6 v l.length (opsC l)) (hok:∀ o∈l,OpD.ok o) (hl:l.length≤281474976710656) :
  Ret Tryz.prog 15 #[v] h fun w h'=>h'=h∧∃ r:Bool,w = .bool r∧(r=true→l.length+weight l≤1048576):=by
 obtain ⟨ad,cap,hv⟩:=hr.form
 subst hv
 refine Ret.of_body func15 rfl ntmps15 rfl rfl ?_
 refine zgo ?_
 refine Runs.cond_dec rfl (fun hb=>?_) (fun hb=>?_)
 ·refine zgo ?_
  exact Runs.ret func15 (ret1 results15 rfl) ⟨rfl,false,rfl,fun e=>by cases e⟩
 refine zgo ?_
 refine Runs.loop (X:=Nat) (fun i=>[(0,.slice ad l.length cap),(3,.int .i64 ((l.length+weight (l.take i):Nat):Int)),(11,.int .i64 (l.length:Int)),(12,.int .i64 (i:Int))])
  (fun i h'=>h=h'∧i≤l.length∧l.length+weight (l.take i)≤1048576) (fun i=>l.length-i) 0 ⟨rfl,by rw [List.take_zero];rfl,rfl,rfl,trivial⟩ ⟨rfl,Nat.zero_le _,by simp [weight];omega⟩ ?_
 rintro i _ ⟨rfl,hi,hw⟩ ih
 refine zgo ?_
 refine Runs.cond_dec rfl (fun hlt=>?_) (fun hge=>?_)
 ·have hlt':i<l.length:=by omega
  have hget:l[i]? = some l[i]:=List.getElem?_eq_getElem hlt'
  have hmem:l[i]∈l:=List.getElem_mem hlt'
  have hsn:weight (l.take (i+1))=weight (l.take i)+(l[i].s.length+l[i].t.length):=by rw [List.take_succ_eq_append_getElem hlt',weight_snoc]
  generalize l[i]=x at *
  obtain ⟨b0,p0,cap0,hv,_,hcs⟩:=hr.pos (by omega)
  cases hv
  have hx:=opsC_get hcs hget
  have c4:=hx 4 _ rfl
  have c5:=hx 5 _ rfl
  have hs1:=(hok x hmem).s
  have hs2:=(hok x hmem).t
  refine zgo ?_
  refine Runs.still mixed (by kernel_rfl) ?_
  refine zws ?_
  have e:((l.length+weight (l.take i):Nat):Int)+((x.s.length:Int)+(x.t.length:Int))=((l.length+weight (l.take (i+1)):Nat):Int):=by rw [hsn];omega
  rw [e]
  refine zgo ?_
  refine Runs.cond_dec rfl (fun hbig=>?_) (fun hbig=>?_)
  ·refine zgo ?_
   exact Runs.ret func15 (ret1 results15 rfl) ⟨rfl,false,rfl,fun e=>by cases e⟩
  ·refine zgo ?_
   exact ih (i+1) _ _ (by omega) ⟨rfl,rfl,rfl,rfl,trivial⟩ ⟨rfl,hlt',by omega⟩
 ·rw [List.take_of_length_le (by omega)] at hw
  refine zgo ?_
  exact Runs.ret func15 (ret1 results15 rfl) ⟨rfl,true,rfl,fun _=>hw⟩
theorem mNew_ret (h:Heap):Ret Tryz.prog 18 #[] h fun v h'=>Ext h h'∧h'.size=h.size+2∧v = .pointer (some ⟨h.size+1,0,none⟩)∧Blk h' h.size [.slice none 0 0] 59∧Blk h' (h.size+1) [.pointer (some ⟨h.size,0,none⟩)] 61:=by
 refine Ret.of_body (vs:=[]) func18 rfl ntmps18 rfl rfl ?_
 refine zgo ?_
 refine zb fun h1 hb1 hx1 hs1=>?_
 refine zgo ?_
 refine zb fun h2 hb2 hx2 hs2=>?_
 refine zgo ?_
 rw [hs1] at hb2
 refine Runs.ret func18 (ret1 results18 rfl) ⟨hx1.trans hx2,by omega,by rw [hs1],hb1.ext hx2,hb2⟩
end Go.Proofs.YtlaffgagmncgjaaGreatDoor
