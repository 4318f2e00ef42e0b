import Derived.Test.YtlaffgagmncgjaaGreatDoorT23
import Derived.Test.YtlaffgagmncgjaaGreatDoorMem3
set_option maxRecDepth 20000
set_option maxHeartbeats 3200000
namespace Go.Pat
open Go
section
variable {P:Program} {n:Nat} {env:Env} {h:Heap} {o:Oper} {T:Tab}
theorem ov_buildA {t e:TypeId} {ps:List (Nat × Operand)} {vs q:List (Nat × Value)} {len sz by_ esz eby:Nat} {z ez:Value} {ek:TK} {zs cs:List Value} (hT:T.ok P) (ho:o.op = .build t ps.toArray)
  (ht:T.get? t=some ⟨sz,by_,z,.array len e⟩) (he:T.get? e=some ⟨esz,eby,ez,ek⟩) (hz:oneList z=some zs) (hv:evps env ps=some vs) (hq:placed (fun j=>some (j*esz,esz)) zs.length vs=some q) (hc:fillO zs q=some cs) :
  OpVal P n env o h (.agg cs.toArray):=fun w a _ ha=>by
 have hu:P.underlying t=some (.array len e):=(Tab.fits hT ht).2
 have h2:=evps_spec ha hv
 have hzc:=oneList_cells hz
 have h4:=fill_placed (place:=fun j=>some (j*esz,esz)) vs z.cells q (by rw [hzc];simpa using hq)
 have h5:ps.map (fun x=>match x with | (i,x)=>(i,a.eval x))=vs:=h2
 have h6:=fillO_spec hc
 rw [hzc] at h4
 simp [execOp,ho,Instr.build,run_zero (Tab.fits hT ht),und (Tab.fits hT ht) hu,run_sizeOf (Tab.fits hT he),h5,hzc,h4,h6]
theorem ox_append_rd {s x:Operand} {t e:TypeId} {xv:Value} {ad:Option Addr} {N m:Nat} {xs news:List Value} {i:TI} {sz by_:Nat} {z:Value} {K:Value→Heap→Prop} (hT:T.ok P)
  (ho:o.op = .call { callee:=.builtin .append,args:=#[s,x],argTypes:=#[t,t] }) (hs:env.ev? s=some (.slice ad N N)) (hx:env.ev? x=some xv)
  (ht:T.get? t=some ⟨sz,by_,z,.slice e⟩) (he:T.get? e=some i) (hz:i.zero.cells.size=i.size) (hsz:Nat.blt 0 i.size=true)
  (hbase:Rd h i.size (.slice ad N N) N xs) (hr:Rd h i.size xv m news) (h1:One news) (hb:(N+m)*(i.bytes+1)≤140737488355328)
  (hk:∀ v' h',Rd h' i.size v' (N+m) (xs++news)→Ext h h'→(v' = .slice ad N N∨v'.ownBlock=some h.size)→K v' h'):OpEx P n env o h K:=by
 rcases Nat.eq_zero_or_pos m with hm | hm
 ·subst hm
  have hnil:news=[]:=by have:=hr.1;simp at this;exact this
  subst hnil
  refine (ov_append_none hT ho hs hx ht he hr (Nat.le_refl _)).ex (hk _ _ ?_ (Fr.refl _ _) (.inl rfl))
  simpa using hbase
 ·rcases hbase.2 with ⟨e1,e2⟩ | ⟨b,p,cap,e1,e2,e3⟩
  ·cases e1
   have hnil:xs=[]:=by have:=hbase.1;simp at this;exact this
   subst hnil
   refine ox_append hT ho hs hx ht he hz hsz (Own.nil h e i.size) hr h1 hb fun v' h' q1 q2 q3=>hk v' h' q1.rd ?_ ?_
   ·exact q2.mono fun k _ e=>by simp [Value.ownBlock] at e
   ·rcases q3 with q3 | q3
    ·rcases q1.2 with ⟨_,e⟩ | ⟨g,c,cur,e,_⟩
     ·omega
     ·subst e;simp [Value.ownBlock] at q3
    ·exact .inr q3
  ·cases e1
   exact ox_append_full hT ho hs hx ht he hz hbase.1 e3 hr hm hb fun v' h' q1 q2 q3=>hk v' h' q1.rd q2 (.inr q3)
end
theorem Runs.joinK {P:Program} {f:FuncId} {n:Nat} {post:Value→Heap→Prop} {k:List Item} {env:Env} {h:Heap} {c:Code} (J:Env→Heap→Prop) (hr:∀ k',(∀ env' h',J env' h'→Runs P f n post k' env' h')→Runs P f n post (.code c::k') env h) (hJ:∀ env' h',J env' h'→Runs P f n post k env' h') :
  Runs P f n post (.code c::k) env h:=hr k hJ
end Go.Pat
namespace Go.Proofs.YtlaffgagmncgjaaGreatDoor
open Tryz Go Go.Pat Go.Proofs
theorem plain90:Plain Tryz.prog 89:=⟨_,func89,by decide +kernel,by rfl⟩
structure ShD where
 (i mark:Nat) (block:Int) (strand:Nat)
def ShD.cells (s:ShD):List Value:=[.int .i64 (s.i:Int),.int .u8 (s.mark:Int),.int .i64 s.block,.int .i64 (s.strand:Int)]
theorem ShD.one (s:ShD):One s.cells:=by intro u hu;simp [ShD.cells] at hu;rcases hu with rfl | rfl | rfl | rfl<;>rfl
def shC (l:List ShD):List Value:=l.flatMap ShD.cells
theorem shC_append (l m:List ShD):shC (l++m)=shC l++shC m:=by simp [shC]
theorem length_shC (l:List ShD):(shC l).length=l.length*4:=by
 induction l with
 | nil=>rfl
 | cons x l ih=>simp only [shC,List.flatMap_cons,List.length_append] at ih ⊢;rw [ih];simp [ShD.cells];omega
theorem one_shC (l:List ShD):One (shC l):=by
 intro u hu
 obtain ⟨s,_,hs⟩:=List.mem_flatMap.1 hu
 exact s.one u hs
theorem shC_split (l:List ShD) (k:Nat) (hk:k≤l.length):(shC l).take (k*4)=shC (l.take k)∧(shC l).drop (k*4)=shC (l.drop k):=by
 have h1:shC l=shC (l.take k)++shC (l.drop k):=by rw [← shC_append,List.take_append_drop]
 have h2:(shC (l.take k)).length=k*4:=by rw [length_shC,List.length_take];congr 1;omega
 rw [h1]
 exact ⟨by rw [← h2,List.take_left],by rw [← h2,List.drop_left]⟩
theorem shC_get {h:Heap} {l:List ShD} {b p:Nat} (hc:Cells h b p (shC l)) {i:Nat} {x:ShD} (hi:l[i]? = some x):Cells h b (p+i*4) x.cells:=by
 have hlt:i<l.length:=(List.getElem?_eq_some_iff.1 hi).1
 intro j v hj
 have hj4:j<4:=by have:=(List.getElem?_eq_some_iff.1 hj).1;simpa [ShD.cells] using this
 have hv:(shC l)[i*4+j]? = some v:=by
  have h0:l=l.take i++x::l.drop (i+1):=by
   obtain ⟨_,e⟩:=List.getElem?_eq_some_iff.1 hi
   rw [← e,List.getElem_cons_drop,List.take_append_drop]
  rw [h0,shC_append]
  have hl:(shC (l.take i)).length=i*4:=by rw [length_shC,List.length_take];congr 1;omega
  rw [List.getElem?_append_right (by omega),hl,show i*4+j-i*4=j by omega]
  simp only [shC,List.flatMap_cons]
  rw [List.getElem?_append_left (by simp [ShD.cells];omega)]
  exact hj
 have:=hc (i*4+j) v hv
 rw [← Nat.add_assoc] at this
 exact this
def cntP (ld:List (List Bool)) (fx:List Bool) (i j:Nat):Bool:=(!decide (j=i)&&fx.getD j false)&&aheadS ld j i
def cntS (n:Nat) (ld:List (List Bool)) (fx:List Bool) (i:Nat):Nat:=((List.range n).filter (cntP ld fx i)).length
structure OP where
 (n:Nat) (ld:List (List Bool)) (fx:List Bool) (bl:List Int) (st:Nat→Nat) (orp:Nat→Bool)
def OP.blk (o:OP) (i:Nat):Int:=o.bl.getD i 0
def OP.strd (o:OP) (i:Nat):Nat:=if o.blk i<0 then 0 else o.st i
def OP.key (o:OP) (i:Nat):Key:=⟨((2*cntS o.n o.ld o.fx i+(if o.blk i<0 then 1 else 0):Nat):Int),(o.strd i:Int),(rankS o.n o.ld i:Int),(i:Int)⟩
def OP.mark (o:OP) (i:Nat):Nat:=if o.orp i=true then 33 else if ringS o.n o.ld i=true then 64 else if o.blk i<0 then 32 else 124
def OP.sh (o:OP) (i:Nat):ShD:=⟨i,o.mark i,o.blk i,o.strd i⟩
def OP.ins (o:OP) (i:Nat) (out:List ShD):List ShD:=out.takeWhile (fun x=>lessS (o.key x.i) (o.key i))++o.sh i::out.dropWhile (fun x=>lessS (o.key x.i) (o.key i))
def OP.to (o:OP) (k:Nat):List ShD:=(List.range k).foldl (fun out i=>o.ins i out) []
theorem OP.to_succ (o:OP) (k:Nat):o.to (k+1)=o.ins k (o.to k):=by simp [OP.to,List.range_succ,List.foldl_append]
theorem OP.to_length (o:OP) (k:Nat):(o.to k).length=k:=by
 induction k with
 | zero=>rfl
 | succ k ih =>
  rw [OP.to_succ,OP.ins]
  have h1:((o.to k).takeWhile (fun x=>lessS (o.key x.i) (o.key k))).length+((o.to k).dropWhile (fun x=>lessS (o.key x.i) (o.key k))).length=(o.to k).length:=by
   rw [← List.length_append,List.takeWhile_append_dropWhile]
  simp only [List.length_append,List.length_cons];omega
theorem OP.to_mem (o:OP) (k:Nat):∀ x∈o.to k,x.i<k∧x=o.sh x.i:=by
 induction k with
 | zero=>simp [OP.to]
 | succ k ih =>
  intro x hx
  rw [OP.to_succ,OP.ins] at hx
  have h0:∀ y∈o.to k,y.i<k+1∧y=o.sh y.i:=fun y hy=>⟨by have:=(ih y hy).1;omega,(ih y hy).2⟩
  rcases List.mem_append.1 hx with e | e
  ·exact h0 x ((List.takeWhile_sublist _).mem e)
  ·rcases List.mem_cons.1 e with e | e
   ·subst e;exact ⟨Nat.lt_succ_self k,rfl⟩
   ·exact h0 x ((List.dropWhile_sublist _).mem e)
theorem span_ltS {α:Type} {f:α→Bool} {l:List α} {i:Nat} (h1:∀ y∈l.take i,f y=true) (h2:∀ y,l[i]? = some y→f y=false):l.takeWhile f=l.take i∧l.dropWhile f=l.drop i:=by
 induction l generalizing i with
 | nil=>simp
 | cons a l ih =>
  cases i with
  | zero=>have:=h2 a (by simp);simp [this]
  | succ i =>
   have ha:=h1 a (by simp)
   have:=ih (i:=i) (fun y hy=>h1 y (by simp [hy])) (fun y hy=>h2 y (by simpa using hy))
   simp [ha,this]
theorem OP.ins_at (o:OP) {i k:Nat} (hless:∀ y∈(o.to i).take k,lessS (o.key y.i) (o.key i)=true) (hno:∀ y,(o.to i)[k]? = some y→lessS (o.key y.i) (o.key i)=false):o.to (i+1)=(o.to i).take k++o.sh i::(o.to i).drop k:=by
 obtain ⟨e1,e2⟩:=span_ltS (f:=fun y:ShD=>lessS (o.key y.i) (o.key i)) (l:=o.to i) (i:=k) (fun y hy=>hless y hy) (fun y hy=>hno y hy)
 rw [OP.to_succ]
 show (o.to i).takeWhile (fun x=>lessS (o.key x.i) (o.key i))++o.sh i::(o.to i).dropWhile (fun x=>lessS (o.key x.i) (o.key i))=_
 rw [e1,e2]
theorem strand_uniq {n:Nat} {ld:List (List Bool)} {bl:List Int} {i r s:Nat} (h1:IsStrand n ld bl i r) (h2:IsStrand n ld bl i s):r=s:=by
 have e1:=h1.least s h2.conn
 have e2:=h2.least r h1.conn
 omega
theorem one_u8 (x:Int):One [.int .u8 x]:=by intro u hu;simp at hu;subst hu;rfl
theorem Key.one (k:Key):One k.cells:=by intro u hu;simp [Key.cells] at hu;rcases hu with rfl | rfl | rfl | rfl<;>rfl
structure JC where
 (j c:Nat)
theorem order_ret {F:Nat→Prop} (mb b:Nat) (bs:List Nat) (ps:List PatchD) (al:List LineD) (o:OP) (h:Heap) (hs:SA F h b bs ps) (hcl:Closed ps) (hg:MG h mb b al o.ld o.fx o.bl) (hn:o.n=al.length)
  (hst:∀ i,i<al.length→IsStrand al.length o.ld o.bl i (o.st i)) (hor:∀ i l,al[i]? = some l→(o.orp i=true↔Orphan ps l)) (hids:∀ l∈al,l.ref.p∈ps.map PatchD.id)
  (hl:bs.length≤100) (hchl:∀ p∈ps,p.changes.length≤1000) (hnl:∀ p∈ps,p.needs.length≤1000) (hall:al.length≤100000) :
  Ret Tryz.prog 89 #[.pointer (some ⟨mb,0,none⟩)] h fun v h'=>Ext h h'∧Rd h' 4 v al.length (shC (o.to al.length)):=by
 refine Ret.of_body func89 rfl ntmps89 rfl rfl ?_
 have hbl:=fun j hj=>MG.bl hg (j:=j) hj
 have hg0:=hg
 obtain ⟨alv,ldv,fxv,blv,hc,har,hmat,hfr,hbr⟩:=hg.out
 obtain ⟨ada,capa,hva⟩:=har.form
 subst hva
 have hml:∀ h',Ext h h'→ML h' mb al o.ld:=fun h' hx=>⟨_,_,_,_,_,hx.xcs hc,har.ext hx,hmat.ext hx,hg.sq⟩
 have hgd:∀ j,j<al.length→o.fx[j]? = some (o.fx.getD j false):=fun j hj=>by
  rw [List.getD_eq_getElem?_getD,List.getElem?_eq_getElem (by rw [hg.fxl];exact hj)];rfl
 have hbll:o.bl.length=al.length:=hg.bll
 have hfll:o.fx.length=al.length:=hg.fxl
 have f1:=hc.tail.head
 have f3:=hc.tail.tail.tail.head
 have f4:=hc.tail.tail.tail.tail.head
 refine zgo ?_
 refine WO.makeN tab_ok rfl rfl rfl rfl rfl rfl rfl rfl rfl (by omega) fun c0 h0 hc0 hb0 hx0 hs0=>?_
 refine zgo ?_
 have g1:=hx0.xc f1
 refine zgo ?_
 refine Runs.loop (X:=IV) (fun x=>[(0,.pointer (some ⟨mb,0,none⟩)),(4,.slice (some ⟨h.size,0,none⟩) al.length al.length),(5,x.v),(22,.int .i64 (al.length:Int)),(23,.int .i64 (x.i:Int))])
  (fun x h'=>x.i≤al.length∧Ext h h'∧(∃ c,c.length=al.length*4∧Blk h' h.size c 175  ∧ ∀ j<x.i,Cells h' h.size (0+j*4) (o.key j).cells)∧Rd h' 4 x.v x.i (shC (o.to x.i))∧(∀ k,x.v.ownBlock=some k→h.size<k∧k<h'.size))
  (fun x=>al.length-x.i) ⟨0,.slice none 0 0⟩ ⟨rfl,rfl,rfl,rfl,rfl,trivial⟩ ⟨Nat.zero_le _,hx0,⟨c0,hc0,hb0,fun j hj=>absurd hj (Nat.not_lt_zero _)⟩,(Own.nil _ 0 _).rd,fun k hk=>by simp [Value.ownBlock] at hk⟩ ?_
 rintro ⟨i,v⟩ h1 ⟨hi,hx1,⟨c1,hc1,hb1,hk1⟩,hr1,hm1⟩ ih
 dsimp only at hi hx1 hb1 hk1 hr1 hm1 ih ⊢
 refine zgo ?_
 refine Runs.cond_dec rfl (fun hlt=>?_) (fun hge=>?_)
 rotate_left
 ·have hie:i=al.length:=by omega
  subst hie
  refine zgo ?_
  exact Runs.ret func89 (ret1 results89 rfl) ⟨hx1,hr1⟩
 have hlt':i<al.length:=by omega
 have hgi:al[i]? = some al[i]:=List.getElem?_eq_getElem hlt'
 have hmi:al[i]∈al:=List.getElem_mem hlt'
 generalize al[i]=ln at *
 have q4:=hx1.xc f4
 obtain ⟨b1,p1,cap1,hv1,_,c3⟩:=(hbr.ext hx1).cell (intsI_get (hbl i hlt'))
 rw [hv1] at q4
 refine zgo ?_
 refine zv (ShD.one ⟨i,32,o.blk i,0⟩) fun h2 hb2 hx2 hs2=>?_
 have hx02:=hx1.trans hx2
 have g1:=hx02.xc f1
 have hz1:=hx1.size
 have hzb:=hb1.lt
 refine zgo ?_
 refine Runs.loop (X:=JC) (fun x=>[(0,.pointer (some ⟨mb,0,none⟩)),(4,.slice (some ⟨h.size,0,none⟩) al.length al.length),(5,v),(22,.int .i64 (al.length:Int)),(23,.int .i64 (i:Int)),(6,.int .i64 (i:Int)),(7,.pointer (some ⟨h1.size,0,none⟩)),(8,.int .i64 ((2*x.c:Nat):Int)),(39,.int .i64 (al.length:Int)),(40,.int .i64 (x.j:Int))])
  (fun x h'=>h2=h'∧x.j≤al.length∧x.c=((List.range x.j).filter (cntP o.ld o.fx i)).length) (fun x=>al.length-x.j) ⟨0,0⟩ ⟨rfl,rfl,rfl,rfl,rfl,rfl,rfl,rfl,rfl,rfl,trivial⟩ ⟨rfl,Nat.zero_le _,rfl⟩ ?_
 rintro ⟨j,cn⟩ _ ⟨rfl,hj,hcn⟩ ih2
 dsimp only at hj hcn ih2 ⊢
 have hcl':cn≤j:=by rw [hcn];exact filter_range_le _ _
 refine zgo ?_
 refine Runs.cond_dec rfl (fun hltj=>?_) (fun hgej=>?_)
 ·have hltj':j<al.length:=by omega
  have hsn:=filter_range_succ (cntP o.ld o.fx i) j
  rw [← hcn] at hsn
  have q3:=hx02.xc f3
  obtain ⟨b5,p5,cap5,hv5,_,c5⟩:=(hfr.ext hx02).cell (bools_get (hgd j hltj'))
  rw [hv5] at q3
  have hfl:o.fx.length=al.length:=hg.fxl
  refine zgo ?_
  by_cases hji:j=i
  ·have hd:decide ((j:Int)=(i:Int))=true:=decide_eq_true (by omega)
   have hp:cntP o.ld o.fx i j=false:=by simp [cntP,hji]
   rw [hp] at hsn
   rw [hd]
   refine zgo ?_
   exact ih2 ⟨j+1,cn⟩ _ _ (by dsimp only;omega) ⟨rfl,rfl,rfl,rfl,rfl,rfl,rfl,rfl,rfl,rfl,trivial⟩ ⟨rfl,hltj',by dsimp only;rw [hsn];simp⟩
  ·have hd:decide ((j:Int)=(i:Int))=false:=decide_eq_false (by omega)
   rw [hd]
   refine zgo ?_
   cases hfx:o.fx.getD j false
   ·rw [hfx] at c5
    have hp:cntP o.ld o.fx i j=false:=by simp only [cntP,hfx,Bool.and_false,Bool.false_and]
    rw [hp] at hsn
    refine zgo ?_
    exact ih2 ⟨j+1,cn⟩ _ _ (by dsimp only;omega) ⟨rfl,rfl,rfl,rfl,rfl,rfl,rfl,rfl,rfl,rfl,trivial⟩ ⟨rfl,hltj',by dsimp only;rw [hsn];simp⟩
   ·rw [hfx] at c5
    have hp:cntP o.ld o.fx i j=aheadS o.ld j i:=by simp only [cntP,hfx,decide_eq_false hji,Bool.not_false,Bool.true_and]
    rw [hp] at hsn
    refine zgo ?_
    refine WO.call rfl rfl rfl rfl plain113 rfl (ahead_ret mb j i al o.ld _ (hml _ hx02) hltj' hlt') fun v3 h3 ⟨hh3,hv3⟩=>?_
    subst hh3 hv3
    refine zgo ?_
    refine Runs.cond rfl (fun e2=>?_) (fun e2=>?_)
    ·rw [e2] at hsn
     refine zgo ?_
     have e:((2*cn:Nat):Int)+2=((2*(cn+1):Nat):Int):=by omega
     rw [e]
     refine zgo ?_
     exact ih2 ⟨j+1,cn+1⟩ _ _ (by dsimp only;omega) ⟨rfl,rfl,rfl,rfl,rfl,rfl,rfl,rfl,rfl,rfl,trivial⟩ ⟨rfl,hltj',by dsimp only;rw [hsn];simp⟩
    ·rw [e2] at hsn
     refine zgo ?_
     exact ih2 ⟨j+1,cn⟩ _ _ (by dsimp only;omega) ⟨rfl,rfl,rfl,rfl,rfl,rfl,rfl,rfl,rfl,rfl,trivial⟩ ⟨rfl,hltj',by dsimp only;rw [hsn];simp⟩
 ·have hje:j=al.length:=by omega
  subst hje
  have hcnt:cn=cntS o.n o.ld o.fx i:=by rw [hcn,cntS,hn]
  clear ih2
  have s2:=hb2.cell (j:=2) rfl
  have hne:¬ h1.size=h.size:=by omega
  have hbk2:=hb1.ext hx2
  have hlm:=hb2.lt
  rw [hcnt]
  have keep:∀ h',Fr (fun k=>k=h1.size) h2 h'→Ext h h'∧Blk h' h.size c1 175∧(∀ j<i,Cells h' h.size (0+j*4) (o.key j).cells)∧Rd h' 4 v i (shC (o.to i)):=fun h' hf=>by
   refine ⟨hx02.trans_new (hf.mono fun k _ e=>.inr (by omega)),hbk2.fr hf (fun e=>hne e.symm),fun j hj=>hf.cells (fun e=>hne e.symm) (hx2.xcs (hk1 j hj)),?_⟩
   refine (hr1.ext hx2).fr hf fun k hk e=>?_
   have:=hm1 k hk;omega
  refine zgo ?_
  refine Runs.joinK (fun env' h'=>Sub [(0,.pointer (some ⟨mb,0,none⟩)),(4,.slice (some ⟨h.size,0,none⟩) al.length al.length),(5,v),(22,.int .i64 (al.length:Int)),(23,.int .i64 (i:Int)),(6,.int .i64 (i:Int)),(7,.pointer (some ⟨h1.size,0,none⟩)),(8,.int .i64 ((2*cntS o.n o.ld o.fx i+(if o.blk i<0 then 1 else 0):Nat):Int))] env'∧Fr (fun k=>k=h1.size) h2 h'∧Blk h' h1.size (ShD.cells ⟨i,if o.blk i<0 then 32 else 124,o.blk i,o.strd i⟩) 125) (fun k' hJ=>?_) ?_
  ·refine Runs.cond_dec rfl (fun hneg=>?_) (fun hpos=>?_)
   ·have hb':o.blk i<0:=hneg
    have e1:o.strd i=0:=by unfold OP.strd;rw [if_pos hb']
    refine zgo ?_
    refine hJ _ _ ⟨⟨rfl,rfl,rfl,rfl,rfl,rfl,rfl,?_,trivial⟩,Fr.refl _ _,?_⟩
    ·rw [if_pos hb'];rfl
    ·rw [if_pos hb',e1];exact hb2
   ·have hb':¬ o.blk i<0:=hpos
    have e1:o.strd i=o.st i:=by unfold OP.strd;rw [if_neg hb']
    refine zgo ?_
    refine zt (one_u8 _) hb2 fun h3 hb3 hx3 hs3=>?_
    obtain ⟨hx03,_⟩:=keep h3 hx3
    refine zgo ?_
    refine WO.call rfl rfl rfl rfl plain114 rfl (strand_ret mb b i al o.ld o.fx o.bl _ (hg0.ext hx03) hlt' hall) fun v4 h4 ⟨hx4,r4,hv4,hr4,hi4⟩=>?_
    subst hv4
    have hr4':=strand_uniq hi4 (hst i hlt')
    subst hr4'
    refine zgo ?_
    refine zt (one_int _) (hb3.ext hx4) fun h5 hb5 hx5 hs5=>?_
    refine zgo ?_
    refine hJ _ _ ⟨⟨rfl,rfl,rfl,rfl,rfl,rfl,rfl,?_,trivial⟩,(hx3.ex hx4).trans hx5,?_⟩
    ·rw [if_neg hb'];rfl
    ·rw [if_neg hb',e1];exact hb5
  rintro env' h3 ⟨hsub,hf3,hb3⟩
  refine Runs.sub hsub ?_
  clear hsub env'
  obtain ⟨hx03,_⟩:=keep h3 hf3
  refine zgo ?_
  refine WO.call rfl rfl rfl rfl plain115 rfl (ring_ret mb i al o.ld _ (hml _ hx03) hlt' hall) fun v4 h4 ⟨hh4,hv4⟩=>?_
  subst hh4 hv4
  refine zgo ?_
  refine Runs.joinK (fun env' h'=>Sub [(0,.pointer (some ⟨mb,0,none⟩)),(4,.slice (some ⟨h.size,0,none⟩) al.length al.length),(5,v),(22,.int .i64 (al.length:Int)),(23,.int .i64 (i:Int)),(6,.int .i64 (i:Int)),(7,.pointer (some ⟨h1.size,0,none⟩)),(8,.int .i64 ((2*cntS o.n o.ld o.fx i+(if o.blk i<0 then 1 else 0):Nat):Int))] env'∧Fr (fun k=>k=h1.size) h2 h'∧Blk h' h1.size (ShD.cells ⟨i,if ringS o.n o.ld i=true then 64 else if o.blk i<0 then 32 else 124,o.blk i,o.strd i⟩) 125) (fun k' hJ=>?_) ?_
  ·refine Runs.cond rfl (fun hq=>?_) (fun hq=>?_)
   ·refine zgo ?_
    refine zt (one_u8 _) hb3 fun h5 hb5 hx5 hs5=>?_
    refine zgo ?_
    refine hJ _ _ ⟨⟨rfl,rfl,rfl,rfl,rfl,rfl,rfl,rfl,trivial⟩,hf3.trans hx5,?_⟩
    rw [hn,if_pos hq];exact hb5
   ·refine zgo ?_
    refine hJ _ _ ⟨⟨rfl,rfl,rfl,rfl,rfl,rfl,rfl,rfl,trivial⟩,hf3,?_⟩
    rw [hn,if_neg (by rw [hq];simp)];exact hb3
  clear hb3 hx03
  clear hf3
  rintro env' h5 ⟨hsub,hf3,hb3⟩
  refine Runs.sub hsub ?_
  clear hsub env'
  obtain ⟨hx03,_⟩:=keep h5 hf3
  refine zgo ?_
  refine WO.call rfl rfl rfl rfl plain116 rfl (orphan_ret mb b i bs ps al o.ld o.fx o.bl ln _ (hs.ext hx03) hcl (hg0.ext hx03) hgi (hids ln hmi) hl hchl hnl) fun v6 h6 ⟨hx6,r6,hv6,hr6⟩=>?_
  subst hv6
  have horr:o.orp i=r6:=by
   rw [Bool.eq_iff_iff,hor i ln hgi,hr6]
  refine zgo ?_
  refine Runs.joinK (fun env' h'=>Sub [(0,.pointer (some ⟨mb,0,none⟩)),(4,.slice (some ⟨h.size,0,none⟩) al.length al.length),(5,v),(22,.int .i64 (al.length:Int)),(23,.int .i64 (i:Int)),(6,.int .i64 (i:Int)),(7,.pointer (some ⟨h1.size,0,none⟩)),(8,.int .i64 ((2*cntS o.n o.ld o.fx i+(if o.blk i<0 then 1 else 0):Nat):Int))] env'∧Fr (fun k=>k=h1.size) h2 h'∧Blk h' h1.size (o.sh i).cells 125) (fun k' hJ=>?_) ?_
  ·refine Runs.cond rfl (fun hq=>?_) (fun hq=>?_)
   ·refine zgo ?_
    refine zt (one_u8 _) (hb3.ext hx6) fun h7 hb7 hx7 hs7=>?_
    refine zgo ?_
    refine hJ _ _ ⟨⟨rfl,rfl,rfl,rfl,rfl,rfl,rfl,rfl,trivial⟩,(hf3.ex hx6).trans hx7,?_⟩
    unfold OP.sh OP.mark
    rw [horr,if_pos hq];exact hb7
   ·refine zgo ?_
    refine hJ _ _ ⟨⟨rfl,rfl,rfl,rfl,rfl,rfl,rfl,rfl,trivial⟩,hf3.ex hx6,?_⟩
    unfold OP.sh OP.mark
    rw [horr,if_neg (by rw [hq];simp)];exact hb3.ext hx6
  clear hb3 hx03 hx6 hr6 horr
  clear hf3
  rintro env' h7 ⟨hsub,hf7,hb7⟩
  refine Runs.sub hsub ?_
  clear hsub env'
  obtain ⟨hx07,hbk7,hk7,hr7⟩:=keep h7 hf7
  have s3:=hb7.cell (j:=3) rfl
  have hcl4':0+i*4+(o.key i).cells.length≤c1.length:=by rw [hc1];simp [Key.cells];omega
  have hcl5:0+i*4+(Key.cells ⟨((2*cntS o.n o.ld o.fx i+(if o.blk i<0 then 1 else 0):Nat):Int),(o.strd i:Int),(rankS al.length o.ld i:Int),(i:Int)⟩).length≤c1.length:=by rw [hc1];simp [Key.cells];omega
  refine zgo ?_
  refine Runs.joinK (fun env' h'=>Sub [(0,.pointer (some ⟨mb,0,none⟩)),(4,.slice (some ⟨h.size,0,none⟩) al.length al.length),(5,v),(22,.int .i64 (al.length:Int)),(23,.int .i64 (i:Int)),(6,.int .i64 (i:Int)),(7,.pointer (some ⟨h1.size,0,none⟩))] env'∧Ext h h'∧(∃ c,c.length=al.length*4∧Blk h' h.size c 175∧∀ j<i+1,Cells h' h.size (0+j*4) (o.key j).cells)∧Rd h' 4 v i (shC (o.to i))∧Blk h' h1.size (o.sh i).cells 125) (fun k' hJ=>?_) ?_
  ·refine Runs.drawn (m:=12) (fun h'=>h'=h7) (fun i=>Nat.beq i 11) mixed rfl ?_
   refine zp 0 rfl ?_
   refine zp 1 rfl ?_
   refine zp 2 rfl ?_
   refine zp 3 rfl ?_
   refine WF.take 4 rfl (fun _ hS=>by rw [hS];exact ov_load tab_ok rfl rfl rfl rfl s3) rfl rfl rfl rfl (by kernel_rfl) ?_
   refine zp 5 rfl ?_
   refine zp 6 rfl ?_
   refine zp 8 rfl ?_
   refine WF.call 7 (by kernel_rfl) rfl rfl rfl rfl rfl plain117 rfl (rank_ret mb i al o.ld _ (hml _ hx07) hlt' hall) fun v8 h8 ⟨hh8,hv8⟩=>⟨.inr hh8,?_⟩
   subst hh8 hv8
   refine WF.ex 9 (by kernel_rfl) rfl rfl rfl rfl ((ov_buildA tab_ok rfl rfl rfl rfl rfl rfl rfl).ex ⟨.inr rfl,?_⟩)
   refine WF.ex 10 (by kernel_rfl) rfl rfl rfl rfl ((ov_indexAddr tab_ok rfl rfl rfl rfl rfl rfl hlt').ex ⟨.inr rfl,?_⟩)
   refine WF.putN 11 tab_ok (by kernel_rfl) rfl rfl rfl rfl rfl rfl rfl rfl rfl (Key.one ⟨((2*cntS o.n o.ld o.fx i+(if o.blk i<0 then 1 else 0):Nat):Int),(o.strd i:Int),(rankS al.length o.ld i:Int),(i:Int)⟩) hbk7 hcl5 rfl fun h9 hb9 hx9 hs9=>?_
   refine zd ?_
   have hrk:rankS al.length o.ld i=rankS o.n o.ld i:=by rw [hn]
   rw [hrk] at hb9
   replace hb9:Blk h9 h.size (setAt c1 (0+i*4) (o.key i).cells) 175:=hb9
   refine hJ _ _ ⟨⟨rfl,rfl,rfl,rfl,rfl,rfl,rfl,trivial⟩,hx07.wr hx9 (Nat.le_refl _),⟨_,?_,hb9,fun j hj=>?_⟩,?_,?_⟩
   ·rw [setAt_length _ _ _ hcl4'];exact hc1
   ·rcases Nat.lt_succ_iff_lt_or_eq.1 hj with e | e
    ·exact hbk7.setAt_old hb9 hcl4' (hk7 j e) (.inl (by simp [Key.cells];omega))
    ·subst e;exact hb9.setAt_new hcl4'
   ·exact hr7.fr hx9 fun k hk e=>by have:=hm1 k hk;omega
   ·exact hb7.fr hx9 (by omega)
  clear keep s3 hb7 hbk7 hk7 hr7 hx07 hf7
  rintro env' h8 ⟨hsub,hx08,⟨c8,hc8,hbk8,hk8⟩,hr8,hb8⟩
  refine Runs.sub hsub ?_
  clear hsub env'
  have hol:(o.to i).length=i:=o.to_length i
  refine zgo ?_
  refine Runs.loop (X:=Nat) (fun k=>[(0,.pointer (some ⟨mb,0,none⟩)),(4,.slice (some ⟨h.size,0,none⟩) al.length al.length),(5,v),(22,.int .i64 (al.length:Int)),(23,.int .i64 (i:Int)),(6,.int .i64 (i:Int)),(7,.pointer (some ⟨h1.size,0,none⟩)),(10,.int .i64 (k:Int))])
   (fun k h'=>Ext h8 h'∧k≤i∧∀ y∈(o.to i).take k,lessS (o.key y.i) (o.key i)=true) (fun k=>i-k) 0 ⟨rfl,rfl,rfl,rfl,rfl,rfl,rfl,rfl,trivial⟩ ⟨Fr.refl _ _,Nat.zero_le _,by simp⟩ ?_
  rintro k h9 ⟨hx9,hk,hless⟩ ih9
  have hx09:=hx08.trans hx9
  have hr9:=hr8.ext hx9
  obtain ⟨adv,capv,hvv⟩:=hr9.form
  subst hvv
  have hspan:=o.ins_at hless
  refine zgo ?_
  refine Runs.joinK (fun env' h'=>∃ r,Sub [(0,.pointer (some ⟨mb,0,none⟩)),(4,.slice (some ⟨h.size,0,none⟩) al.length al.length),(5,.slice adv i capv),(22,.int .i64 (al.length:Int)),(23,.int .i64 (i:Int)),(6,.int .i64 (i:Int)),(7,.pointer (some ⟨h1.size,0,none⟩)),(10,.int .i64 (k:Int)),(111,.bool r)] env'∧Ext h8 h'∧(r=true→∃ y,(o.to i)[k]? = some y∧lessS (o.key y.i) (o.key i)=true)∧(r=false→∀ y,(o.to i)[k]? = some y→lessS (o.key y.i) (o.key i)=false)) (fun k' hJ=>?_) ?_
  ·by_cases hki:k<i
   ·have hd:decide ((k:Int)<(i:Int))=true:=decide_eq_true (by omega)
    have hgk:(o.to i)[k]? = some (o.to i)[k]:=List.getElem?_eq_getElem (by omega)
    have hmk:=o.to_mem i _ (List.getElem_mem (show k<(o.to i).length by omega))
    generalize (o.to i)[k]=y at *
    obtain ⟨b0,p0,cap0,hv0,_,hcs⟩:=hr9.pos (by omega)
    cases hv0
    have hy:=shC_get hcs hgk
    have y0:=hy.head
    have ky:=hx9.xcs (hk8 y.i (by omega))
    have ki:=hx9.xcs (hk8 i (by omega))
    refine Runs.drawn (m:=19) (fun h'=>Ext h9 h') (fun _=>false) mixed rfl ?_
    refine zp 0 (Fr.refl _ _) ?_
    refine zp 1 (Fr.refl _ _) ?_
    refine zp 2 (Fr.refl _ _) ?_
    refine zp 3 (Fr.refl _ _) ?_
    rw [hd]
    refine zp 4 (Fr.refl _ _) ?_
    refine zp 5 (Fr.refl _ _) ?_
    refine zp 6 (Fr.refl _ _) ?_
    refine zp 7 (Fr.refl _ _) ?_
    refine zi 8 hki (Fr.refl _ _) ?_
    refine zp 9 (Fr.refl _ _) ?_
    refine zl 10 (fun _ hS=>(Fr.xc hS y0)) (Fr.refl _ _) ?_
    refine WF.take 11 rfl (fun _ _=>ov_indexAddr tab_ok rfl rfl rfl rfl rfl rfl (show y.i<al.length by omega)) (Fr.refl _ _) rfl rfl rfl (by kernel_rfl) ?_
    refine zL 12 (fun _ hS=>(Fr.xcs hS ky)) (Fr.refl _ _) ?_
    refine zp 13 (Fr.refl _ _) ?_
    refine zp 14 (Fr.refl _ _) ?_
    refine zi 15 hlt' (Fr.refl _ _) ?_
    refine zL 16 (fun _ hS=>(Fr.xcs hS ki)) (Fr.refl _ _) ?_
    refine WF.call 17 (by kernel_rfl) rfl rfl rfl rfl rfl plain118 rfl (less_ret (o.key y.i) (o.key i) _) fun v10 h10 ⟨hx10,hv10⟩=>⟨.inr hx10,?_⟩
    subst hv10
    refine zp 18 hx10 ?_
    refine zd ?_
    refine hJ _ _ ⟨_,⟨rfl,rfl,rfl,rfl,rfl,rfl,rfl,rfl,rfl,trivial⟩,hx9.trans hx10,fun e=>⟨y,hgk,e⟩,fun e z hz=>?_⟩
    rw [hgk] at hz;cases hz;exact e
   ·have hd:decide ((k:Int)<(i:Int))=false:=decide_eq_false (by omega)
    refine Runs.drawn (m:=19) (fun h'=>Ext h9 h') (fun _=>false) mixed rfl ?_
    refine zp 0 (Fr.refl _ _) ?_
    refine zp 1 (Fr.refl _ _) ?_
    refine zp 2 (Fr.refl _ _) ?_
    refine zp 3 (Fr.refl _ _) ?_
    rw [hd]
    refine zp 4 (Fr.refl _ _) ?_
    refine zq 5 (Fr.refl _ _) ?_
    refine zq 6 (Fr.refl _ _) ?_
    refine zq 7 (Fr.refl _ _) ?_
    refine zq 8 (Fr.refl _ _) ?_
    refine zq 9 (Fr.refl _ _) ?_
    refine zq 10 (Fr.refl _ _) ?_
    refine zq 11 (Fr.refl _ _) ?_
    refine zq 12 (Fr.refl _ _) ?_
    refine zq 13 (Fr.refl _ _) ?_
    refine zq 14 (Fr.refl _ _) ?_
    refine zq 15 (Fr.refl _ _) ?_
    refine zq 16 (Fr.refl _ _) ?_
    refine zq 17 (Fr.refl _ _) ?_
    refine zp 18 (Fr.refl _ _) ?_
    refine zd ?_
    refine hJ _ _ ⟨false,⟨rfl,rfl,rfl,rfl,rfl,rfl,rfl,rfl,rfl,trivial⟩,hx9,fun e=>(by cases e),fun _ z hz=>?_⟩
    rw [List.getElem?_eq_none (by omega)] at hz;cases hz
  clear hr9 hx09 hx9
  rintro env' h9 ⟨r,hsub,hx9,hyes,hno⟩
  refine Runs.sub hsub ?_
  clear hsub env'
  have hx09:=hx08.trans hx9
  have hr9:=hr8.ext hx9
  refine Runs.cond rfl (fun hq=>?_) (fun hq=>?_)
  ·obtain ⟨y,hgk,hly⟩:=hyes hq
   have hki:k<i:=by have:=(List.getElem?_eq_some_iff.1 hgk).1;omega
   refine zgo ?_
   refine ih9 (k+1) _ _ (by omega) ⟨rfl,rfl,rfl,rfl,rfl,rfl,rfl,rfl,trivial⟩ ⟨hx9,hki,fun z hz=>?_⟩
   rw [List.take_succ_eq_append_getElem (by omega)] at hz
   rcases List.mem_append.1 hz with e | e
   ·exact hless z e
   ·simp at e
    obtain ⟨_,e2⟩:=List.getElem?_eq_some_iff.1 hgk
    rw [e,e2];exact hly
  ·have hto:=hspan (hno hq)
   have hb9:=hb8.ext hx9
   have s9:Cells h9 h1.size 0 (o.sh i).cells:=hb9.cells
   obtain ⟨t1,t2⟩:=shC_split (o.to i) k (by omega)
   have hlens:((o.to i).take k).length=k:=by rw [List.length_take];omega
   have base:Rd h9 4 (.slice adv k k) k (shC ((o.to i).take k)):=by
    refine ⟨by rw [length_shC,hlens],?_⟩
    rcases hr9.2 with ⟨e1,e2⟩ | ⟨b0,p0,cap0,e1,e2,e3⟩
    ·cases e1;left;exact ⟨by rw [show k=0 by omega],by omega⟩
    ·cases e1
     right
     refine ⟨b0,p0,k,rfl,Nat.le_refl _,?_⟩
     rw [← t1];exact e3.take _
   refine zgo ?_
   refine Runs.joinK (fun env' h'=>∃ v',Sub [(0,.pointer (some ⟨mb,0,none⟩)),(4,.slice (some ⟨h.size,0,none⟩) al.length al.length),(5,v'),(22,.int .i64 (al.length:Int)),(23,.int .i64 (i:Int))] env'∧Ext h9 h'∧Rd h' 4 v' (i+1) (shC (o.to (i+1)))∧(∀ k,v'.ownBlock=some k→h.size<k∧k<h'.size)) (fun k' hJ=>?_) ?_
   ·skip
    have fin:∀ (vC:Value) (hB hC:Heap),Ext h9 hB→Rd hC 4 vC (k+(1+(i-k))) (shC ((o.to i).take k)++((o.sh i).cells++shC ((o.to i).drop k)))→Ext hB hC→(vC = .slice adv k k∨vC.ownBlock=some hB.size)→Ext h9 hC∧Rd hC 4 vC (i+1) (shC (o.to (i+1)))∧(∀ k,vC.ownBlock=some k→h.size<k∧k<hC.size):=fun vC hB hC hxB r1 r2 r3=>by
     have hz9:=hx09.size
     have hzB:=hxB.size
     have hzC:=r2.size
     have hz1b:=hb9.lt
     refine ⟨hxB.trans r2,?_,fun kk hkk=>?_⟩
     ·rw [hto,show i+1=k+(1+(i-k)) by omega]
      have:shC ((o.to i).take k++o.sh i::(o.to i).drop k)=shC ((o.to i).take k)++((o.sh i).cells++shC ((o.to i).drop k)):=by simp [shC]
      rw [this];exact r1
     ·obtain ⟨b0,p0,cap0,hv0,_,hcs⟩:=r1.pos (by omega)
      have hltC:b0<hC.size:=lt_of_cell (hcs 0 _ (List.getElem?_eq_getElem (by rw [List.length_append,List.length_append];simp [ShD.cells];omega)))
      have hkb:kk=b0:=by rw [hv0] at hkk;simp [Value.ownBlock] at hkk;exact hkk.symm
      subst hkb
      refine ⟨?_,hltC⟩
      rcases r3 with r3 | r3
      ·have hown:Value.ownBlock (.slice adv i capv)=some kk:=by
        rw [r3] at hkk
        cases adv with
        | none=>simp [Value.ownBlock] at hkk
        | some a=>exact hkk
       exact (hm1 kk hown).1
      ·rw [r3] at hkk;cases hkk;omega
    have oneT:One ((o.sh i).cells++shC ((o.to i).drop k)):=by
     have:(o.sh i).cells++shC ((o.to i).drop k)=shC (o.sh i::(o.to i).drop k):=by simp [shC]
     rw [this];exact one_shC _
    have hcapv:k≤capv:=by
     rcases hr9.2 with ⟨e1,e2⟩ | ⟨b0,p0,cap0,e1,e2,e3⟩
     ·cases e1;omega
     ·cases e1;omega
    refine Runs.drawn (m:=12) (fun h'=>Ext h9 h') (fun _=>false) mixed rfl ?_
    refine zp 0 (Fr.refl _ _) ?_
    refine zp 1 (Fr.refl _ _) ?_
    refine zp 2 (Fr.refl _ _) ?_
    refine WF.take 3 rfl (fun _ _=>ov_slice3 tab_ok rfl rfl rfl rfl rfl rfl rfl rfl hcapv) (Fr.refl _ _) rfl rfl rfl (by kernel_rfl) ?_
    refine zL 4 (fun _ hS=>(Fr.xcs hS s9)) (Fr.refl _ _) ?_
    refine zp 6 (Fr.refl _ _) ?_
    refine zp 7 (Fr.refl _ _) ?_
    rcases hr9.2 with ⟨e1,e2⟩ | ⟨b0,p0,cap0,e1,e2,e3⟩
    ·simp only [Value.slice.injEq] at e1
     obtain ⟨a1,a2,a3⟩:=e1
     subst a1 a3
     have hk0:k=0:=by omega
     have hdr:(o.to i).drop k=[]:=List.drop_eq_nil_of_le (by omega)
     refine WF.take 8 rfl (fun _ _=>ov_slice_lo_nil tab_ok rfl rfl rfl rfl rfl (natOf_of (by omega)) a2) (Fr.refl _ _) rfl rfl rfl (by kernel_rfl) ?_
     refine WF.ex 5 (by kernel_rfl) rfl rfl rfl rfl (ox_build1 tab_ok rfl rfl rfl rfl rfl rfl rfl rfl ⟨.inr (Fr.push _ _ _),?_⟩)
     have hxA:Ext h9 (h9.push (.cells (o.sh i).cells.toArray 125 (0,0))):=Fr.push _ _ _
     have bA:Rd (h9.push (.cells (o.sh i).cells.toArray 125 (0,0))) 4 (.slice (some ⟨h9.size,0,none⟩) 1 1) 1 (o.sh i).cells:=⟨rfl,.inr ⟨_,_,_,rfl,Nat.le_refl _,cells_push_new _ _ _⟩⟩
     refine WF.ex 9 (by kernel_rfl) rfl rfl rfl rfl (ox_append_rd (m:=i-k) (news:=shC ((o.to i).drop k)) tab_ok rfl rfl rfl rfl rfl rfl rfl bA ⟨by rw [length_shC,hdr];simp;omega,.inl ⟨rfl,by omega⟩⟩ (one_shC _) (show (1+(i-k))*33≤140737488355328 by omega) fun vB hB q1 q2 q3=>⟨.inr (hxA.trans q2),?_⟩)
     refine WF.ex 10 (by kernel_rfl) rfl rfl rfl rfl (ox_append_rd tab_ok rfl rfl rfl rfl rfl rfl rfl (base.ext (hxA.trans q2)) q1 oneT (show (k+(1+(i-k)))*33≤140737488355328 by omega) fun vC hC r1 r2 r3=>⟨.inr ((hxA.trans q2).trans r2),?_⟩)
     refine zx 11 (((hxA.trans q2).trans r2)) ?_
     refine zd ?_
     exact hJ _ _ ⟨vC,⟨rfl,rfl,rfl,rfl,rfl,trivial⟩,fin vC hB hC (hxA.trans q2) r1 r2 r3⟩
    ·cases e1
     have hcut:=hr9.cut k i hk (Nat.le_refl _)
     have hcells:((shC (o.to i)).take (i*4)).drop (k*4)=shC ((o.to i).drop k):=by
      rw [List.take_of_length_le (by rw [length_shC,hol];omega),t2]
     rw [hcells] at hcut
     refine WF.take 8 rfl (fun _ _=>ov_slice_lo tab_ok rfl rfl rfl rfl rfl rfl hk) (Fr.refl _ _) rfl rfl rfl (by kernel_rfl) ?_
     refine WF.ex 5 (by kernel_rfl) rfl rfl rfl rfl (ox_build1 tab_ok rfl rfl rfl rfl rfl rfl rfl rfl ⟨.inr (Fr.push _ _ _),?_⟩)
     have hxA:Ext h9 (h9.push (.cells (o.sh i).cells.toArray 125 (0,0))):=Fr.push _ _ _
     have bA:Rd (h9.push (.cells (o.sh i).cells.toArray 125 (0,0))) 4 (.slice (some ⟨h9.size,0,none⟩) 1 1) 1 (o.sh i).cells:=⟨rfl,.inr ⟨_,_,_,rfl,Nat.le_refl _,cells_push_new _ _ _⟩⟩
     refine WF.ex 9 (by kernel_rfl) rfl rfl rfl rfl (ox_append_rd (m:=i-k) (news:=shC ((o.to i).drop k)) tab_ok rfl rfl rfl rfl rfl rfl rfl bA (hcut.ext hxA) (one_shC _) (show (1+(i-k))*33≤140737488355328 by omega) fun vB hB q1 q2 q3=>⟨.inr (hxA.trans q2),?_⟩)
     refine WF.ex 10 (by kernel_rfl) rfl rfl rfl rfl (ox_append_rd tab_ok rfl rfl rfl rfl rfl rfl rfl (base.ext (hxA.trans q2)) q1 oneT (show (k+(1+(i-k)))*33≤140737488355328 by omega) fun vC hC r1 r2 r3=>⟨.inr ((hxA.trans q2).trans r2),?_⟩)
     refine zx 11 (((hxA.trans q2).trans r2)) ?_
     refine zd ?_
     exact hJ _ _ ⟨vC,⟨rfl,rfl,rfl,rfl,rfl,trivial⟩,fin vC hB hC (hxA.trans q2) r1 r2 r3⟩
   rintro env' h10 ⟨v',hsub,hx10,hr10,hm10⟩
   refine Runs.sub hsub ?_
   clear hsub env'
   refine zgo ?_
   exact ih ⟨i+1,v'⟩ _ _ (by dsimp only;omega) ⟨rfl,rfl,rfl,rfl,rfl,trivial⟩ ⟨hlt',hx09.trans hx10,⟨c8,hc8,hbk8.ext (hx9.trans hx10),fun j hj=>(hx9.trans hx10).xcs (hk8 j hj)⟩,hr10,hm10⟩
end Go.Proofs.YtlaffgagmncgjaaGreatDoor
