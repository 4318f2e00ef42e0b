import Derived.Test.YtlaffgagmncgjaaGreatDoorL6
import Derived.Test.YtlaffgagmncgjaaGreatDoorRows
import Derived.ProofKit
import Derived.OpenShut
import Derived.SizedLaws
import Derived.MakeChecks
import Derived.Stop.Joined
import Derived.Deep.Slices
import Derived.Test.YtlaffgagmncgjaaGreatDoorTie
import Derived.Test.YtlaffgagmncgjaaGreatDoorCards
import Derived.SevenTiedAt
import Derived.LaidMore
set_option maxRecDepth 100000
namespace Go.Proofs.YtlaffgagmncgjaaGreatDoor
open _root_.Go.Proofs.Tryz Go Go.Pat Go.Proofs Go.ChangeShapes Go.WideShapes Go.ChangeAt Go.RowKit
theorem Tryz.own:ownKnob Tryz.prog.godebug=none:=by kernel_rfl
theorem Tryz.laidOut:laidOutB Tryz.prog=true:=by kernel_rfl
theorem mem_weightsAll {H:Type} {P:Program} {e:TypeId} {d:DataW H} {n:Nat} (hn:n∈d.weights P e):∀ {l:List (DataW H)},d∈l→n∈DataW.weightsAll P e l
 | [],hd=>by cases hd
 | x::l,hd=>by
  rw [DataW.weightsAll,List.mem_append]
  rcases List.mem_cons.1 hd with rfl | hd
  ·exact .inl hn
  ·exact .inr (mem_weightsAll hn hd)
theorem six_cells {H:Type} {enc:TypeId × Value→H} {w:World} {base:Nat} {sp:Nat→Bool} {held:Bool} {n:Nat} {fs:Array Field} {cs:List Value} {xs:List (DataW H × List MemPlace)}
  (hfs:fs.toList.map (fun f=>(f.offset,f.type,Tryz.prog.cellsOf f.type))=[(0,3,1),(1,3,1),(2,3,1),(3,3,1),(4,9,1),(5,9,1)])
  (hlen:cs.length=6) (hxl:xs.length=fs.size)
  (hf:∀ (i:Nat) (f:Field),fs[i]? = some f→DataW.trod enc Tryz.prog w base sp held n f.type ((cs.drop f.offset).take (Tryz.prog.cellsOf f.type))=xs[i]?) :
  ∃ v0 v1 v2 v3 v4 v5 x0 x1 x2 x3 x4 x5,cs=[v0,v1,v2,v3,v4,v5]∧xs=[x0,x1,x2,x3,x4,x5] ∧
   DataW.trod enc Tryz.prog w base sp held n 3 [v0]=some x0∧DataW.trod enc Tryz.prog w base sp held n 3 [v1]=some x1∧DataW.trod enc Tryz.prog w base sp held n 3 [v2]=some x2 ∧
   DataW.trod enc Tryz.prog w base sp held n 3 [v3]=some x3∧DataW.trod enc Tryz.prog w base sp held n 9 [v4]=some x4∧DataW.trod enc Tryz.prog w base sp held n 9 [v5]=some x5:=by
 have hsz:fs.size=6:=by simpa using congrArg List.length hfs
 rw [hsz] at hxl
 have get:∀ (i:Nat) (o c:Nat) (t:TypeId),[(0,3,1),(1,3,1),(2,3,1),(3,3,1),(4,9,1),(5,9,1)][i]? = some (o,t,c) →
   DataW.trod enc Tryz.prog w base sp held n t ((cs.drop o).take c)=xs[i]?:=by
  intro i o c t hi
  rw [← hfs,List.getElem?_map] at hi
  obtain ⟨f,hfi,he⟩:=Option.map_eq_some_iff.1 hi
  cases he
  exact hf i f (by simpa using hfi)
 match cs,hlen,xs,hxl with
 | [v0,v1,v2,v3,v4,v5],_,[x0,x1,x2,x3,x4,x5],_ =>
  exact ⟨v0,v1,v2,v3,v4,v5,x0,x1,x2,x3,x4,x5,rfl,rfl,get 0 0 1 _ rfl,get 1 1 1 _ rfl,get 2 2 1 _ rfl,get 3 3 1 _ rfl,get 4 4 1 _ rfl,get 5 5 1 _ rfl⟩
theorem open_op {H:Type} {enc:TypeId × Value→H} {w:World} {base:Nat} {sp:Nat→Bool} {held:Bool} {fuel:Nat} {cs:List Value} {x:DataW H × List MemPlace}
  (h:DataW.trod enc Tryz.prog w base sp held fuel 49 cs=some x) (hw:∀ n∈x.1.weights Tryz.prog 49,n≤reachBytes):∃ o:OpD,o.ok∧cs=o.cells:=by
 obtain ⟨xs,n,_,rfl,hlen,hxl,hf⟩:=DataW.trod_struct Tryz.underlying49 h
 have c6:Tryz.prog.cellsOf 49=6:=by kernel_rfl
 rw [c6] at hlen
 obtain ⟨v0,v1,v2,v3,v4,v5,x0,x1,x2,x3,x4,x5,rfl,rfl,f0,f1,f2,f3,f4,f5⟩:=six_cells (by kernel_rfl) hlen hxl hf
 clear hf
 obtain ⟨k,e0,r0,w0⟩:=DataW.trod_int Tryz.underlying3 f0
 obtain ⟨a,e1,r1,w1⟩:=DataW.trod_int Tryz.underlying3 f1
 obtain ⟨b,e2,r2,w2⟩:=DataW.trod_int Tryz.underlying3 f2
 obtain ⟨c,e3,r3,w3⟩:=DataW.trod_int Tryz.underlying3 f3
 obtain ⟨s,e4,r4,_⟩:=DataW.trod_string Tryz.underlying9 f4
 obtain ⟨t,e5,r5,_⟩:=DataW.trod_string Tryz.underlying9 f5
 cases e0;cases e1;cases e2;cases e3;cases e4;cases e5
 subst r0 r1 r2 r3 r4 r5
 simp only [Lit.wf,Bool.and_eq_true,decide_eq_true_eq] at w0 w1 w2 w3
 have hss:∀ q:ByteArray,str q.data.toList=q:=fun q=>by cases q;rfl
 have hr:reachBytes≤281474976710656:=by decide
 simp only [List.map_cons,List.map_nil,DataW.weights,Tryz.underlying49,DataW.weightsEach,List.nil_append,List.append_nil] at hw
 have g4:=hw s.data.toList.length (by simp)
 have g5:=hw t.data.toList.length (by simp)
 exact ⟨⟨k,a,b,c,s.data.toList,t.data.toList⟩,⟨w0,w1,w2,w3,Nat.le_trans g4 hr,Nat.le_trans g5 hr⟩,by simp [OpD.cells,hss]⟩
theorem opsC_cells {h:Heap} {b:Nat}:∀ {l:List OpD} {p:Nat},(∀ i o,l[i]? = some o→Cells h b (p+i*6) o.cells)→Cells h b p (opsC l)
 | [],_,_=>fun _ _ hj=>by simp [opsC] at hj
 | o::l,p,hc=>by
  have ih:=opsC_cells (h:=h) (b:=b) (l:=l) (p:=p+6) (fun i o' hi=>by
   have:=hc (i+1) o' (by simpa using hi)
   rwa [show p+(i+1)*6=p+6+i*6 by omega] at this)
  intro j v hj
  have e6:o.cells.length=6:=rfl
  rw [opsC,List.flatMap_cons] at hj
  by_cases hlt:j<6
  ·rw [List.getElem?_append_left (by omega)] at hj
   have:=hc 0 o rfl j v hj
   simpa using this
  ·rw [List.getElem?_append_right (by omega),e6] at hj
   have:=ih (j-6) v hj
   rwa [show p+6+(j-6)=p+j by omega] at this
theorem open_ops {H:Type} {enc:TypeId × Value→H} {w:World} {base:Nat} {sp:Nat→Bool} {held:Bool} {v:Value} {d:DataW H} {p:List MemPlace}
  (hval:Value.okWide Tryz.prog w .any base 22 v)
  (h:DataW.Trod enc Tryz.prog w 0 sp held 22 v d p) (hw:∀ n∈d.weights Tryz.prog 22,n≤reachBytes) :
  ∃ l:List OpD,Rd w.heap 6 v l.length (opsC l)∧(∀ o∈l,OpD.ok o)∧l.length≤281474976710656:=by
 obtain ⟨a0,len,cap,rfl⟩:=okWide_slice Tryz.underlying22 hval
 obtain ⟨fuel,h⟩:=h
 have c6:Tryz.prog.cellsOf 49=6:=by kernel_rfl
 have b64:Tryz.prog.bytesOf 49=64:=by kernel_rfl
 have hr:reachBytes≤281474976710656:=by decide
 rcases Deep.open_slice Tryz.underlying22 h with ⟨hv,_⟩ | ⟨a,len1,cap1,m,n,D,Pl,hv,_,hl,hm,hmm,hx,hel⟩
 ·cases hv
  exact ⟨[],⟨rfl,.inl ⟨rfl,rfl⟩⟩,fun o ho=>(List.not_mem_nil ho).elim,by simp⟩
 ·cases hv
  cases hx
  have hspot:a.spot=none:=by
   simp only [Value.okWide,Cell.okWide,Cell.ok,Tryz.underlying22] at hval
   exact hval.2.2.2.1
  obtain ⟨ab,ao,sp'⟩:=a
  cases hspot
  have hlm:len≤m:=by rw [hmm];split<;>omega
  simp only [DataW.weights,Tryz.underlying22,b64] at hw
  rw [c6] at hel
  have hlen:len≤281474976710656:=by
   have:=hw _ (List.mem_cons_self ..)
   simp only [List.length_map,List.length_range] at this
   omega
  have key:∀ i,i<len→∃ o:OpD,o.ok∧Cells w.heap ab (ao+i*6) o.cells:=by
   intro i hi
   obtain ⟨cs,hc,ht⟩:=hel i (by omega)
   obtain ⟨o,ok,rfl⟩:=open_op ht (fun k hk=>hw k (List.mem_cons_of_mem _ (List.mem_append_left _ (mem_weightsAll hk (List.mem_map.2 ⟨i,List.mem_range.2 hi,rfl⟩)))))
   obtain ⟨_,hcl,hcell⟩:=World.cells?_some hc
   have e6:o.cells.length=6:=rfl
   refine ⟨o,ok,fun j u hj=>?_⟩
   have hj6:j<6:=by have:=(List.getElem?_eq_some_iff.1 hj).1;omega
   have:=hcell j hj6
   rw [hj,WideShapes.add_plain,WideShapes.add_plain] at this
   rw [cellAt]
   simp only [World.cell?] at this
   revert this
   generalize w.heap[ab]? = z
   cases z with
   | none=>intro e;cases e
   | some z =>
    cases z with
    | cells c t fr=>intro e;simpa using e
    | map _ _=>intro e;cases e
    | _=>intro e;cases e
  have inh:Inhabited OpD:=⟨⟨0,0,0,0,[],[]⟩⟩
  obtain ⟨F,hF⟩:=Deep.choose_lt (p:=fun i (o:OpD)=>o.ok∧Cells w.heap ab (ao+i*6) o.cells) key
  refine ⟨(List.range len).map F,⟨by rw [length_opsC],?_⟩,fun o ho=>?_,by simpa using hlen⟩
  ·right
   refine ⟨ab,ao,cap,by simp,by simpa using hl,opsC_cells fun i o hi=>?_⟩
   rw [List.getElem?_map] at hi
   obtain ⟨i',hi',rfl⟩:=Option.map_eq_some_iff.1 hi
   have hi2:=List.getElem?_eq_some_iff.1 hi'
   have e:i'=i:=by simpa using hi2.2.symm
   subst e
   exact (hF i' (by simpa using hi2.1)).2
  ·obtain ⟨i,hi,rfl⟩:=List.mem_map.1 ho
   exact (hF i (List.mem_range.1 hi)).1
theorem ints_of_trod {H:Type} {enc:TypeId × Value→H} {P:Program} {w:World} {base:Nat} {sp:Nat→Bool} {held:Bool} {fuel n:Nat} {t e:TypeId} {k:IntKind} {cs:List Value} {q:List MemPlace} {l:List Int}
  (ht:P.underlying t=some (.array n e)) (he:P.underlying e=some (.int k)) (c1:P.cellsOf e=1) (ct:P.cellsOf t=n)
  (h:DataW.trod enc P w base sp held fuel t cs=some (.agg (l.map fun z=>.lit (.int k z)),q)):cs=l.map fun z=>Value.int k z:=by
 obtain ⟨xs,m,_,hx,hcl,hn,hel⟩:=DataW.trod_array ht h
 simp only [Prod.mk.injEq,DataW.agg.injEq] at hx
 have hll:l.length=n:=by
  have:=congrArg List.length hx.1
  simp only [List.length_map] at this
  omega
 rw [ct] at hcl
 apply List.ext_getElem?
 intro i
 by_cases hi:i<n
 ·have h0:=hel i hi
  rw [c1,Nat.mul_one,List.drop_eq_getElem_cons (by omega),List.getElem?_eq_getElem (by omega)] at h0
  obtain ⟨z,e1,e2,_⟩:=DataW.trod_int he (show DataW.trod _ _ _ _ _ _ _ _ [cs[i]]=some xs[i] from h0)
  have h1:=congrArg (·[i]?) hx.1
  simp only [List.getElem?_map,List.getElem?_eq_getElem (show i<l.length by omega),List.getElem?_eq_getElem (show i<xs.length by omega),Option.map_some,Option.some.injEq] at h1
  rw [e2] at h1
  have hz:l[i]=z:=by simpa using h1
  rw [List.getElem?_map,List.getElem?_eq_getElem (show i<cs.length by omega),List.getElem?_eq_getElem (show i<l.length by omega),Option.map_some,hz]
  simpa using e1
 ·rw [List.getElem?_eq_none (by omega),List.getElem?_eq_none (by simp;omega)]
theorem tab_of_laid {W:World} (h:laidMetH Tryz.prog Rows.appliesRow.laid W):Tab10 W.heap:=by
 rw [MakeChecks.laidMetH_plain _ _ _ (by kernel_rfl)] at h
 obtain ⟨ps,⟨g0,t0,cs0,f0,p0,q0,hg0,ht0,hv0,hd0,⟨g1,t1,cs1,f1,p1,q1,hg1,ht1,hv1,hd1,⟨g2,t2,cs2,f2,p2,q2,hg2,ht2,hv2,hd2,_,_⟩,_⟩,_⟩,_,_⟩:=h
 obtain rfl:=Option.some.inj (glob0.symm.trans hg2)
 have hT:(Tryz.prog.globals[0]?).map (·.type)=some 218:=by kernel_rfl
 obtain rfl:=Option.some.inj (hT.symm.trans ht2)
 have hl:=ints_of_trod (l:=Lib.pow10Tab) (k:=.u64) Tryz.underlying218 Tryz.underlying212 (by kernel_rfl) (by kernel_rfl) hd2
 simp only [World.var?,hg2,Option.bind_some] at hv2
 revert hv2
 generalize hz:W.heap[0]? = z
 cases z with
 | none=>intro e;cases e
 | some z =>
  cases z with
  | cells c t fr =>
   intro e
   cases e
   refine ⟨t,fr,?_⟩
   rw [hz,← hl]
  | _=>intro e;cases e
end Go.Proofs.YtlaffgagmncgjaaGreatDoor
namespace Go.Proofs.YtlaffgagmncgjaaGreatDoor
open _root_.Go.Proofs.Tryz Go Go.Pat Go.Proofs Go.ChangeShapes Go.WideShapes Go.ChangeAt Go.RowKit
theorem door_met (os:Os) (args:Array Value):laidMetH Tryz.prog Rows.appliesRow.laid ((World.doorLaid Tryz.prog 400 os).forCall (fun _ _=>0) ⟨#[],args,[]⟩).memory:=by
 rw [MakeChecks.laidMetH_plain _ _ _ (by kernel_rfl)]
 exact laidMet_of_run' 8 (by kernel_rfl) (by kernel_rfl)
theorem below_of {W W':World} (hs:Same W W') (hx:Ext W.heap W'.heap):Below W.heap.size W W' :=
 ⟨hs.os,hs.tape,hs.output,hx.size,fun k hk=>hx.same k hk (fun e=>e.elim)⟩
end Go.Proofs.YtlaffgagmncgjaaGreatDoor
