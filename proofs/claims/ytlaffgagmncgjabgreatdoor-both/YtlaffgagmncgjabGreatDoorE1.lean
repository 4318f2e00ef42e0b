import Derived.Test.YtlaffgagmncgjabGreatDoorK2
import Derived.Test.YtlaffgagmncgjabGreatDoorRows
import Derived.ProofKit
import Derived.OpenShut
import Derived.SizedLaws
import Derived.MakeChecks
import Derived.Stop.Joined
import Derived.Deep.Slices
import Derived.Test.YtlaffgagmncgjabGreatDoorTie
import Derived.Test.YtlaffgagmncgjabGreatDoorCards
import Derived.SevenTiedAt
import Derived.LaidMore
namespace Go.Proofs.YtlaffgagmncgjabGreatDoor
open _root_.Go.Proofs.Tryz Go Go.Pat Go.Proofs Go.ChangeShapes Go.WideShapes Go.ChangeAt Go.RowKit
theorem Tryz.own:ownKnob Tryz.prog.godebug=none:=by kernel_rfl
theorem Tryz.laidOut:laidOutB Tryz.prog=true:=by kernel_rfl
theorem kstr_eq (s:ByteArray):str s.data.toList=s:=by cases s;rfl
theorem kints_of_trod {H:Type} {enc:TypeId × Value→H} {P:Program} {w:World} {base:Nat} {sp:Nat→Bool} {held:Bool} {fuel n:Nat} {t e:TypeId} {k:IntKind} {cs:List Value} {q:List MemPlace} {l:List Int}
  (ht:P.underlying t=some (.array n e)) (he:P.underlying e=some (.int k)) (c1:P.cellsOf e=1) (ct:P.cellsOf t=n)
  (h:DataW.trod enc P w base sp held fuel t cs=some (.agg (l.map fun z=>.lit (.int k z)),q)):cs=l.map fun z=>Value.int k z:=by
 obtain ⟨xs,m,_,hx,hcl,hn,hel⟩:=DataW.trod_array ht h
 simp only [Prod.mk.injEq,DataW.agg.injEq] at hx
 have hll:l.length=n:=by
  have:=congrArg List.length hx.1
  simp only [List.length_map] at this
  omega
 rw [ct] at hcl
 apply List.ext_getElem?
 intro i
 by_cases hi:i<n
 ·have h0:=hel i hi
  rw [c1,Nat.mul_one,List.drop_eq_getElem_cons (by omega),List.getElem?_eq_getElem (by omega)] at h0
  obtain ⟨z,e1,e2,_⟩:=DataW.trod_int he (show DataW.trod _ _ _ _ _ _ _ _ [cs[i]]=some xs[i] from h0)
  have h1:=congrArg (·[i]?) hx.1
  simp only [List.getElem?_map,List.getElem?_eq_getElem (show i<l.length by omega),List.getElem?_eq_getElem (show i<xs.length by omega),Option.map_some,Option.some.injEq] at h1
  rw [e2] at h1
  have hz:l[i]=z:=by simpa using h1
  rw [List.getElem?_map,List.getElem?_eq_getElem (show i<cs.length by omega),List.getElem?_eq_getElem (show i<l.length by omega),Option.map_some,hz]
  simpa using e1
 ·rw [List.getElem?_eq_none (by omega),List.getElem?_eq_none (by simp;omega)]
theorem ktab_of_laid {W:World} (h:laidMetH Tryz.prog Rows.allRow.laid W):Tab10 W.heap:=by
 rw [MakeChecks.laidMetH_plain _ _ _ (by kernel_rfl)] at h
 obtain ⟨ps,⟨g0,t0,cs0,f0,p0,q0,hg0,ht0,hv0,hd0,⟨g1,t1,cs1,f1,p1,q1,hg1,ht1,hv1,hd1,⟨g2,t2,cs2,f2,p2,q2,hg2,ht2,hv2,hd2,_,_⟩,_⟩,_⟩,_,_⟩:=h
 obtain rfl:=Option.some.inj (glob0.symm.trans hg2)
 have hT:(Tryz.prog.globals[0]?).map (·.type)=some 230:=by kernel_rfl
 obtain rfl:=Option.some.inj (hT.symm.trans ht2)
 have hl:=kints_of_trod (l:=Lib.pow10Tab) (k:=.u64) Tryz.underlying230 Tryz.underlying224 (by kernel_rfl) (by kernel_rfl) hd2
 simp only [World.var?,hg2,Option.bind_some] at hv2
 revert hv2
 generalize hz:W.heap[0]? = z
 cases z with
 | none=>intro e;cases e
 | some z =>
  cases z with
  | cells c t fr =>
   intro e
   cases e
   refine ⟨t,fr,?_⟩
   rw [hz,← hl]
  | _=>intro e;cases e
end Go.Proofs.YtlaffgagmncgjabGreatDoor
namespace Go.Proofs.YtlaffgagmncgjabGreatDoor
open _root_.Go.Proofs.Tryz Go Go.Pat Go.Proofs Go.ChangeShapes Go.WideShapes Go.ChangeAt Go.RowKit
theorem kdoor_met (os:Os) (args:Array Value):laidMetH Tryz.prog Rows.allRow.laid ((World.doorLaid Tryz.prog 400 os).forCall (fun _ _=>0) ⟨#[],args,[]⟩).memory:=by
 rw [MakeChecks.laidMetH_plain _ _ _ (by kernel_rfl)]
 exact laidMet_of_run' 8 (by kernel_rfl) (by kernel_rfl)
theorem kbelow_of {W W':World} (hs:Same W W') (hx:Ext W.heap W'.heap):Below W.heap.size W W' :=
 ⟨hs.os,hs.tape,hs.output,hx.size,fun k hk=>hx.same k hk (fun e=>e.elim)⟩
end Go.Proofs.YtlaffgagmncgjabGreatDoor
