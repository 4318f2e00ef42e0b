import Derived.Test.YtlaffgagmncgjabGreatDoorK2
import Derived.Test.YtlaffgagmncgjabGreatDoorRows
import Derived.ProofKit
import Derived.OpenShut
import Derived.SizedLaws
import Derived.MakeChecks
import Derived.Stop.Joined
import Derived.Deep.Slices
import Derived.Test.YtlaffgagmncgjabGreatDoorTie
import Derived.Test.YtlaffgagmncgjabGreatDoorCards
import Derived.SevenTiedAt
import Derived.LaidMore
import Derived.Test.YtlaffgagmncgjabGreatDoorKB
import Derived.Carry
set_option maxRecDepth 100000
namespace Go.Proofs.YtlaffgagmncgjabGreatDoor
open _root_.Go.Proofs.Tryz Go Go.Pat Go.Proofs Go.ChangeShapes Go.WideShapes Go.ChangeAt Go.RowKit
theorem Tryz.own:ownKnob Tryz.prog.godebug=none:=by kernel_rfl
theorem Tryz.laidOut:laidOutB Tryz.prog=true:=by kernel_rfl
theorem kstr_eq (s:ByteArray):str s.data.toList=s:=by cases s;rfl
theorem kints_of_trod {H:Type} {enc:TypeId × Value→H} {P:Program} {w:World} {base:Nat} {sp:Nat→Bool} {held:Bool} {fuel n:Nat} {t e:TypeId} {k:IntKind} {cs:List Value} {q:List MemPlace} {l:List Int}
  (ht:P.underlying t=some (.array n e)) (he:P.underlying e=some (.int k)) (c1:P.cellsOf e=1) (ct:P.cellsOf t=n)
  (h:DataW.trod enc P w base sp held fuel t cs=some (.agg (l.map fun z=>.lit (.int k z)),q)):cs=l.map fun z=>Value.int k z:=by
 obtain ⟨xs,m,_,hx,hcl,hn,hel⟩:=DataW.trod_array ht h
 simp only [Prod.mk.injEq,DataW.agg.injEq] at hx
 have hll:l.length=n:=by
  have:=congrArg List.length hx.1
  simp only [List.length_map] at this
  omega
 rw [ct] at hcl
 apply List.ext_getElem?
 intro i
 by_cases hi:i<n
 ·have h0:=hel i hi
  rw [c1,Nat.mul_one,List.drop_eq_getElem_cons (by omega),List.getElem?_eq_getElem (by omega)] at h0
  obtain ⟨z,e1,e2,_⟩:=DataW.trod_int he (show DataW.trod _ _ _ _ _ _ _ _ [cs[i]]=some xs[i] from h0)
  have h1:=congrArg (·[i]?) hx.1
  simp only [List.getElem?_map,List.getElem?_eq_getElem (show i<l.length by omega),List.getElem?_eq_getElem (show i<xs.length by omega),Option.map_some,Option.some.injEq] at h1
  rw [e2] at h1
  have hz:l[i]=z:=by simpa using h1
  rw [List.getElem?_map,List.getElem?_eq_getElem (show i<cs.length by omega),List.getElem?_eq_getElem (show i<l.length by omega),Option.map_some,hz]
  simpa using e1
 ·rw [List.getElem?_eq_none (by omega),List.getElem?_eq_none (by simp;omega)]
theorem ktab_of_laid {W:World} (h:laidMetH Tryz.prog Rows.allRow.laid W):Tab10 W.heap:=by
 rw [MakeChecks.laidMetH_plain _ _ _ (by kernel_rfl)] at h
 obtain ⟨ps,⟨g0,t0,cs0,f0,p0,q0,hg0,ht0,hv0,hd0,⟨g1,t1,cs1,f1,p1,q1,hg1,ht1,hv1,hd1,⟨g2,t2,cs2,f2,p2,q2,hg2,ht2,hv2,hd2,_,_⟩,_⟩,_⟩,_,_⟩:=h
 obtain rfl:=Option.some.inj (glob0.symm.trans hg2)
 have hT:(Tryz.prog.globals[0]?).map (·.type)=some 230:=by kernel_rfl
 obtain rfl:=Option.some.inj (hT.symm.trans ht2)
 have hl:=kints_of_trod (l:=Lib.pow10Tab) (k:=.u64) Tryz.underlying230 Tryz.underlying224 (by kernel_rfl) (by kernel_rfl) hd2
 simp only [World.var?,hg2,Option.bind_some] at hv2
 revert hv2
 generalize hz:W.heap[0]? = z
 cases z with
 | none=>intro e;cases e
 | some z =>
  cases z with
  | cells c t fr =>
   intro e
   cases e
   refine ⟨t,fr,?_⟩
   rw [hz,← hl]
  | _=>intro e;cases e
end Go.Proofs.YtlaffgagmncgjabGreatDoor
namespace Go.Proofs.YtlaffgagmncgjabGreatDoor
open _root_.Go.Proofs.Tryz Go Go.Pat Go.Proofs Go.ChangeShapes Go.WideShapes Go.ChangeAt Go.RowKit
theorem kdoor_met (os:Os) (args:Array Value):laidMetH Tryz.prog Rows.allRow.laid ((World.doorLaid Tryz.prog 400 os).forCall (fun _ _=>0) ⟨#[],args,[]⟩).memory:=by
 rw [MakeChecks.laidMetH_plain _ _ _ (by kernel_rfl)]
 exact laidMet_of_run' 8 (by kernel_rfl) (by kernel_rfl)
theorem kbelow_of {W W':World} (hs:Same W W') (hx:Ext W.heap W'.heap):Below W.heap.size W W' :=
 ⟨hs.os,hs.tape,hs.output,hx.size,fun k hk=>hx.same k hk (fun e=>e.elim)⟩
end Go.Proofs.YtlaffgagmncgjabGreatDoor
namespace Go.Proofs.YtlaffgagmncgjabGreatDoor
open _root_.Go.Proofs.Tryz Go Go.Pat Go.Proofs Go.ChangeShapes Go.WideShapes Go.ChangeAt Go.RowKit
theorem both_lifted (os:Os) (started:os.Started) (H:Type) (enc:TypeId × Value→H) :
  ReturnsInHanded {} Tryz.checked os 5 .any (fun w args=>(Rows.bothSpec.pre enc Tryz.prog Tryz.f5 [] false w args∧laidMetH Tryz.prog Rows.bothRow.laid w)∧sizedMet enc Tryz.prog Tryz.f5 (OpenSpec.ofChange Rows.bothSpec) false w args)
   (Rows.bothSpec.post enc Tryz.prog Tryz.f5 false true false false):=by
 refine returnsInHanded_of_change_and (C:=Tryz.checked) (X:=fun w _=>laidMetH Tryz.prog Rows.bothRow.laid w) (fun _ _ _ hh h=>h.of_heap hh) Tryz.own started (by kernel_rfl) func5
  (ChangeSpec.witness_shaped (enc:=enc) (C:=Tryz.checked) (os:=os) (X:=fun w _=>laidMetH Tryz.prog Rows.bothRow.laid w) false (World.doorLaid Tryz.prog 400 os) #[.int .i64 0,.int .i64 0,.int .i64 0,.string (str [])] 8 rfl (World.shaped_of_RefB (by kernel_rfl) (by kernel_rfl)) (by kernel_rfl) (by kernel_rfl) (by kernel_rfl) (kdoor_met os _)) ?_
 intro W base args ds gs before hval0 hW _ hsz0 hL _
 have hval:∀ (j:Nat) t v,Tryz.f5.params[j]? = some t→args[j]? = some v→Value.okWide Tryz.prog W .any base t v:=hval0
 have hsz:(DataW.weightsEach Tryz.prog (Tryz.f5.params.toList++Rows.bothSpec.plain.varTypes Tryz.prog) (ds++gs)).all (· ≤ reachBytes)=true:=hsz0
 clear hsz0
 have hW':=hW
 obtain ⟨p,q,hA0,hV,rfl,hfz,hnd⟩:=hW
 have hA:DataW.TrodAll enc Tryz.prog W 0 (fun _=>true) true Tryz.f5.params.toList args.toList ds p:=hA0
 rw [Tryz.params5] at hA hval hsz
 obtain ⟨v0,v1,v2,v3,d0,d1,d2,d3,p0,p1,p2,p3,rfl,rfl,rfl,h0,h1,h2,h3⟩:=trodAll_four hA
 obtain ⟨rfl,rfl⟩:=trodVars_none hV
 clear hA0 hval0
 simp only [List.append_nil,List.append_assoc] at hW'
 have hlt:∀ x∈p0++(p1++(p2++p3)),x.block<W.heap.size:=fun x hx=>by simpa using hW'.lt x (by simpa using hx)
 have hwt3:∀ n∈d3.weights Tryz.prog 9,n≤reachBytes:=fun n hn =>
  of_decide_eq_true (List.all_eq_true.1 hsz n (DataW.weights_mem_each (j:=3) rfl rfl n hn))
 have key:∀ (v:Value) (d:DataW H) (p:List MemPlace),Value.okWide Tryz.prog W .any base 3 v→DataW.Trod enc Tryz.prog W 0 (fun _=>true) true 3 v d p→∃ q:Int,v = .int .i64 q∧(-9223372036854775808≤q∧q≤9223372036854775807):=fun v d p hv h=>by
  obtain ⟨q,hq⟩:=okWide_int Tryz.underlying3 hv
  subst hq
  obtain ⟨fuel,h'⟩:=h
  obtain ⟨z,e,_,hwf⟩:=DataW.trod_int Tryz.underlying3 h'
  have e1:q=z:=by simpa [Value.cells] using e
  subst e1
  simp only [Lit.wf,Bool.and_eq_true,decide_eq_true_eq] at hwf
  exact ⟨q,rfl,hwf⟩
 obtain ⟨n,hn,hn'⟩:=key v0 d0 p0 (hval 0 _ v0 rfl rfl) h0
 obtain ⟨i,hi,hi'⟩:=key v1 d1 p1 (hval 1 _ v1 rfl rfl) h1
 obtain ⟨j,hj,hj'⟩:=key v2 d2 p2 (hval 2 _ v2 rfl rfl) h2
 obtain ⟨s,hs0,hst⟩:∃ s:ByteArray,v3 = .string s∧s.data.toList.length≤281474976710656:=by
  obtain ⟨fuel,h3'⟩:=h3
  obtain ⟨s,e,hD,_⟩:=DataW.trod_string Tryz.underlying9 h3'
  obtain ⟨s',hs'⟩:=okWide_string Tryz.underlying9 (hval 3 _ v3 rfl rfl)
  subst hs'
  have e1:s'=s:=by simpa [Value.cells] using e
  subst e1
  have hD1:d3 = .lit (.string s'.data.toList):=congrArg Prod.fst hD
  refine ⟨s',rfl,Nat.le_trans (hwt3 _ (by rw [hD1];simp [DataW.weights])) (by decide)⟩
 subst hn hi hj hs0
 rw [← kstr_eq s] at hval ⊢
 refine (kBoth_ret n i j hn' hi' hj' s.data.toList hst W.heap (ktab_of_laid hL) W rfl).mono fun e W' ⟨v,he,hs,hx,hv⟩=>?_
 subst he;subst hv
 have bel:=kbelow_of hs hx
 exact ⟨_,rfl,⟨_,_,_,[],p0++(p1++(p2++p3)),[],hW',trodAll_mk1 (shut_bool Tryz.underlying4 _),trodAll_mk4 (Below.trod Tryz.laidOut (by kernel_rfl) (of_decide_eq_true (by kernel_rfl)) h0 bel fun x hx=>hlt x (List.mem_append_left _ hx)) (Below.trod Tryz.laidOut (by kernel_rfl) (of_decide_eq_true (by kernel_rfl)) h1 bel fun x hx=>hlt x (List.mem_append_right _ (List.mem_append_left _ hx))) (Below.trod Tryz.laidOut (by kernel_rfl) (of_decide_eq_true (by kernel_rfl)) h2 bel fun x hx=>hlt x (List.mem_append_right _ (List.mem_append_right _ (List.mem_append_left _ hx)))) (Below.trod Tryz.laidOut (by kernel_rfl) (of_decide_eq_true (by kernel_rfl)) h3 bel fun x hx=>hlt x (List.mem_append_right _ (List.mem_append_right _ (List.mem_append_right _ hx)))),rfl,bel.frame _,fun h=>by cases h⟩⟩
theorem both_holds:Rows.BothSaid :=
 OpenClaim.holds_of_wide 5 Tryz.f5 rfl rfl rfl rfl rfl rfl rfl ⟨rfl,rfl,rfl,rfl,rfl⟩ rfl rfl rfl rfl rfl (by kernel_rfl) func5 (by kernel_rfl)
  (of_decide_eq_true (by kernel_rfl)) (by unfold Func.isWrapper;first | (rw [if_pos (by decide +kernel)];kernel_rfl) | (rw [if_neg (by decide +kernel)];exact ⟨rfl,rfl⟩))
  (fun os started H enc _=>both_lifted os started H enc)
theorem both_card:Rows.BothCardSaid :=
 Claim7.holds_tied_plain_at .later [] [.data,.data,.data] true (Rows.bothCard.stood.harness) false
  both_holds (fun _ h=>by cases h) (by kernel_rfl) (fun _ h=>by cases h) both_row_tie rfl ⟨rfl,rfl⟩ (by kernel_rfl) rfl
  (fun f fn hf hfn=>by
   obtain rfl:f=5:=Option.some.inj ((show Tryz.prog.funcNamed "patches/patcheskeep.Both" = some 5 by kernel_rfl).symm.trans hf) |>.symm
   obtain rfl:fn=Tryz.f5:=(Option.some.inj (func5.symm.trans hfn)).symm
   exact ⟨by kernel_rfl,fun j t ht=>by
    rw [Tryz.params5] at ht
    have hm:t∈[3,3,3,9]:=by simpa using Array.mem_of_getElem? ht
    have hall:([3,3,3,9].all fun u=>!Tryz.prog.wantsStandIn u)=true:=by kernel_rfl
    exact (show Tryz.prog.wantsStandIn t=false by simpa using List.all_eq_true.1 hall t hm)⟩)
  (by kernel_rfl)
end Go.Proofs.YtlaffgagmncgjabGreatDoor
