import Derived.Test.YtlaffgagmncgjabGreatDoorE1
import Derived.Test.YtlaffgagmncgjabGreatDoorKB
import Derived.Carry
set_option maxRecDepth 100000
namespace Go.Proofs.YtlaffgagmncgjabGreatDoor
open _root_.Go.Proofs.Tryz Go Go.Pat Go.Proofs Go.ChangeShapes Go.WideShapes Go.ChangeAt Go.RowKit
theorem both_lifted (os:Os) (started:os.Started) (H:Type) (enc:TypeId × Value→H) :
  ReturnsInHanded {} Tryz.checked os 5 .any (fun w args=>(Rows.bothSpec.pre enc Tryz.prog Tryz.f5 [] false w args∧laidMetH Tryz.prog Rows.bothRow.laid w)∧sizedMet enc Tryz.prog Tryz.f5 (OpenSpec.ofChange Rows.bothSpec) false w args)
   (Rows.bothSpec.post enc Tryz.prog Tryz.f5 false true false false):=by
 refine returnsInHanded_of_change_and (C:=Tryz.checked) (X:=fun w _=>laidMetH Tryz.prog Rows.bothRow.laid w) (fun _ _ _ hh h=>h.of_heap hh) Tryz.own started (by kernel_rfl) func5
  (ChangeSpec.witness_shaped (enc:=enc) (C:=Tryz.checked) (os:=os) (X:=fun w _=>laidMetH Tryz.prog Rows.bothRow.laid w) false (World.doorLaid Tryz.prog 400 os) #[.int .i64 0,.int .i64 0,.int .i64 0,.string (str [])] 8 rfl (World.shaped_of_RefB (by kernel_rfl) (by kernel_rfl)) (by kernel_rfl) (by kernel_rfl) (by kernel_rfl) (kdoor_met os _)) ?_
 intro W base args ds gs before hval0 hW _ hsz0 hL _
 have hval:∀ (j:Nat) t v,Tryz.f5.params[j]? = some t→args[j]? = some v→Value.okWide Tryz.prog W .any base t v:=hval0
 have hsz:(DataW.weightsEach Tryz.prog (Tryz.f5.params.toList++Rows.bothSpec.plain.varTypes Tryz.prog) (ds++gs)).all (· ≤ reachBytes)=true:=hsz0
 clear hsz0
 have hW':=hW
 obtain ⟨p,q,hA0,hV,rfl,hfz,hnd⟩:=hW
 have hA:DataW.TrodAll enc Tryz.prog W 0 (fun _=>true) true Tryz.f5.params.toList args.toList ds p:=hA0
 rw [Tryz.params5] at hA hval hsz
 obtain ⟨v0,v1,v2,v3,d0,d1,d2,d3,p0,p1,p2,p3,rfl,rfl,rfl,h0,h1,h2,h3⟩:=trodAll_four hA
 obtain ⟨rfl,rfl⟩:=trodVars_none hV
 clear hA0 hval0
 simp only [List.append_nil,List.append_assoc] at hW'
 have hlt:∀ x∈p0++(p1++(p2++p3)),x.block<W.heap.size:=fun x hx=>by simpa using hW'.lt x (by simpa using hx)
 have hwt3:∀ n∈d3.weights Tryz.prog 9,n≤reachBytes:=fun n hn =>
  of_decide_eq_true (List.all_eq_true.1 hsz n (DataW.weights_mem_each (j:=3) rfl rfl n hn))
 have key:∀ (v:Value) (d:DataW H) (p:List MemPlace),Value.okWide Tryz.prog W .any base 3 v→DataW.Trod enc Tryz.prog W 0 (fun _=>true) true 3 v d p→∃ q:Int,v = .int .i64 q∧(-9223372036854775808≤q∧q≤9223372036854775807):=fun v d p hv h=>by
  obtain ⟨q,hq⟩:=okWide_int Tryz.underlying3 hv
  subst hq
  obtain ⟨fuel,h'⟩:=h
  obtain ⟨z,e,_,hwf⟩:=DataW.trod_int Tryz.underlying3 h'
  have e1:q=z:=by simpa [Value.cells] using e
  subst e1
  simp only [Lit.wf,Bool.and_eq_true,decide_eq_true_eq] at hwf
  exact ⟨q,rfl,hwf⟩
 obtain ⟨n,hn,hn'⟩:=key v0 d0 p0 (hval 0 _ v0 rfl rfl) h0
 obtain ⟨i,hi,hi'⟩:=key v1 d1 p1 (hval 1 _ v1 rfl rfl) h1
 obtain ⟨j,hj,hj'⟩:=key v2 d2 p2 (hval 2 _ v2 rfl rfl) h2
 obtain ⟨s,hs0,hst⟩:∃ s:ByteArray,v3 = .string s∧s.data.toList.length≤281474976710656:=by
  obtain ⟨fuel,h3'⟩:=h3
  obtain ⟨s,e,hD,_⟩:=DataW.trod_string Tryz.underlying9 h3'
  obtain ⟨s',hs'⟩:=okWide_string Tryz.underlying9 (hval 3 _ v3 rfl rfl)
  subst hs'
  have e1:s'=s:=by simpa [Value.cells] using e
  subst e1
  have hD1:d3 = .lit (.string s'.data.toList):=congrArg Prod.fst hD
  refine ⟨s',rfl,Nat.le_trans (hwt3 _ (by rw [hD1];simp [DataW.weights])) (by decide)⟩
 subst hn hi hj hs0
 rw [← kstr_eq s] at hval ⊢
 refine (kBoth_ret n i j hn' hi' hj' s.data.toList hst W.heap (ktab_of_laid hL) W rfl).mono fun e W' ⟨v,he,hs,hx,hv⟩=>?_
 subst he;subst hv
 have bel:=kbelow_of hs hx
 exact ⟨_,rfl,⟨_,_,_,[],p0++(p1++(p2++p3)),[],hW',trodAll_mk1 (shut_bool Tryz.underlying4 _),trodAll_mk4 (Below.trod Tryz.laidOut (by kernel_rfl) (of_decide_eq_true (by kernel_rfl)) h0 bel fun x hx=>hlt x (List.mem_append_left _ hx)) (Below.trod Tryz.laidOut (by kernel_rfl) (of_decide_eq_true (by kernel_rfl)) h1 bel fun x hx=>hlt x (List.mem_append_right _ (List.mem_append_left _ hx))) (Below.trod Tryz.laidOut (by kernel_rfl) (of_decide_eq_true (by kernel_rfl)) h2 bel fun x hx=>hlt x (List.mem_append_right _ (List.mem_append_right _ (List.mem_append_left _ hx)))) (Below.trod Tryz.laidOut (by kernel_rfl) (of_decide_eq_true (by kernel_rfl)) h3 bel fun x hx=>hlt x (List.mem_append_right _ (List.mem_append_right _ (List.mem_append_right _ hx)))),rfl,bel.frame _,fun h=>by cases h⟩⟩
theorem both_holds:Rows.BothSaid :=
 OpenClaim.holds_of_wide 5 Tryz.f5 rfl rfl rfl rfl rfl rfl rfl ⟨rfl,rfl,rfl,rfl,rfl⟩ rfl rfl rfl rfl rfl (by kernel_rfl) func5 (by kernel_rfl)
  (of_decide_eq_true (by kernel_rfl)) (by unfold Func.isWrapper;first | (rw [if_pos (by decide +kernel)];kernel_rfl) | (rw [if_neg (by decide +kernel)];exact ⟨rfl,rfl⟩))
  (fun os started H enc _=>both_lifted os started H enc)
theorem both_card:Rows.BothCardSaid :=
 Claim7.holds_tied_plain_at .later [] [.data,.data,.data] true (Rows.bothCard.stood.harness) false
  both_holds (fun _ h=>by cases h) (by kernel_rfl) (fun _ h=>by cases h) both_row_tie rfl ⟨rfl,rfl⟩ (by kernel_rfl) rfl
  (fun f fn hf hfn=>by
   obtain rfl:f=5:=Option.some.inj ((show Tryz.prog.funcNamed "patches/patcheskeep.Both" = some 5 by kernel_rfl).symm.trans hf) |>.symm
   obtain rfl:fn=Tryz.f5:=(Option.some.inj (func5.symm.trans hfn)).symm
   exact ⟨by kernel_rfl,fun j t ht=>by
    rw [Tryz.params5] at ht
    have hm:t∈[3,3,3,9]:=by simpa using Array.mem_of_getElem? ht
    have hall:([3,3,3,9].all fun u=>!Tryz.prog.wantsStandIn u)=true:=by kernel_rfl
    exact (show Tryz.prog.wantsStandIn t=false by simpa using List.all_eq_true.1 hall t hm)⟩)
  (by kernel_rfl)
end Go.Proofs.YtlaffgagmncgjabGreatDoor
