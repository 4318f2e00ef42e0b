import Derived.Test.YtlaffgagmncgjaaGreatDoorC1
set_option maxRecDepth 100000
namespace Go.Proofs.YtlaffgagmncgjaaGreatDoor
open _root_.Go.Proofs.Tryz Go Go.Pat Go.Proofs Go.ChangeShapes Go.WideShapes Go.ChangeAt Go.RowKit
theorem records_ret (l:List OpD) (v:Value) (h:Heap) (hr:Rd h 6 v l.length (opsC l)) (hok:∀ o∈l,OpD.ok o) (hl:l.length≤281474976710656) (htab:Tab10 h) :
  Ret Tryz.prog 9 #[v] h fun r h'=>Ext h h'∧r = .bool true:=by
 refine Ret.of_body func9 rfl ntmps9 rfl rfl ?_
 refine zgo ?_
 refine WO.call rfl rfl rfl rfl plain_small rfl (small_ret l v _ hr hok hl) fun v1 h1 ⟨hh1,r,hv1,hr1⟩=>?_
 subst hh1 hv1
 cases r
 ·refine zgo ?_
  exact Runs.ret func9 (ret1 results9 rfl) ⟨Fr.refl _ _,rfl⟩
 ·refine zgo ?_
  refine WO.call rfl rfl rfl rfl plain_UpTo rfl (upTo_ret 14 l v _ hr hok (hr1 rfl) htab) fun v2 h2 ⟨hx2,hv2⟩=>?_
  subst hv2
  refine zgo ?_
  exact Runs.ret func9 (ret1 results9 rfl) ⟨hx2,rfl⟩
theorem records_lifted (os:Os) (started:os.Started) (H:Type) (enc:TypeId × Value→H) :
  ReturnsInHanded {} Tryz.checked os 9 .any (fun w args=>(Rows.recordsSpec.pre enc Tryz.prog Tryz.f9 [] false w args∧laidMetH Tryz.prog Rows.recordsRow.laid w)∧sizedMet enc Tryz.prog Tryz.f9 (OpenSpec.ofChange Rows.recordsSpec) false w args)
   (Rows.recordsSpec.post enc Tryz.prog Tryz.f9 false true false false):=by
 refine returnsInHanded_of_change_and (C:=Tryz.checked) (X:=fun w _=>laidMetH Tryz.prog Rows.recordsRow.laid w) (fun _ _ _ hh h=>h.of_heap hh) Tryz.own started (by kernel_rfl) func9
  (ChangeSpec.witness_shaped (enc:=enc) (C:=Tryz.checked) (os:=os) (X:=fun w _=>laidMetH Tryz.prog Rows.recordsRow.laid w) false (World.doorLaid Tryz.prog 400 os) #[.slice none 0 0] 8 rfl (World.shaped_of_RefB (by kernel_rfl) (by kernel_rfl)) (by kernel_rfl) (by kernel_rfl) (by kernel_rfl) (door_met os _)) ?_
 intro W base args ds gs before hval0 hW _ hsz0 hL _
 have hval:∀ (j:Nat) t v,Tryz.f9.params[j]? = some t→args[j]? = some v→Value.okWide Tryz.prog W .any base t v:=hval0
 have hsz:(DataW.weightsEach Tryz.prog (Tryz.f9.params.toList++Rows.recordsSpec.plain.varTypes Tryz.prog) (ds++gs)).all (· ≤ reachBytes)=true:=hsz0
 clear hsz0
 have hW':=hW
 obtain ⟨p,q,hA0,hV,rfl,hfz,hnd⟩:=hW
 have hA:DataW.TrodAll enc Tryz.prog W 0 (fun _=>true) true Tryz.f9.params.toList args.toList ds p:=hA0
 rw [Tryz.params9] at hA hval hsz
 obtain ⟨v0,d0,rfl,rfl,h0⟩:=trodAll_one hA
 obtain ⟨rfl,rfl⟩:=trodVars_none hV
 clear hA0 hval0
 simp only [List.append_nil] at hW'
 have hlt:∀ x∈p,x.block<W.heap.size:=fun x hx=>by simpa using hW'.lt x hx
 have hwt:∀ n∈d0.weights Tryz.prog 22,n≤reachBytes:=fun n hn =>
  of_decide_eq_true (List.all_eq_true.1 hsz n (DataW.weights_mem_each (j:=0) rfl rfl n hn))
 obtain ⟨l,hr,hok,hl⟩:=open_ops (hval 0 _ v0 rfl rfl) h0 hwt
 refine (records_ret l v0 W.heap hr hok hl (tab_of_laid hL) W rfl).mono fun e W' ⟨v,he,hs,hx,hv⟩=>?_
 subst he;subst hv
 have bel:=below_of hs hx
 exact ⟨_,rfl,⟨_,_,_,[],p,[],hW',trodAll_mk1 (shut_bool Tryz.underlying4 _),trodAll_mk1 (Below.trod Tryz.laidOut (by kernel_rfl) (of_decide_eq_true (by kernel_rfl)) h0 bel hlt),rfl,bel.frame _,fun h=>by cases h⟩⟩
theorem records_holds:Rows.RecordsSaid :=
 OpenClaim.holds_of_wide 9 Tryz.f9 rfl rfl rfl rfl rfl rfl rfl ⟨rfl,rfl,rfl,rfl,rfl⟩ rfl rfl rfl rfl rfl (by kernel_rfl) func9 (by kernel_rfl)
  (of_decide_eq_true (by kernel_rfl)) (by unfold Func.isWrapper;first | (rw [if_pos (by decide +kernel)];kernel_rfl) | (rw [if_neg (by decide +kernel)];exact ⟨rfl,rfl⟩))
  (fun os started H enc _=>records_lifted os started H enc)
theorem records_card:Rows.RecordsCardSaid :=
 Claim7.holds_tied_plain_at .later [] [.data,.data,.data] true (Rows.recordsCard.stood.harness) false
  records_holds (fun _ h=>by cases h) (by kernel_rfl) (fun _ h=>by cases h) records_row_tie rfl ⟨rfl,rfl⟩ (by kernel_rfl) rfl
  (fun f fn hf hfn=>by
   obtain rfl:f=9:=Option.some.inj ((show Tryz.prog.funcNamed "patches/patcheslaw.Records" = some 9 by kernel_rfl).symm.trans hf) |>.symm
   obtain rfl:fn=Tryz.f9:=(Option.some.inj (func9.symm.trans hfn)).symm
   exact ⟨by kernel_rfl,fun j t ht=>by
    rw [Tryz.params9] at ht
    have hm:t∈[22]:=by simpa using Array.mem_of_getElem? ht
    have hall:([22].all fun u=>!Tryz.prog.wantsStandIn u)=true:=by kernel_rfl
    exact (show Tryz.prog.wantsStandIn t=false by simpa using List.all_eq_true.1 hall t hm)⟩)
  (by kernel_rfl)
end Go.Proofs.YtlaffgagmncgjaaGreatDoor
