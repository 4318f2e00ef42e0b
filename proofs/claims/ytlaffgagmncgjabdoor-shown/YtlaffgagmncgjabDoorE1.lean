import Derived.Test.YtlaffgagmncgjabDoorK2
import Derived.Test.YtlaffgagmncgjabDoorRows
import Derived.ProofKit
import Derived.OpenShut
import Derived.SizedLaws
import Derived.MakeChecks
import Derived.Stop.Joined
import Derived.Deep.Slices
import Derived.Test.YtlaffgagmncgjabDoorTie
import Derived.Test.YtlaffgagmncgjabDoorCards
import Derived.SevenTiedAt
import Derived.LaidMore
import Derived.Test.YtlaffgagmncgjabDoorH1
set_option maxRecDepth 100000
namespace Go.Proofs.YtlaffgagmncgjabDoor
open Go Go.Pat Go.Proofs Go.ChangeShapes Go.WideShapes Go.ChangeAt Go.RowKit
theorem Tryd.own:ownKnob Tryd.prog.godebug=none:=by kernel_rfl
theorem Tryd.laidOut:laidOutB Tryd.prog=true:=by kernel_rfl
theorem kmem_weightsAll {H:Type} {P:Program} {e:TypeId} {d:DataW H} {n:Nat} (hn:n∈d.weights P e):∀ {l:List (DataW H)},d∈l→n∈DataW.weightsAll P e l
 | [],hd=>by cases hd
 | x::l,hd=>by
  rw [DataW.weightsAll,List.mem_append]
  rcases List.mem_cons.1 hd with rfl | hd
  ·exact .inl hn
  ·exact .inr (kmem_weightsAll hn hd)
theorem kstr_eq (s:ByteArray):str s.data.toList=s:=by cases s;rfl
theorem open_texts {H:Type} {enc:TypeId × Value→H} {w:World} {base:Nat} {sp:Nat→Bool} {held:Bool} {v:Value} {d:DataW H} {p:List MemPlace}
  (hval:Value.okWide Tryd.prog w .any base 22 v)
  (h:DataW.Trod enc Tryd.prog w 0 sp held 22 v d p) (hw:∀ n∈d.weights Tryd.prog 22,n≤reachBytes) :
  ∃ l:List (List UInt8),Texts w.heap v l:=by
 obtain ⟨a0,len,cap,rfl⟩:=okWide_slice Tryd.underlying22 hval
 obtain ⟨fuel,h⟩:=h
 have c1:Tryd.prog.cellsOf 9=1:=by kernel_rfl
 have b16:Tryd.prog.bytesOf 9=16:=by kernel_rfl
 have hr:reachBytes≤281474976710656:=by decide
 rcases Deep.open_slice Tryd.underlying22 h with ⟨hv,_⟩ | ⟨a,len1,cap1,m,n,D,Pl,hv,_,hl,hm,hmm,hx,hel⟩
 ·cases hv
  exact ⟨[],⟨rfl,.inl ⟨rfl,rfl⟩⟩,by simp,fun t ht=>(List.not_mem_nil ht).elim⟩
 ·cases hv
  cases hx
  have hspot:a.spot=none:=by
   simp only [Value.okWide,Cell.okWide,Cell.ok,Tryd.underlying22] at hval
   exact hval.2.2.2.1
  obtain ⟨ab,ao,sp'⟩:=a
  cases hspot
  have hlm:len≤m:=by rw [hmm];split<;>omega
  simp only [DataW.weights,Tryd.underlying22,b16] at hw
  rw [c1] at hel
  have hlen:len≤281474976710656:=by
   have:=hw _ (List.mem_cons_self ..)
   simp only [List.length_map,List.length_range] at this
   omega
  have key:∀ i,i<len→∃ t:List UInt8,t.length≤281474976710656∧cellAt w.heap ab (ao+i)=some (.string (str t)):=by
   intro i hi
   obtain ⟨cs,hc,ht⟩:=hel i (by omega)
   obtain ⟨s,rfl,hD,_⟩:=DataW.trod_string Tryd.underlying9 ht
   have hDi:D i = .lit (.string s.data.toList):=congrArg Prod.fst hD
   have hwi:s.data.toList.length≤reachBytes:=hw _ (List.mem_cons_of_mem _ (List.mem_append_left _ (kmem_weightsAll (d:=D i) (by rw [hDi];simp [DataW.weights]) (List.mem_map.2 ⟨i,List.mem_range.2 hi,rfl⟩))))
   obtain ⟨_,hcl,hcell⟩:=World.cells?_some hc
   refine ⟨s.data.toList,Nat.le_trans hwi hr,?_⟩
   have:=hcell 0 (by omega)
   rw [kstr_eq]
   rw [WideShapes.add_plain,WideShapes.add_plain] at this
   rw [cellAt]
   simp only [World.cell?] at this
   revert this
   generalize w.heap[ab]? = z
   cases z with
   | none=>intro e;cases e
   | some z =>
    cases z with
    | cells c t fr=>intro e;simpa using e
    | map _ _=>intro e;cases e
    | _=>intro e;cases e
  obtain ⟨F,hF⟩:=Deep.choose_lt (p:=fun i (t:List UInt8)=>t.length≤281474976710656∧cellAt w.heap ab (ao+i)=some (.string (str t))) key
  refine ⟨(List.range len).map F,⟨by simp [Pat.strs],?_⟩,by simpa using hlen,fun t ht=>?_⟩
  ·right
   refine ⟨ab,ao,cap,by simp,by simpa using hl,fun i u hi=>?_⟩
   simp only [Pat.strs,List.map_map,List.getElem?_map] at hi
   obtain ⟨i',hi',rfl⟩:=Option.map_eq_some_iff.1 hi
   have hi2:=List.getElem?_eq_some_iff.1 hi'
   have e:i'=i:=by simpa using hi2.2.symm
   subst e
   exact (hF i' (by simpa using hi2.1)).2
  ·obtain ⟨i,hi,rfl⟩:=List.mem_map.1 ht
   exact (hF i (List.mem_range.1 hi)).1
theorem kints_of_trod {H:Type} {enc:TypeId × Value→H} {P:Program} {w:World} {base:Nat} {sp:Nat→Bool} {held:Bool} {fuel n:Nat} {t e:TypeId} {k:IntKind} {cs:List Value} {q:List MemPlace} {l:List Int}
  (ht:P.underlying t=some (.array n e)) (he:P.underlying e=some (.int k)) (c1:P.cellsOf e=1) (ct:P.cellsOf t=n)
  (h:DataW.trod enc P w base sp held fuel t cs=some (.agg (l.map fun z=>.lit (.int k z)),q)):cs=l.map fun z=>Value.int k z:=by
 obtain ⟨xs,m,_,hx,hcl,hn,hel⟩:=DataW.trod_array ht h
 simp only [Prod.mk.injEq,DataW.agg.injEq] at hx
 have hll:l.length=n:=by
  have:=congrArg List.length hx.1
  simp only [List.length_map] at this
  omega
 rw [ct] at hcl
 apply List.ext_getElem?
 intro i
 by_cases hi:i<n
 ·have h0:=hel i hi
  rw [c1,Nat.mul_one,List.drop_eq_getElem_cons (by omega),List.getElem?_eq_getElem (by omega)] at h0
  obtain ⟨z,e1,e2,_⟩:=DataW.trod_int he (show DataW.trod _ _ _ _ _ _ _ _ [cs[i]]=some xs[i] from h0)
  have h1:=congrArg (·[i]?) hx.1
  simp only [List.getElem?_map,List.getElem?_eq_getElem (show i<l.length by omega),List.getElem?_eq_getElem (show i<xs.length by omega),Option.map_some,Option.some.injEq] at h1
  rw [e2] at h1
  have hz:l[i]=z:=by simpa using h1
  rw [List.getElem?_map,List.getElem?_eq_getElem (show i<cs.length by omega),List.getElem?_eq_getElem (show i<l.length by omega),Option.map_some,hz]
  simpa using e1
 ·rw [List.getElem?_eq_none (by omega),List.getElem?_eq_none (by simp;omega)]
theorem ktab_of_laid {W:World} (h:laidMetH Tryd.prog Rows.metRow.laid W):Tab10 W.heap:=by
 rw [MakeChecks.laidMetH_plain _ _ _ (by kernel_rfl)] at h
 obtain ⟨ps,⟨g0,t0,cs0,f0,p0,q0,hg0,ht0,hv0,hd0,⟨g1,t1,cs1,f1,p1,q1,hg1,ht1,hv1,hd1,⟨g2,t2,cs2,f2,p2,q2,hg2,ht2,hv2,hd2,_,_⟩,_⟩,_⟩,_,_⟩:=h
 obtain rfl:=Option.some.inj (glob0.symm.trans hg2)
 have hT:(Tryd.prog.globals[0]?).map (·.type)=some 153:=by kernel_rfl
 obtain rfl:=Option.some.inj (hT.symm.trans ht2)
 have hl:=kints_of_trod (l:=Lib.pow10Tab) (k:=.u64) Tryd.underlying153 Tryd.underlying142 (by kernel_rfl) (by kernel_rfl) hd2
 simp only [World.var?,hg2,Option.bind_some] at hv2
 revert hv2
 generalize hz:W.heap[0]? = z
 cases z with
 | none=>intro e;cases e
 | some z =>
  cases z with
  | cells c t fr =>
   intro e
   cases e
   refine ⟨t,fr,?_⟩
   rw [hz,← hl]
  | _=>intro e;cases e
end Go.Proofs.YtlaffgagmncgjabDoor
namespace Go.Proofs.YtlaffgagmncgjabDoor
open Go Go.Pat Go.Proofs Go.ChangeShapes Go.WideShapes Go.ChangeAt Go.RowKit
theorem kdoor_met (os:Os) (args:Array Value):laidMetH Tryd.prog Rows.metRow.laid ((World.doorLaid Tryd.prog 400 os).forCall (fun _ _=>0) ⟨#[],args,[]⟩).memory:=by
 rw [MakeChecks.laidMetH_plain _ _ _ (by kernel_rfl)]
 exact laidMet_of_run' 8 (by kernel_rfl) (by kernel_rfl)
theorem kbelow_of {W W':World} (hs:Same W W') (hx:Ext W.heap W'.heap):Below W.heap.size W W' :=
 ⟨hs.os,hs.tape,hs.output,hx.size,fun k hk=>hx.same k hk (fun e=>e.elim)⟩
end Go.Proofs.YtlaffgagmncgjabDoor
namespace Go.Proofs.YtlaffgagmncgjabDoor
open Go Go.Pat Go.Proofs Go.ChangeShapes Go.WideShapes Go.ChangeAt Go.RowKit
theorem shown_lifted (os:Os) (started:os.Started) (H:Type) (enc:TypeId × Value→H) :
  ReturnsInHanded {} Tryd.checked os 7 .any (fun w args=>(Rows.shownSpec.pre enc Tryd.prog Tryd.f7 [] false w args∧laidMetH Tryd.prog Rows.shownRow.laid w)∧sizedMet enc Tryd.prog Tryd.f7 (OpenSpec.ofChange Rows.shownSpec) false w args)
   (Rows.shownSpec.post enc Tryd.prog Tryd.f7 false true false false):=by
 refine returnsInHanded_of_change_and (C:=Tryd.checked) (X:=fun w _=>laidMetH Tryd.prog Rows.shownRow.laid w) (fun _ _ _ hh h=>h.of_heap hh) Tryd.own started (by kernel_rfl) Tryd.func7
  (ChangeSpec.witness_shaped (enc:=enc) (C:=Tryd.checked) (os:=os) (X:=fun w _=>laidMetH Tryd.prog Rows.shownRow.laid w) false (World.doorLaid Tryd.prog 400 os) #[.slice none 0 0] 8 rfl (World.shaped_of_RefB (by kernel_rfl) (by kernel_rfl)) (by kernel_rfl) (by kernel_rfl) (by kernel_rfl) (kdoor_met os _)) ?_
 intro W base args ds gs before hval0 hW _ hsz0 hL _
 have hval:∀ (j:Nat) t v,Tryd.f7.params[j]? = some t→args[j]? = some v→Value.okWide Tryd.prog W .any base t v:=hval0
 have hsz:(DataW.weightsEach Tryd.prog (Tryd.f7.params.toList++Rows.shownSpec.plain.varTypes Tryd.prog) (ds++gs)).all (· ≤ reachBytes)=true:=hsz0
 clear hsz0
 have hW':=hW
 obtain ⟨p,q,hA0,hV,rfl,hfz,hnd⟩:=hW
 have hA:DataW.TrodAll enc Tryd.prog W 0 (fun _=>true) true Tryd.f7.params.toList args.toList ds p:=hA0
 rw [Tryd.params7] at hA hval hsz
 obtain ⟨v1,d1,rfl,rfl,h1⟩:=trodAll_one hA
 obtain ⟨rfl,rfl⟩:=trodVars_none hV
 clear hA0 hval0
 simp only [List.append_nil] at hW'
 have hlt:∀ x∈p,x.block<W.heap.size:=fun x hx=>by simpa using hW'.lt x (by simpa using hx)
 have hwt:∀ n∈d1.weights Tryd.prog 22,n≤reachBytes:=fun n hn =>
  of_decide_eq_true (List.all_eq_true.1 hsz n (DataW.weights_mem_each (j:=0) rfl rfl n hn))
 obtain ⟨l,hr⟩:=open_texts (hval 0 _ v1 rfl rfl) h1 hwt
 refine (kShown_ret l v1 W.heap hr (ktab_of_laid hL) W rfl).mono fun e W' ⟨v,he,hs,hx,hv⟩=>?_
 subst he;subst hv
 have bel:=kbelow_of hs hx
 exact ⟨_,rfl,⟨_,_,_,[],p,[],hW',trodAll_mk1 (shut_bool Tryd.underlying4 _),trodAll_mk1 (Below.trod Tryd.laidOut (by kernel_rfl) (of_decide_eq_true (by kernel_rfl)) h1 bel hlt),rfl,bel.frame _,fun h=>by cases h⟩⟩
theorem shown_holds:Rows.ShownSaid :=
 OpenClaim.holds_of_wide 7 Tryd.f7 rfl rfl rfl rfl rfl rfl rfl ⟨rfl,rfl,rfl,rfl,rfl⟩ rfl rfl rfl rfl rfl (by kernel_rfl) Tryd.func7 (by kernel_rfl)
  (of_decide_eq_true (by kernel_rfl)) (by unfold Func.isWrapper;first | (rw [if_pos (by decide +kernel)];kernel_rfl) | (rw [if_neg (by decide +kernel)];exact ⟨rfl,rfl⟩))
  (fun os started H enc _=>shown_lifted os started H enc)
theorem shown_card:Rows.ShownCardSaid :=
 Claim7.holds_tied_plain_at .later [] [.data,.data,.data] true (Rows.shownCard.stood.harness) false
  shown_holds (fun _ h=>by cases h) (by kernel_rfl) (fun _ h=>by cases h) shown_row_tie rfl ⟨rfl,rfl⟩ (by kernel_rfl) rfl
  (fun f fn hf hfn=>by
   obtain rfl:f=7:=Option.some.inj ((show Tryd.prog.funcNamed "patches/patcheskeep.Shown" = some 7 by kernel_rfl).symm.trans hf) |>.symm
   obtain rfl:fn=Tryd.f7:=(Option.some.inj (Tryd.func7.symm.trans hfn)).symm
   exact ⟨by kernel_rfl,fun j t ht=>by
    rw [Tryd.params7] at ht
    have hm:t∈[22]:=by simpa using Array.mem_of_getElem? ht
    have hall:([22].all fun u=>!Tryd.prog.wantsStandIn u)=true:=by kernel_rfl
    exact (show Tryd.prog.wantsStandIn t=false by simpa using List.all_eq_true.1 hall t hm)⟩)
  (by kernel_rfl)
end Go.Proofs.YtlaffgagmncgjabDoor
