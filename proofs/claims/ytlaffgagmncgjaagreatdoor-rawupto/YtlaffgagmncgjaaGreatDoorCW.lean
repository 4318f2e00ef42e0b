import Derived.Test.YtlaffgagmncgjaaGreatDoorE1
import Derived.Test.YtlaffgagmncgjaaGreatDoorLY
import Derived.Deep.DeepHandedRow
import Derived.Deep.DeepWitnessRowRef
set_option maxRecDepth 100000
namespace Go.Proofs.YtlaffgagmncgjaaGreatDoor
open _root_.Go.Proofs.Tryz Go Go.Pat Go.Proofs Go.ChangeShapes Go.WideShapes Go.ChangeAt Go.RowKit
theorem bulk_texts {H:Type} {D:Nat→DataW H} {F:Nat→List UInt8}:∀ (L:List Nat),(∀ i∈L,D i = .lit (.string (F i)))→Rows.uptoBulkAll (L.map D)=kweight (L.map F)+L.length
 | [],_=>rfl
 | i::L,h=>by
  have h1:=bulk_texts L fun j hj=>h j (List.mem_cons_of_mem _ hj)
  have h2:=h i (List.mem_cons_self ..)
  simp only [List.map_cons,Rows.uptoBulkAll,kweight,List.foldr_cons,List.length_cons,h2,Rows.uptoBulk] at h1 ⊢
  omega
theorem open_bulk {H:Type} {enc:TypeId × Value→H} {w:World} {base:Nat} {sp:Nat→Bool} {held:Bool} {v:Value} {d:DataW H} {p:List MemPlace}
  (hval:Value.okWide Tryz.prog w .any base 25 v) (h:DataW.Trod enc Tryz.prog w 0 sp held 25 v d p) :
  ∃ l:List (List UInt8),Rd w.heap 1 v l.length (strs l)∧l.length+kweight l≤Rows.uptoBulk d:=by
 obtain ⟨a0,len,cap,rfl⟩:=okWide_slice Tryz.underlying25 hval
 obtain ⟨fuel,h⟩:=h
 have c1:Tryz.prog.cellsOf 9=1:=by kernel_rfl
 rcases Deep.open_slice Tryz.underlying25 h with ⟨hv,_⟩ | ⟨a,len1,cap1,m,n,D,Pl,hv,_,hl,hm,hmm,hx,hel⟩
 ·cases hv
  exact ⟨[],⟨rfl,.inl ⟨rfl,rfl⟩⟩,by simp [kweight]⟩
 ·cases hv
  cases hx
  have hspot:a.spot=none:=by
   simp only [Value.okWide,Cell.okWide,Cell.ok,Tryz.underlying25] at hval
   exact hval.2.2.2.1
  obtain ⟨ab,ao,sp'⟩:=a
  cases hspot
  have hlm:len≤m:=by rw [hmm];split<;>omega
  rw [c1] at hel
  have key:∀ i,i<len→∃ t:List UInt8,D i = .lit (.string t)∧cellAt w.heap ab (ao+i)=some (.string (str t)):=by
   intro i hi
   obtain ⟨cs,hc,ht⟩:=hel i (by omega)
   obtain ⟨s,rfl,hD,_⟩:=DataW.trod_string Tryz.underlying9 ht
   have hDi:D i = .lit (.string s.data.toList):=congrArg Prod.fst hD
   obtain ⟨_,hcl,hcell⟩:=World.cells?_some hc
   refine ⟨s.data.toList,hDi,?_⟩
   have:=hcell 0 (by omega)
   rw [kstr_eq]
   rw [WideShapes.add_plain,WideShapes.add_plain] at this
   rw [cellAt]
   simp only [World.cell?] at this
   revert this
   generalize w.heap[ab]? = z
   cases z with
   | none=>intro e;cases e
   | some z =>
    cases z with
    | cells c t fr=>intro e;simpa using e
    | map _ _=>intro e;cases e
    | _=>intro e;cases e
  obtain ⟨F,hF⟩:=Deep.choose_lt (p:=fun i (t:List UInt8)=>D i = .lit (.string t)∧cellAt w.heap ab (ao+i)=some (.string (str t))) key
  refine ⟨(List.range len).map F,⟨by simp [Pat.strs],?_⟩,?_⟩
  ·right
   refine ⟨ab,ao,cap,by simp,by simpa using hl,fun i u hi=>?_⟩
   simp only [Pat.strs,List.map_map,List.getElem?_map] at hi
   obtain ⟨i',hi',rfl⟩:=Option.map_eq_some_iff.1 hi
   have hi2:=List.getElem?_eq_some_iff.1 hi'
   have e:i'=i:=by simpa using hi2.2.symm
   subst e
   exact (hF i' (by simpa using hi2.1)).2
  ·have:=bulk_texts (D:=D) (F:=F) (List.range len) fun i hi=>(hF i (List.mem_range.1 hi)).1
   simp only [Rows.uptoBulk,List.length_map,List.length_range] at this ⊢
   omega
theorem raw_lifted (os:Os) (started:os.Started) (H:Type) (enc:TypeId × Value→H) (F:Stop.Interp) :
  ReturnsInHanded {} Tryz.checked os 14 .any ((Rows.OpenSpec.upto Rows.rawSpec).preRow enc Tryz.prog Tryz.f14 Rows.rawUptoRow.domain false Rows.rawUptoRow.laid) (((Rows.OpenSpec.upto Rows.rawSpec).at F).post enc Tryz.prog Tryz.f14 false true false false):=by
 refine returnsInHanded_of_row (C:=Tryz.checked) (s:=Rows.OpenSpec.upto Rows.rawSpec) Tryz.own started (by kernel_rfl) func14
  (witness_row_atRef (enc:=enc) (C:=Tryz.checked) false (World.doorLaid Tryz.prog 400 os) #[.slice none 0 0,.int .i64 0,.slice none 0 0] rfl (by kernel_rfl) (by kernel_rfl) (by kernel_rfl)
   (OpenSpec.preRow_of_cond 8 (x:=([.nil,.lit (.int .i64 0),.nil],[],[])) (by kernel_rfl) (by kernel_rfl) (fun k hk=>by cases hk;kernel_rfl) (by kernel_rfl) (kdoor_met os _))) ?_
 intro W base args ds gs before hval0 hW _ hcond _ hL _ _
 have hval:∀ (j:Nat) t v,Tryz.f14.params[j]? = some t→args[j]? = some v→Value.okWide Tryz.prog W .any base t v:=hval0
 have hW':=hW
 obtain ⟨p,q,hA0,hV,rfl,hfz,hnd⟩:=hW
 have hA:DataW.TrodAll enc Tryz.prog W 0 (fun _=>true) true Tryz.f14.params.toList args.toList ds p:=hA0
 rw [Tryz.params14] at hA hval
 obtain ⟨v0,v1,v2,d0,d1,d2,p0,p1,p2,rfl,rfl,rfl,h0,h1,h2⟩:=trodAll_three hA
 obtain ⟨rfl,rfl⟩:=trodVars_none hV
 clear hA0 hval0
 simp only [List.append_nil,List.append_assoc] at hW'
 have hlt:∀ x∈p0++(p1++p2),x.block<W.heap.size:=fun x hx=>by simpa using hW'.lt x (by simpa using hx)
 obtain ⟨l,hr,hlb⟩:=open_bulk (hval 0 _ v0 rfl rfl) h0
 obtain ⟨q,hq⟩:=okWide_int Tryz.underlying3 (hval 1 _ v1 rfl rfl)
 subst hq
 obtain ⟨m,hm,hmb⟩:=open_bulk (hval 2 _ v2 rfl rfl) h2
 have hbd:Rows.uptoBulkAll ([d0,d1,d2]++[])≤1048576:=of_decide_eq_true (hcond _ rfl)
 simp only [List.append_nil,Rows.uptoBulkAll] at hbd
 refine (raw_ret l m v0 v2 q W.heap hr hm (by omega) (ktab_of_laid hL) W rfl).mono fun e W' ⟨v,he,hs,hx,hv⟩=>?_
 subst he;subst hv
 have bel:=kbelow_of hs hx
 exact ⟨_,rfl,⟨_,_,_,[],p0++(p1++p2),[],hW',trodAll_mk1 (shut_bool Tryz.underlying4 _),trodAll_mk3 (Below.trod Tryz.laidOut (by kernel_rfl) (of_decide_eq_true (by kernel_rfl)) h0 bel fun x hx=>hlt x (List.mem_append_left _ hx)) (Below.trod Tryz.laidOut (by kernel_rfl) (of_decide_eq_true (by kernel_rfl)) h1 bel fun x hx=>hlt x (List.mem_append_right _ (List.mem_append_left _ hx))) (Below.trod Tryz.laidOut (by kernel_rfl) (of_decide_eq_true (by kernel_rfl)) h2 bel fun x hx=>hlt x (List.mem_append_right _ (List.mem_append_right _ hx))),rfl,bel.frame _,fun h=>by cases h⟩⟩
theorem raw_holds:Rows.RawUptoSaid :=
 OpenClaim.holds_of_cond 14 Tryz.f14 rfl rfl rfl rfl rfl rfl rfl ⟨rfl,rfl,rfl,rfl,rfl⟩ rfl rfl rfl rfl rfl (by kernel_rfl) func14 (by kernel_rfl)
  (of_decide_eq_true (by kernel_rfl)) (by unfold Func.isWrapper;first | (rw [if_pos (by decide +kernel)];kernel_rfl) | (rw [if_neg (by decide +kernel)];exact ⟨rfl,rfl⟩))
  (fun os started H enc _ F=>by rw [OpenClaim.pre_eq_preRow];exact raw_lifted os started H enc F)
theorem rawupto_card:Rows.RawUptoCardSaid :=
 Claim7.holds_tied_plain_at .later [] [.data,.data,.data] true (Rows.rawUptoCard.stood.harness) false
  raw_holds (fun _ h=>by cases h) (by kernel_rfl) (fun _ h=>by cases h) rawUpto_row_tie rfl ⟨rfl,rfl⟩ (by kernel_rfl) rfl
  (fun f fn hf hfn=>by
   obtain rfl:f=14:=Option.some.inj ((show Tryz.prog.funcNamed "patches/patcheslaw.Raw" = some 14 by kernel_rfl).symm.trans hf) |>.symm
   obtain rfl:fn=Tryz.f14:=(Option.some.inj (func14.symm.trans hfn)).symm
   exact ⟨by kernel_rfl,fun j t ht=>by
    rw [Tryz.params14] at ht
    have hm:t∈[25,3,25]:=by simpa using Array.mem_of_getElem? ht
    have hall:([25,3,25].all fun u=>!Tryz.prog.wantsStandIn u)=true:=by kernel_rfl
    exact (show Tryz.prog.wantsStandIn t=false by simpa using List.all_eq_true.1 hall t hm)⟩)
  (by kernel_rfl)
end Go.Proofs.YtlaffgagmncgjaaGreatDoor
