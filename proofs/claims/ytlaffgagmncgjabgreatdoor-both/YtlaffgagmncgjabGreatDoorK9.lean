import Derived.Test.YtlaffgagmncgjabGreatDoorK6
namespace Go.Pat
open Go
end Go.Pat
namespace Go.Proofs.YtlaffgagmncgjabGreatDoor
open Tryz Go Go.Pat Go.Proofs
def strOk (n:Nat) (ld:List (List Bool)) (bl:List Int) (t:List Nat):Bool :=
 decide (t.length=n)&&((ld.all fun r=>decide (r.length≤n))&&(decide (ld.length≤n)&&(List.range n).all fun i =>
  decide (t.getD i i≤i)&&(((List.range n).all fun b=>!bndS ld bl i b||decide (t.getD i i=t.getD b b)) &&
   (decide (t.getD i i=i)||(bndS ld bl i (t.getD i i)||(List.range n).any fun a=>bndS ld bl i a&&bndS ld bl a (t.getD i i))))))
theorem strand_ok {n:Nat} {ld:List (List Bool)} {bl:List Int} {t:List Nat} (h:strOk n ld bl t=true) (i:Nat):IsStrand n ld bl i (t.getD i i):=by
 unfold strOk at h
 simp only [Bool.and_eq_true,decide_eq_true_eq,List.all_eq_true,List.mem_range,Bool.or_eq_true,Bool.not_eq_true',List.any_eq_true] at h
 obtain ⟨h1,h2,h3,h4⟩:=h
 have past:∀ k,n≤k→t.getD k k=k:=fun k hk=>by rw [List.getD_eq_getElem?_getD,List.getElem?_eq_none (by omega)];rfl
 have out:∀ b,n≤i→bndS ld bl i b=false:=fun b hi=>by
  unfold bndS
  have e1:getB ld i b=false:=by unfold getB;rw [List.getD_eq_getElem?_getD (l:=ld),List.getElem?_eq_none (by omega)];rfl
  have e2:getB ld b i=false:=by
   unfold getB
   cases hb:ld[b]? with
   | none=>rw [List.getD_eq_getElem?_getD (l:=ld),hb];rfl
   | some r =>
    have:=h2 r (List.mem_of_getElem? hb)
    rw [List.getD_eq_getElem?_getD (l:=ld),hb,Option.getD_some,List.getD_eq_getElem?_getD,List.getElem?_eq_none (by omega)];rfl
  rw [e1,e2];simp
 refine ⟨?_,fun k hk=>?_⟩
 ·by_cases hi:i<n
  ·obtain ⟨g1,g2,g3⟩:=h4 i hi
   rcases g3 with e | e | ⟨a,ha,e1,e2⟩
   ·rw [e];exact .refl
   ·exact .step .refl (by omega) e
   ·exact .step (.step .refl ha e1) (by omega) e2
  ·rw [past i (by omega)];exact .refl
 ·have key:=hk (fun k=>(k<n∨k=i)∧t.getD k k=t.getD i i) ⟨.inr rfl,rfl⟩ fun a b ha hb hbn=>by
   refine ⟨.inl hb,?_⟩
   rcases Nat.lt_or_ge a n with e | e
   ·rcases (h4 a e).2.1 b hb with e' | e'
    ·rw [e'] at hbn;cases hbn
    ·rw [← e'];exact ha.2
   ·rcases ha.1 with e' | e'
    ·omega
    ·subst e';rw [out b e] at hbn;cases hbn
  rw [← key.2]
  rcases Nat.lt_or_ge k n with e | e
  ·exact (h4 k e).1
  ·rw [past k e];exact Nat.le_refl _
def rchS (ps:List PatchD):Nat→List Nat→List Nat
 | 0,R=>R
 | k+1,R=>rchS ps k (R++ps.flatMap fun p=>if R.contains p.id=true then p.needs else [])
def rchA (ps:List PatchD) (a:Nat):List Nat:=rchS ps ps.length [a]
def cloOk (ps:List PatchD) (a:Nat):Bool:=ps.all fun p=>!(rchA ps a).contains p.id||p.needs.all fun d=>(rchA ps a).contains d
theorem rch_sound {ps:List PatchD} {a:Nat}:∀ (k:Nat) (R:List Nat),(∀ x∈R,Reach ps a x)→∀ x∈rchS ps k R,Reach ps a x
 | 0,_,h=>h
 | k+1,R,h=>rch_sound k _ fun x hx=>by
  rcases List.mem_append.1 hx with e | e
  ·exact h x e
  ·obtain ⟨p,hp,hx⟩:=List.mem_flatMap.1 e
   split at hx
   ·rename_i hc
    exact (h p.id (by simpa using hc)).step hp rfl hx
   ·cases hx
theorem rch_keep {ps:List PatchD}:∀ (k:Nat) (R:List Nat) (x:Nat),x∈R→x∈rchS ps k R
 | 0,_,_,h=>h
 | k+1,_,x,h=>rch_keep k _ x (List.mem_append_left _ h)
theorem rch_iff {ps:List PatchD} {a:Nat} (h:cloOk ps a=true) (c:Nat):(rchA ps a).contains c=true↔Reach ps a c:=by
 rw [List.contains_iff_mem]
 constructor
 ·exact rch_sound _ _ (fun x hx=>by simp at hx;subst hx;exact .refl) c
 ·intro hr
  refine hr (fun x=>x∈rchA ps a) (rch_keep _ _ _ (by simp)) fun b d p hb hp hi hd=>?_
  unfold cloOk at h
  have:=List.all_eq_true.1 h p hp
  rw [Bool.or_eq_true,Bool.not_eq_true',List.all_eq_true] at this
  rcases this with e | e
  ·rw [hi] at e
   have:=List.contains_iff_mem.2 hb
   rw [this] at e;cases e
  ·exact List.contains_iff_mem.1 (e d hd)
def orphB (ps:List PatchD) (l:LineD):Bool:=(List.range 2).any fun k=>(killersS (beside l k) ps).any fun d=>!(rchA ps d).contains l.ref.p && !(rchA ps l.ref.p).contains d
theorem orphB_iff {ps:List PatchD} {l:LineD} (h:∀ a∈ps.map PatchD.id,cloOk ps a=true) (hl:l.ref.p∈ps.map PatchD.id):orphB ps l=true↔Orphan ps l:=by
 unfold orphB Orphan Bad
 simp only [List.any_eq_true,List.mem_range,Bool.and_eq_true,Bool.not_eq_true']
 constructor
 ·rintro ⟨k,hk,d,hd,h1,h2⟩
  refine ⟨k,hk,d,hd,fun e=>?_,fun e=>?_⟩
  ·rw [(rch_iff (h d (killersS_ids hd)) _).2 e] at h1;cases h1
  ·rw [(rch_iff (h _ hl) _).2 e] at h2;cases h2
 ·rintro ⟨k,hk,d,hd,h1,h2⟩
  refine ⟨k,hk,d,hd,Bool.eq_false_iff.2 fun e=>h1 ((rch_iff (h d (killersS_ids hd)) _).1 e),Bool.eq_false_iff.2 fun e=>h2 ((rch_iff (h _ hl) _).1 e)⟩
def lotOk (ps:List PatchD) (t:List Nat) (ob:List Bool) (want:List (List UInt8)):Bool :=
 strOk (alS ps).length (leadS ps) (blkS ps) t&&((((ps.map PatchD.id).all fun a=>cloOk ps a)&&((alS ps).all fun l=>(ps.map PatchD.id).contains l.ref.p))&&(decide ((alS ps).map (orphB ps)=ob)&&decide (showFull ps (fun i=>t.getD i i) (fun i=>ob.getD i false)=want)))
theorem lot_show {ps:List PatchD} {t:List Nat} {ob:List Bool} {want:List (List UInt8)} (h:lotOk ps t ob want=true) {sd:Nat→Int} {orx:Nat→Bool} (hn:NumX ps sd orx):showW (itemsX ps sd orx)=want:=by
 unfold lotOk at h
 simp only [Bool.and_eq_true,List.all_eq_true,decide_eq_true_eq] at h
 obtain ⟨h1,⟨h2,h3⟩,h4,h5⟩:=h
 rw [← h5]
 refine (show_same (fun i=>strand_ok h1 i) (fun i l hl=>?_) hn).symm
 rw [← orphB_iff h2 (List.contains_iff_mem.1 (h3 l (List.mem_of_getElem? hl))),← h4]
 simp [List.getD_eq_getElem?_getD,hl]
def pat1:PatchD:=⟨1,[],[⟨1,⟨0,0⟩,⟨0,1⟩,[97]⟩]⟩
def pat3:PatchD:=⟨3,[1],[⟨2,⟨1,0⟩,⟨0,0⟩,[]⟩]⟩
theorem r31:Reach [pat1,pat3] 3 1:=(rch_iff (by kernel_rfl) 1).1 (by kernel_rfl)
end Go.Proofs.YtlaffgagmncgjabGreatDoor
