import Derived.Test.YtlaffgagmncgjabDoorK7
set_option maxRecDepth 20000
set_option maxHeartbeats 3200000
namespace Go.Pat
open Go
theorem retk1 {fn:Func} {n:Nat} {env:Env} {h:Heap} {T:Tab} {P:Program} {t b:Nat} {ty:TypeId} {l:List Value} {i:TI} (hT:T.ok P) (hr:fn.results = #[.cell t ty]) (hv:env.get? t=some (.pointer (some ⟨b,0,none⟩)))
  (ht:T.get? ty=some i) (hag:i.kind.agg=true) (hl:l.length=i.size) (hc:Cells h b 0 l) (a:Act) (w:World) (ha:Sat n env a) (hw:w.heap=h):(results fn a.tmps).run P w = .ok (.agg l.toArray) w:=by
 have h1:=ha.known t _ hv
 subst hw
 have:=run_loadCellsFrom (P:=P) l 0 #[] (by simpa using hc)
 simp [results,hr,Array.getD_eq_getD_getElem?,h1,asAddr,loadVar,run_isAgg (Tab.fits hT ht),hag,run_sizeOf (Tab.fits hT ht),loadCells,← hl,this]
end Go.Pat
namespace Go.Proofs.YtlaffgagmncgjabDoor
open Go Go.Pat Go.Proofs
def relax (n:Nat) (ld:List (List Bool)) (bl:List Int) (t:List Nat):List Nat:=(List.range n).map fun i=>(List.range n).foldl (fun m b=>if bndS ld bl i b=true then Nat.min m (t.getD b b) else m) (t.getD i i)
def strOk (n:Nat) (ld:List (List Bool)) (bl:List Int) (t:List Nat):Bool :=
 decide (t.length=n)&&((ld.all fun r=>decide (r.length≤n))&&(decide (ld.length≤n)&&(List.range n).all fun i =>
  decide (t.getD i i≤i)&&(((List.range n).all fun b=>!bndS ld bl i b||decide (t.getD i i=t.getD b b)) &&
   (decide (t.getD i i=i)||(bndS ld bl i (t.getD i i)||(List.range n).any fun a=>bndS ld bl i a&&bndS ld bl a (t.getD i i))))))
theorem strand_ok {n:Nat} {ld:List (List Bool)} {bl:List Int} {t:List Nat} (h:strOk n ld bl t=true) (i:Nat):IsStrand n ld bl i (t.getD i i):=by
 unfold strOk at h
 simp only [Bool.and_eq_true,decide_eq_true_eq,List.all_eq_true,List.mem_range,Bool.or_eq_true,Bool.not_eq_true',List.any_eq_true] at h
 obtain ⟨h1,h2,h3,h4⟩:=h
 have past:∀ k,n≤k→t.getD k k=k:=fun k hk=>by rw [List.getD_eq_getElem?_getD,List.getElem?_eq_none (by omega)];rfl
 have out:∀ b,n≤i→bndS ld bl i b=false:=fun b hi=>by
  unfold bndS
  have e1:getB ld i b=false:=by unfold getB;rw [List.getD_eq_getElem?_getD (l:=ld),List.getElem?_eq_none (by omega)];rfl
  have e2:getB ld b i=false:=by
   unfold getB
   cases hb:ld[b]? with
   | none=>rw [List.getD_eq_getElem?_getD (l:=ld),hb];rfl
   | some r =>
    have:=h2 r (List.mem_of_getElem? hb)
    rw [List.getD_eq_getElem?_getD (l:=ld),hb,Option.getD_some,List.getD_eq_getElem?_getD,List.getElem?_eq_none (by omega)];rfl
  rw [e1,e2];simp
 refine ⟨?_,fun k hk=>?_⟩
 ·by_cases hi:i<n
  ·obtain ⟨g1,g2,g3⟩:=h4 i hi
   rcases g3 with e | e | ⟨a,ha,e1,e2⟩
   ·rw [e];exact .refl
   ·exact .step .refl (by omega) e
   ·exact .step (.step .refl ha e1) (by omega) e2
  ·rw [past i (by omega)];exact .refl
 ·have key:=hk (fun k=>(k<n∨k=i)∧t.getD k k=t.getD i i) ⟨.inr rfl,rfl⟩ fun a b ha hb hbn=>by
   refine ⟨.inl hb,?_⟩
   rcases Nat.lt_or_ge a n with e | e
   ·rcases (h4 a e).2.1 b hb with e' | e'
    ·rw [e'] at hbn;cases hbn
    ·rw [← e'];exact ha.2
   ·rcases ha.1 with e' | e'
    ·omega
    ·subst e';rw [out b e] at hbn;cases hbn
  rw [← key.2]
  rcases Nat.lt_or_ge k n with e | e
  ·exact (h4 k e).1
  ·rw [past k e];exact Nat.le_refl _
def rchS (ps:List PatchD):Nat→List Nat→List Nat
 | 0,R=>R
 | k+1,R=>rchS ps k (R++ps.flatMap fun p=>if R.contains p.id=true then p.needs else [])
def rchA (ps:List PatchD) (a:Nat):List Nat:=rchS ps ps.length [a]
def cloOk (ps:List PatchD) (a:Nat):Bool:=ps.all fun p=>!(rchA ps a).contains p.id||p.needs.all fun d=>(rchA ps a).contains d
theorem rch_sound {ps:List PatchD} {a:Nat}:∀ (k:Nat) (R:List Nat),(∀ x∈R,Reach ps a x)→∀ x∈rchS ps k R,Reach ps a x
 | 0,_,h=>h
 | k+1,R,h=>rch_sound k _ fun x hx=>by
  rcases List.mem_append.1 hx with e | e
  ·exact h x e
  ·obtain ⟨p,hp,hx⟩:=List.mem_flatMap.1 e
   split at hx
   ·rename_i hc
    exact (h p.id (by simpa using hc)).step hp rfl hx
   ·cases hx
theorem rch_keep {ps:List PatchD}:∀ (k:Nat) (R:List Nat) (x:Nat),x∈R→x∈rchS ps k R
 | 0,_,_,h=>h
 | k+1,_,x,h=>rch_keep k _ x (List.mem_append_left _ h)
theorem rch_iff {ps:List PatchD} {a:Nat} (h:cloOk ps a=true) (c:Nat):(rchA ps a).contains c=true↔Reach ps a c:=by
 rw [List.contains_iff_mem]
 constructor
 ·exact rch_sound _ _ (fun x hx=>by simp at hx;subst hx;exact .refl) c
 ·intro hr
  refine hr (fun x=>x∈rchA ps a) (rch_keep _ _ _ (by simp)) fun b d p hb hp hi hd=>?_
  unfold cloOk at h
  have:=List.all_eq_true.1 h p hp
  rw [Bool.or_eq_true,Bool.not_eq_true',List.all_eq_true] at this
  rcases this with e | e
  ·rw [hi] at e
   have:=List.contains_iff_mem.2 hb
   rw [this] at e;cases e
  ·exact List.contains_iff_mem.1 (e d hd)
def orphB (ps:List PatchD) (l:LineD):Bool:=(List.range 2).any fun k=>(killersS (beside l k) ps).any fun d=>!(rchA ps d).contains l.ref.p && !(rchA ps l.ref.p).contains d
theorem orphB_iff {ps:List PatchD} {l:LineD} (h:∀ a∈ps.map PatchD.id,cloOk ps a=true) (hl:l.ref.p∈ps.map PatchD.id):orphB ps l=true↔Orphan ps l:=by
 unfold orphB Orphan Bad
 simp only [List.any_eq_true,List.mem_range,Bool.and_eq_true,Bool.not_eq_true']
 constructor
 ·rintro ⟨k,hk,d,hd,h1,h2⟩
  refine ⟨k,hk,d,hd,fun e=>?_,fun e=>?_⟩
  ·rw [(rch_iff (h d (killersS_ids hd)) _).2 e] at h1;cases h1
  ·rw [(rch_iff (h _ hl) _).2 e] at h2;cases h2
 ·rintro ⟨k,hk,d,hd,h1,h2⟩
  refine ⟨k,hk,d,hd,Bool.eq_false_iff.2 fun e=>h1 ((rch_iff (h d (killersS_ids hd)) _).1 e),Bool.eq_false_iff.2 fun e=>h2 ((rch_iff (h _ hl) _).1 e)⟩
def orpAt (ps:List PatchD) (al:List LineD) (i:Nat):Bool:=match al[i]? with
 | some l=>orphB ps l
 | none=>false
def lotOk (ps:List PatchD) (t:List Nat) (ob:List Bool) (want:List (List UInt8)):Bool :=
 strOk (alS ps).length (leadS ps) (blkS ps) t&&((((ps.map PatchD.id).all fun a=>cloOk ps a)&&((alS ps).all fun l=>(ps.map PatchD.id).contains l.ref.p))&&(decide ((alS ps).map (orphB ps)=ob)&&decide (showFull ps (fun i=>t.getD i i) (fun i=>ob.getD i false)=want)))
theorem lot_show {ps:List PatchD} {t:List Nat} {ob:List Bool} {want:List (List UInt8)} (h:lotOk ps t ob want=true) {sd:Nat→Int} {orx:Nat→Bool} (hn:NumX ps sd orx):showW (itemsX ps sd orx)=want:=by
 unfold lotOk at h
 simp only [Bool.and_eq_true,List.all_eq_true,decide_eq_true_eq] at h
 obtain ⟨h1,⟨h2,h3⟩,h4,h5⟩:=h
 rw [← h5]
 refine (show_same (fun i=>strand_ok h1 i) (fun i l hl=>?_) hn).symm
 rw [← orphB_iff h2 (List.contains_iff_mem.1 (h3 l (List.mem_of_getElem? hl))),← h4]
 simp [List.getD_eq_getElem?_getD,hl]
def lotT:Nat→List (List UInt8)
 | 0=>[[112,97,116,99,104,32,49,10,110,101,101,100,115,10,97,100,100,32,94,32,36,32,97,10,97,100,100,32,49,46,48,32,36,32,98,10,97,100,100,32,49,46,49,32,36,32,99,10]]
 | 1=>[[112,97,116,99,104,32,49,10,110,101,101,100,115,10,97,100,100,32,94,32,36,32,97,10,97,100,100,32,49,46,48,32,36,32,98,10,97,100,100,32,49,46,49,32,36,32,99,10],[112,97,116,99,104,32,50,10,110,101,101,100,115,32,49,10,100,101,108,32,49,46,49,10,97,100,100,32,49,46,48,32,49,46,50,32,120,10]]
 | 2=>[[112,97,116,99,104,32,49,10,110,101,101,100,115,10,97,100,100,32,94,32,36,32,97,10,97,100,100,32,49,46,48,32,36,32,98,10,97,100,100,32,49,46,49,32,36,32,99,10],[112,97,116,99,104,32,51,10,110,101,101,100,115,32,49,10,97,100,100,32,49,46,48,32,49,46,49,32,112,10,97,100,100,32,51,46,48,32,49,46,49,32,113,10],[112,97,116,99,104,32,50,10,110,101,101,100,115,32,49,10,97,100,100,32,49,46,48,32,49,46,49,32,114,10]]
 | 3=>[[112,97,116,99,104,32,49,10,110,101,101,100,115,10,97,100,100,32,94,32,36,32,97,10,97,100,100,32,49,46,48,32,36,32,98,10,97,100,100,32,49,46,49,32,36,32,99,10],[112,97,116,99,104,32,51,10,110,101,101,100,115,32,49,10,97,100,100,32,49,46,48,32,49,46,49,32,112,10],[112,97,116,99,104,32,50,10,110,101,101,100,115,32,49,10,97,100,100,32,49,46,48,32,49,46,49,32,114,10],[112,97,116,99,104,32,52,10,110,101,101,100,115,32,50,32,51,10,116,105,101,32,51,46,48,32,50,46,48,10]]
 | 4=>[[112,97,116,99,104,32,49,10,110,101,101,100,115,10,97,100,100,32,94,32,36,32,97,10,97,100,100,32,49,46,48,32,36,32,98,10,97,100,100,32,49,46,49,32,36,32,99,10],[112,97,116,99,104,32,50,10,110,101,101,100,115,32,49,10,97,100,100,32,49,46,48,32,49,46,49,32,112,10,97,100,100,32,49,46,48,32,49,46,49,32,113,10],[112,97,116,99,104,32,51,10,110,101,101,100,115,32,50,10,116,105,101,32,50,46,48,32,50,46,49,10],[112,97,116,99,104,32,52,10,110,101,101,100,115,32,50,10,116,105,101,32,50,46,49,32,50,46,48,10]]
 | 5=>[[112,97,116,99,104,32,49,10,110,101,101,100,115,10,97,100,100,32,94,32,36,32,97,10,97,100,100,32,49,46,48,32,36,32,98,10,97,100,100,32,49,46,49,32,36,32,99,10],[112,97,116,99,104,32,50,10,110,101,101,100,115,32,49,10,100,101,108,32,49,46,49,10],[112,97,116,99,104,32,51,10,110,101,101,100,115,32,49,10,97,100,100,32,49,46,48,32,49,46,49,32,120,10]]
 | 6=>[[112,97,116,99,104,32,49,10,110,101,101,100,115,10,97,100,100,32,94,32,36,32,97,10,97,100,100,32,49,46,48,32,36,32,98,10,97,100,100,32,49,46,49,32,36,32,99,10],[112,97,116,99,104,32,51,10,110,101,101,100,115,32,49,10,97,100,100,32,49,46,48,32,49,46,49,32,120,10],[112,97,116,99,104,32,52,10,110,101,101,100,115,32,49,32,51,10,100,101,108,32,49,46,49,10]]
 | 7=>[[112,97,116,99,104,32,49,10,110,101,101,100,115,10,97,100,100,32,94,32,36,32,97,10,97,100,100,32,94,32,36,32,98,10,97,100,100,32,49,46,48,32,36,32,109,10,97,100,100,32,49,46,49,32,49,46,50,32,122,10,97,100,100,32,49,46,50,32,36,32,117,10,97,100,100,32,49,46,50,32,36,32,118,10]]
 | 8=>[[112,97,116,99,104,32,49,10,110,101,101,100,115,10,97,100,100,32,94,32,36,32,97,10,97,100,100,32,49,46,48,32,36,32,98,10,97,100,100,32,49,46,49,32,36,32,99,10],[112,97,116,99,104,32,50,10,110,101,101,100,115,32,49,10,97,100,100,32,94,32,49,46,49,32,112,10,97,100,100,32,49,46,49,32,36,32,113,10],[112,97,116,99,104,32,51,10,110,101,101,100,115,32,49,10,100,101,108,32,49,46,49,10],[112,97,116,99,104,32,52,10,110,101,101,100,115,32,49,32,50,10,100,101,108,32,49,46,48,10,100,101,108,32,49,46,50,10]]
 | _=>[]
def lotS:Nat→List (List UInt8)
 | 0=>[[32,97],[32,98],[32,99]]
 | 1=>[[32,97],[32,120],[32,99]]
 | 2=>[[32,97],[60],[124,114],[61],[124,112],[124,113],[62],[32,98],[32,99]]
 | 3=>[[32,97],[32,112],[32,114],[32,98],[32,99]]
 | 4=>[[32,97],[60],[64,112],[64,113],[62],[32,98],[32,99]]
 | 5=>[[32,97],[33,120],[32,99]]
 | 6=>[[32,97],[32,120],[32,99]]
 | 7=>[[60],[124,97],[61],[124,98],[124,122],[62],[32,109],[60],[124,117],[61],[124,118],[62]]
 | 8=>[[33,112],[33,113]]
 | _=>[]
def lotP:Nat→List PatchD
 | 0=>[patA]
 | 1=>[patA,⟨2,[1],[⟨2,⟨1,1⟩,⟨0,0⟩,[]⟩,⟨1,⟨1,0⟩,⟨1,2⟩,[120]⟩]⟩]
 | 2=>[patA,⟨2,[1],[⟨1,⟨1,0⟩,⟨1,1⟩,[114]⟩]⟩,⟨3,[1],[⟨1,⟨1,0⟩,⟨1,1⟩,[112]⟩,⟨1,⟨3,0⟩,⟨1,1⟩,[113]⟩]⟩]
 | 3=>[patA,⟨2,[1],[⟨1,⟨1,0⟩,⟨1,1⟩,[114]⟩]⟩,⟨3,[1],[⟨1,⟨1,0⟩,⟨1,1⟩,[112]⟩]⟩,⟨4,[2,3],[⟨3,⟨3,0⟩,⟨2,0⟩,[]⟩]⟩]
 | 4=>[patA,⟨2,[1],[⟨1,⟨1,0⟩,⟨1,1⟩,[112]⟩,⟨1,⟨1,0⟩,⟨1,1⟩,[113]⟩]⟩,⟨3,[2],[⟨3,⟨2,0⟩,⟨2,1⟩,[]⟩]⟩,⟨4,[2],[⟨3,⟨2,1⟩,⟨2,0⟩,[]⟩]⟩]
 | 5=>[patA,⟨2,[1],[⟨2,⟨1,1⟩,⟨0,0⟩,[]⟩]⟩,⟨3,[1],[⟨1,⟨1,0⟩,⟨1,1⟩,[120]⟩]⟩]
 | 6=>[patA,⟨3,[1],[⟨1,⟨1,0⟩,⟨1,1⟩,[120]⟩]⟩,⟨4,[1,3],[⟨2,⟨1,1⟩,⟨0,0⟩,[]⟩]⟩]
 | 7=>[⟨1,[],[⟨1,⟨0,0⟩,⟨0,1⟩,[97]⟩,⟨1,⟨0,0⟩,⟨0,1⟩,[98]⟩,⟨1,⟨1,0⟩,⟨0,1⟩,[109]⟩,⟨1,⟨1,1⟩,⟨1,2⟩,[122]⟩,⟨1,⟨1,2⟩,⟨0,1⟩,[117]⟩,⟨1,⟨1,2⟩,⟨0,1⟩,[118]⟩]⟩]
 | 8=>[patA,⟨2,[1],[⟨1,⟨0,0⟩,⟨1,1⟩,[112]⟩,⟨1,⟨1,1⟩,⟨0,1⟩,[113]⟩]⟩,⟨3,[1],[⟨2,⟨1,1⟩,⟨0,0⟩,[]⟩]⟩,⟨4,[1,2],[⟨2,⟨1,0⟩,⟨0,0⟩,[]⟩,⟨2,⟨1,2⟩,⟨0,0⟩,[]⟩]⟩]
 | _=>[]
theorem lotR0:runS [] (lotT 0)=(0,lotP 0):=by kernel_rfl
theorem lotG0:lotOk (lotP 0) [0,0,0] [false,false,false] (lotS 0)=true:=by kernel_rfl
theorem lotR1:runS [] (lotT 1)=(0,lotP 1):=by kernel_rfl
theorem lotG1:lotOk (lotP 1) [0,0,0] [false,false,false] (lotS 1)=true:=by kernel_rfl
theorem lotR2:runS [] (lotT 2)=(0,lotP 2):=by kernel_rfl
theorem lotG2:lotOk (lotP 2) [0,0,0,3,4,4] [false,false,false,false,false,false] (lotS 2)=true:=by kernel_rfl
theorem lotR3:runS [] (lotT 3)=(0,lotP 3):=by kernel_rfl
theorem lotG3:lotOk (lotP 3) [0,0,0,0,0] [false,false,false,false,false] (lotS 3)=true:=by kernel_rfl
theorem lotR4:runS [] (lotT 4)=(0,lotP 4):=by kernel_rfl
theorem lotG4:lotOk (lotP 4) [0,0,0,3,3] [false,false,false,false,false] (lotS 4)=true:=by kernel_rfl
theorem lotR5:runS [] (lotT 5)=(0,lotP 5):=by kernel_rfl
theorem lotG5:lotOk (lotP 5) [0,0,0] [false,false,true] (lotS 5)=true:=by kernel_rfl
theorem lotR6:runS [] (lotT 6)=(0,lotP 6):=by kernel_rfl
theorem lotG6:lotOk (lotP 6) [0,0,0] [false,false,false] (lotS 6)=true:=by kernel_rfl
theorem lotR7:runS [] (lotT 7)=(0,lotP 7):=by kernel_rfl
theorem lotG7:lotOk (lotP 7) [0,1,2,1,4,5] [false,false,false,false,false,false] (lotS 7)=true:=by kernel_rfl
theorem lotR8:runS [] (lotT 8)=(0,lotP 8):=by kernel_rfl
theorem lotG8:lotOk (lotP 8) [0,0] [true,true] (lotS 8)=true:=by kernel_rfl
theorem lot_run {k:Nat} (hk:k<9):runS [] (lotT k)=(0,lotP k):=by
 have:k=0∨k=1∨k=2∨k=3∨k=4∨k=5∨k=6∨k=7∨k=8:=by omega
 rcases this with rfl | rfl | rfl | rfl | rfl | rfl | rfl | rfl | rfl
 ·exact lotR0
 ·exact lotR1
 ·exact lotR2
 ·exact lotR3
 ·exact lotR4
 ·exact lotR5
 ·exact lotR6
 ·exact lotR7
 ·exact lotR8
theorem lot_shows {k:Nat} (hk:k<9) {sd:Nat→Int} {orx:Nat→Bool} (hn:NumX (lotP k) sd orx):showW (itemsX (lotP k) sd orx)=lotS k:=by
 have:k=0∨k=1∨k=2∨k=3∨k=4∨k=5∨k=6∨k=7∨k=8:=by omega
 rcases this with rfl | rfl | rfl | rfl | rfl | rfl | rfl | rfl | rfl
 ·exact lot_show lotG0 hn
 ·exact lot_show lotG1 hn
 ·exact lot_show lotG2 hn
 ·exact lot_show lotG3 hn
 ·exact lot_show lotG4 hn
 ·exact lot_show lotG5 hn
 ·exact lot_show lotG6 hn
 ·exact lot_show lotG7 hn
 ·exact lot_show lotG8 hn
theorem lot_small {k:Nat} (hk:k<9):(lotT k).length≤1000∧(lotS k).length≤1000∧∀ t∈lotT k,t.length≤1000:=by
 have:k=0∨k=1∨k=2∨k=3∨k=4∨k=5∨k=6∨k=7∨k=8:=by omega
 rcases this with rfl | rfl | rfl | rfl | rfl | rfl | rfl | rfl | rfl<;>exact ⟨by decide,by decide,by decide⟩
theorem plain_klots:Plain Tryd.prog 36:=⟨_,Tryd.func36,by decide +kernel,by rfl⟩
theorem plain_kknown:Plain Tryd.prog 16:=⟨_,Tryd.func16,by decide +kernel,by rfl⟩
theorem plain_krefusals:Plain Tryd.prog 35:=⟨_,Tryd.func35,by decide +kernel,by rfl⟩
theorem plain_kKnown:Plain Tryd.prog 8:=⟨_,Tryd.func8,by decide +kernel,by rfl⟩
theorem one_ss (a c:Option Addr) (n m p q:Nat):One [.slice a n m,.slice c p q]:=by intro u hu;simp at hu;rcases hu with rfl | rfl<;>rfl
structure LotV (k b c:Nat) (h':Heap):Prop where
 txt:Cells h' b 0 (strs (lotT k))
 shw:Cells h' c 0 (strs (lotS k))
 lb:b<h'.size
 lc:c<h'.size
def lotVal (k b c:Nat):Value:=.agg #[.slice (some ⟨b,0,none⟩) (lotT k).length (lotT k).length,.slice (some ⟨c,0,none⟩) (lotS k).length (lotS k).length]
theorem lot_fin {k:Nat} {h h1 h2 h3 h4:Heap} {e e':TypeId} (hx1:Ext h h1) (hs1:h1.size=h.size+1) (hb2:Blk h2 h1.size (strs (lotT k)) e) (hx2:Ext h1 h2) (hs2:h2.size=h1.size+1) (hb3:Blk h3 h2.size (strs (lotS k)) e') (hx3:Ext h2 h3) (hs3:h3.size=h2.size+1) (hx4:Fr (fun k=>k=h.size) h3 h4) (hs4:h4.size=h3.size) :
  Ext h h4∧∃ b c,lotVal k h1.size h2.size=lotVal k b c∧LotV k b c h4 :=
 ⟨((hx1.trans hx2).trans hx3).trans_new (hx4.mono fun k _ e=>.inr (by omega)),_,_,rfl,((hb2.ext hx3).fr hx4 (by omega)).cells,(hb3.fr hx4 (by omega)).cells,by omega,by omega⟩
theorem klots_ret (k:Nat) (hk:k<9) (h:Heap):Ret Tryd.prog 36 #[.int .i64 (k:Int)] h fun v h'=>Ext h h'∧∃ b c,v=lotVal k b c∧LotV k b c h':=by
 refine Ret.of_body Tryd.func36 rfl Tryd.ntmps36 rfl rfl ?_
 have hk':k=0∨k=1∨k=2∨k=3∨k=4∨k=5∨k=6∨k=7∨k=8:=by omega
 refine zgo ?_
 refine WO.alloc tab_ok rfl rfl rfl rfl rfl rfl fun h1 hb1 hx1 hs1=>?_
 rcases hk' with rfl | rfl | rfl | rfl | rfl | rfl | rfl | rfl | rfl
 ·refine zgo ?_
  refine WO.lit (strs (lotT 0)) tab_ok rfl rfl rfl rfl rfl rfl rfl rfl rfl rfl rfl rfl fun h2 hb2 hx2 hs2=>?_
  refine WO.lit (strs (lotS 0)) tab_ok rfl rfl rfl rfl rfl rfl rfl rfl rfl rfl rfl rfl fun h3 hb3 hx3 hs3=>?_
  refine zgo ?_
  refine WO.put tab_ok rfl rfl rfl rfl rfl rfl rfl rfl (one_ss _ _ _ _ _ _) (hb1.ext (hx2.trans hx3)) rfl fun h4 hb4 hx4 hs4=>?_
  refine zgo ?_
  exact Runs.ret Tryd.func36 (retk1 tab_ok Tryd.results36 rfl rfl rfl rfl hb4.cells) (lot_fin (k:=0) hx1 hs1 hb2 hx2 hs2 hb3 hx3 hs3 hx4 hs4)
 ·refine zgo ?_
  refine WO.lit (strs (lotT 1)) tab_ok rfl rfl rfl rfl rfl rfl rfl rfl rfl rfl rfl rfl fun h2 hb2 hx2 hs2=>?_
  refine WO.lit (strs (lotS 1)) tab_ok rfl rfl rfl rfl rfl rfl rfl rfl rfl rfl rfl rfl fun h3 hb3 hx3 hs3=>?_
  refine zgo ?_
  refine WO.put tab_ok rfl rfl rfl rfl rfl rfl rfl rfl (one_ss _ _ _ _ _ _) (hb1.ext (hx2.trans hx3)) rfl fun h4 hb4 hx4 hs4=>?_
  refine zgo ?_
  exact Runs.ret Tryd.func36 (retk1 tab_ok Tryd.results36 rfl rfl rfl rfl hb4.cells) (lot_fin (k:=1) hx1 hs1 hb2 hx2 hs2 hb3 hx3 hs3 hx4 hs4)
 ·refine zgo ?_
  refine WO.lit (strs (lotT 2)) tab_ok rfl rfl rfl rfl rfl rfl rfl rfl rfl rfl rfl rfl fun h2 hb2 hx2 hs2=>?_
  refine WO.lit (strs (lotS 2)) tab_ok rfl rfl rfl rfl rfl rfl rfl rfl rfl rfl rfl rfl fun h3 hb3 hx3 hs3=>?_
  refine zgo ?_
  refine WO.put tab_ok rfl rfl rfl rfl rfl rfl rfl rfl (one_ss _ _ _ _ _ _) (hb1.ext (hx2.trans hx3)) rfl fun h4 hb4 hx4 hs4=>?_
  refine zgo ?_
  exact Runs.ret Tryd.func36 (retk1 tab_ok Tryd.results36 rfl rfl rfl rfl hb4.cells) (lot_fin (k:=2) hx1 hs1 hb2 hx2 hs2 hb3 hx3 hs3 hx4 hs4)
 ·refine zgo ?_
  refine WO.lit (strs (lotT 3)) tab_ok rfl rfl rfl rfl rfl rfl rfl rfl rfl rfl rfl rfl fun h2 hb2 hx2 hs2=>?_
  refine WO.lit (strs (lotS 3)) tab_ok rfl rfl rfl rfl rfl rfl rfl rfl rfl rfl rfl rfl fun h3 hb3 hx3 hs3=>?_
  refine zgo ?_
  refine WO.put tab_ok rfl rfl rfl rfl rfl rfl rfl rfl (one_ss _ _ _ _ _ _) (hb1.ext (hx2.trans hx3)) rfl fun h4 hb4 hx4 hs4=>?_
  refine zgo ?_
  exact Runs.ret Tryd.func36 (retk1 tab_ok Tryd.results36 rfl rfl rfl rfl hb4.cells) (lot_fin (k:=3) hx1 hs1 hb2 hx2 hs2 hb3 hx3 hs3 hx4 hs4)
 ·refine zgo ?_
  refine WO.lit (strs (lotT 4)) tab_ok rfl rfl rfl rfl rfl rfl rfl rfl rfl rfl rfl rfl fun h2 hb2 hx2 hs2=>?_
  refine WO.lit (strs (lotS 4)) tab_ok rfl rfl rfl rfl rfl rfl rfl rfl rfl rfl rfl rfl fun h3 hb3 hx3 hs3=>?_
  refine zgo ?_
  refine WO.put tab_ok rfl rfl rfl rfl rfl rfl rfl rfl (one_ss _ _ _ _ _ _) (hb1.ext (hx2.trans hx3)) rfl fun h4 hb4 hx4 hs4=>?_
  refine zgo ?_
  exact Runs.ret Tryd.func36 (retk1 tab_ok Tryd.results36 rfl rfl rfl rfl hb4.cells) (lot_fin (k:=4) hx1 hs1 hb2 hx2 hs2 hb3 hx3 hs3 hx4 hs4)
 ·refine zgo ?_
  refine WO.lit (strs (lotT 5)) tab_ok rfl rfl rfl rfl rfl rfl rfl rfl rfl rfl rfl rfl fun h2 hb2 hx2 hs2=>?_
  refine WO.lit (strs (lotS 5)) tab_ok rfl rfl rfl rfl rfl rfl rfl rfl rfl rfl rfl rfl fun h3 hb3 hx3 hs3=>?_
  refine zgo ?_
  refine WO.put tab_ok rfl rfl rfl rfl rfl rfl rfl rfl (one_ss _ _ _ _ _ _) (hb1.ext (hx2.trans hx3)) rfl fun h4 hb4 hx4 hs4=>?_
  refine zgo ?_
  exact Runs.ret Tryd.func36 (retk1 tab_ok Tryd.results36 rfl rfl rfl rfl hb4.cells) (lot_fin (k:=5) hx1 hs1 hb2 hx2 hs2 hb3 hx3 hs3 hx4 hs4)
 ·refine zgo ?_
  refine WO.lit (strs (lotT 6)) tab_ok rfl rfl rfl rfl rfl rfl rfl rfl rfl rfl rfl rfl fun h2 hb2 hx2 hs2=>?_
  refine WO.lit (strs (lotS 6)) tab_ok rfl rfl rfl rfl rfl rfl rfl rfl rfl rfl rfl rfl fun h3 hb3 hx3 hs3=>?_
  refine zgo ?_
  refine WO.put tab_ok rfl rfl rfl rfl rfl rfl rfl rfl (one_ss _ _ _ _ _ _) (hb1.ext (hx2.trans hx3)) rfl fun h4 hb4 hx4 hs4=>?_
  refine zgo ?_
  exact Runs.ret Tryd.func36 (retk1 tab_ok Tryd.results36 rfl rfl rfl rfl hb4.cells) (lot_fin (k:=6) hx1 hs1 hb2 hx2 hs2 hb3 hx3 hs3 hx4 hs4)
 ·refine zgo ?_
  refine WO.lit (strs (lotT 7)) tab_ok rfl rfl rfl rfl rfl rfl rfl rfl rfl rfl rfl rfl fun h2 hb2 hx2 hs2=>?_
  refine WO.lit (strs (lotS 7)) tab_ok rfl rfl rfl rfl rfl rfl rfl rfl rfl rfl rfl rfl fun h3 hb3 hx3 hs3=>?_
  refine zgo ?_
  refine WO.put tab_ok rfl rfl rfl rfl rfl rfl rfl rfl (one_ss _ _ _ _ _ _) (hb1.ext (hx2.trans hx3)) rfl fun h4 hb4 hx4 hs4=>?_
  refine zgo ?_
  exact Runs.ret Tryd.func36 (retk1 tab_ok Tryd.results36 rfl rfl rfl rfl hb4.cells) (lot_fin (k:=7) hx1 hs1 hb2 hx2 hs2 hb3 hx3 hs3 hx4 hs4)
 ·refine zgo ?_
  refine WO.lit (strs (lotT 8)) tab_ok rfl rfl rfl rfl rfl rfl rfl rfl rfl rfl rfl rfl fun h2 hb2 hx2 hs2=>?_
  refine WO.lit (strs (lotS 8)) tab_ok rfl rfl rfl rfl rfl rfl rfl rfl rfl rfl rfl rfl fun h3 hb3 hx3 hs3=>?_
  refine zgo ?_
  refine WO.put tab_ok rfl rfl rfl rfl rfl rfl rfl rfl (one_ss _ _ _ _ _ _) (hb1.ext (hx2.trans hx3)) rfl fun h4 hb4 hx4 hs4=>?_
  refine zgo ?_
  exact Runs.ret Tryd.func36 (retk1 tab_ok Tryd.results36 rfl rfl rfl rfl hb4.cells) (lot_fin (k:=8) hx1 hs1 hb2 hx2 hs2 hb3 hx3 hs3 hx4 hs4)
def pat1:PatchD:=⟨1,[],[⟨1,⟨0,0⟩,⟨0,1⟩,[97]⟩]⟩
def pat3:PatchD:=⟨3,[1],[⟨2,⟨1,0⟩,⟨0,0⟩,[]⟩]⟩
def refT:List (List UInt8):=[[],[112,97,116,99,104,32,50,10,110,101,101,100,115,10],[112,97,116,99,104,32,48,50,10,110,101,101,100,115,10,100,101,108,32,49,46,48,10],[112,97,116,99,104,32,50,10,110,101,101,100,115,32,49,10,97,100,100,32,94,32,36,32,116,104,105,114,116,101,101,110,32,98,121,116,101,10],[112,97,116,99,104,32,50,10,110,101,101,100,115,32,49,10,97,100,100,32,36,32,94,32,120,10],[112,97,116,99,104,32,50,10,110,101,101,100,115,32,49,10,100,101,108,32,94,10],[112,97,116,99,104,32,50,10,110,101,101,100,115,32,49,10,100,101,108,32,110,111,110,101,10],[112,97,116,99,104,32,50,10,110,101,101,100,115,32,49,10,116,105,101,32,49,46,48,32,36,10]]
def refF:List (List UInt8):=[[112,97,116,99,104,32,50,10,110,101,101,100,115,10,100,101,108,32,49,46,48,10],[112,97,116,99,104,32,50,10,110,101,101,100,115,32,50,10,97,100,100,32,94,32,36,32,120,10],[112,97,116,99,104,32,50,10,110,101,101,100,115,32,49,10,97,100,100,32,94,32,50,46,48,32,120,10],[112,97,116,99,104,32,50,10,110,101,101,100,115,32,49,10,97,100,100,32,94,32,36,32,120,10,100,101,108,32,50,46,48,10],[112,97,116,99,104,32,50,10,110,101,101,100,115,32,49,10,116,105,101,32,49,46,48,32,49,46,48,10]]
def sg0:List UInt8:=[112,97,116,99,104,32,49,10,110,101,101,100,115,10,97,100,100,32,94,32,36,32,97,10]
def sg1:List UInt8:=[112,97,116,99,104,32,49,10,110,101,101,100,115,10,97,100,100,32,94,32,36,32,97,10]
def sg2:List UInt8:=[112,97,116,99,104,32,49,10,110,101,101,100,115,10,97,100,100,32,94,32,36,32,98,10]
def sg3:List UInt8:=[112,97,116,99,104,32,51,10,110,101,101,100,115,32,50,10,97,100,100,32,94,32,36,32,98,10]
def sg4:List UInt8:=[112,97,116,99,104,32,51,10,110,101,101,100,115,32,49,10,100,101,108,32,49,46,49,10]
def sg5:List UInt8:=[112,97,116,99,104,32,51,10,110,101,101,100,115,32,49,10,100,101,108,32,49,46,48,10]
theorem ap0:applyS [] sg0=(0,[pat1]):=by kernel_rfl
theorem apT:(refT.all fun t=>decide (t.length≤1000)&&decide ((applyS [pat1] t).1=1))=true:=by kernel_rfl
theorem apF:(refF.all fun t=>decide (t.length≤1000)&&decide ((applyS [pat1] t).1=2))=true:=by kernel_rfl
theorem ap_err {ps:List PatchD} {t:List UInt8} {e:Nat} (h:(applyS ps t).1=e) (he:e≠0):applyS ps t=(e,ps):=by
 rcases apply_cases ps t with ⟨e',_,h'⟩ | ⟨p,hp⟩
 ·rw [h'] at h ⊢;rw [← h]
 ·rw [lets_apply hp] at h;exact absurd h.symm he
theorem ap1:applyS [pat1] sg1=(3,[pat1]):=by kernel_rfl
theorem ap2:applyS [pat1] sg2=(4,[pat1]):=by kernel_rfl
theorem ap3:applyS [pat1] sg3=(5,[pat1]):=by kernel_rfl
theorem ap4:applyS [pat1] sg4=(6,[pat1]):=by kernel_rfl
theorem ap5:applyS [pat1] sg5=(0,[pat1,pat3]):=by kernel_rfl
theorem r31:Reach [pat1,pat3] 3 1:=(rch_iff (by kernel_rfl) 1).1 (by kernel_rfl)
theorem r13:¬ Reach [pat1,pat3] 1 3:=fun e=>absurd ((rch_iff (by kernel_rfl) 3).2 e) (by decide)
theorem un1 {e:Nat} {qs:List PatchD} (h:UnS [pat1,pat3] 1 e qs):e=9∧qs=[pat1,pat3]:=by
 rcases h with ⟨h1,_⟩ | ⟨p,hp,hq,⟨_,h2,h3⟩ | ⟨h1,_⟩⟩
 ·exact absurd rfl (h1 pat1 (by simp))
 ·exact ⟨h2,h3⟩
 ·simp only [List.mem_cons,List.not_mem_nil,or_false] at hp
  rcases hp with rfl | rfl
  ·exact absurd r31 (h1 pat3 (by simp) (by decide))
  ·exact absurd hq (by decide)
theorem un2 {e:Nat} {qs:List PatchD} (h:UnS [pat1,pat3] 2 e qs):e=8∧qs=[pat1,pat3]:=by
 rcases h with ⟨_,h1,h2⟩ | ⟨p,hp,hq,_⟩
 ·exact ⟨h1,h2⟩
 ·simp only [List.mem_cons,List.not_mem_nil,or_false] at hp
  rcases hp with rfl | rfl<;>exact absurd hq (by decide)
theorem un3 {e:Nat} {qs:List PatchD} (h:UnS [pat1,pat3] 3 e qs):e=0:=by
 rcases h with ⟨h1,_⟩ | ⟨p,hp,hq,⟨⟨p',hp',hne,hr⟩,_⟩ | ⟨_,h1,_⟩⟩
 ·exact absurd rfl (h1 pat3 (by simp))
 ·simp only [List.mem_cons,List.not_mem_nil,or_false] at hp hp'
  rcases hp with rfl | rfl
  ·exact absurd hq (by decide)
  ·rcases hp' with rfl | rfl
   ·exact absurd hr r13
   ·exact absurd rfl hne
 ·exact h1
structure RfX where
 (i:Nat) (F:Nat→Prop)
theorem krefusals_ret (h:Heap) (ht:Tab10 h):Ret Tryd.prog 35 #[] h fun v h'=>Ext h h'∧v = .bool true:=by
 refine Ret.of_body Tryd.func35 rfl Tryd.ntmps35 rfl rfl ?_
 have hpos:=ktab_lt ht
 refine zgo ?_
 refine WO.call rfl rfl rfl rfl plain_xNew rfl (xNew_ret _) fun v1 h1 ⟨hx1,hz1,hv1,hb1⟩=>?_
 subst hv1
 have hnew:Sto (fun _=>False) h1 h.size []:=⟨_,[],hb1,⟨(Own.nil h1 0 3).rd,by simp,fun k hk=>by simp [Value.ownBlock] at hk⟩,rfl,Set1.nil⟩
 have w1:KW h1 (fun _=>False) [(h.size,[])]:=⟨fun x hx=>by simp at hx;subst hx;exact hnew,fun _ e=>e.elim,fun _ _ _ e=>e.elim,by simp,ht.fr hx1 (by simp),fun x hx=>by simp at hx;subst hx;dsimp only;omega⟩
 refine zgo ?_
 refine WO.call rfl rfl rfl rfl plain_xApply rfl (kApply_ret w1.tab w1.head w1.outH sg0 (by decide)) fun v2 h2 ⟨hf2,hv2,hs2⟩=>?_
 subst hv2
 have w2:=w1.op hf2 hs2
 clear hs2
 rw [ap0] at w2
 rw [ap0]
 dsimp only at w2 ⊢
 have hx2:Ext h h2:=hx1.wr hf2 (Nat.le_refl _)
 have hz2:=hf2.size
 refine zgo ?_
 refine WO.lit (strs refT) tab_ok rfl rfl rfl rfl rfl rfl rfl rfl rfl rfl rfl rfl fun h3 hb3 hx3 hs3=>?_
 have hrT:Rd h3 1 (.slice (some ⟨h2.size,0,none⟩) 8 8) 8 (strs refT):=⟨rfl,.inr ⟨h2.size,0,8,rfl,Nat.le_refl _,hb3.cells⟩⟩
 have w3:=w2.ext hx3
 refine zgo ?_
 refine Runs.loop (X:=RfX) (fun u=>[(1,.pointer (some ⟨h.size,0,none⟩)),(19,.slice (some ⟨h2.size,0,none⟩) 8 8),(20,.int .i64 8),(21,.int .i64 (u.i:Int))])
  (fun u h'=>u.i≤8∧Ext h h'∧Fr (fun k=>k=h.size) h3 h'∧KW h' u.F [(h.size,[pat1])]) (fun u=>8-u.i) ⟨0,_⟩ ⟨rfl,rfl,rfl,rfl,trivial⟩ ⟨Nat.zero_le _,hx2.trans hx3,Fr.refl _ _,w3⟩ ?_
 rintro ⟨i,F⟩ h4 ⟨hi,hx4,hf4,w4⟩ ih
 dsimp only at hi hx4 hf4 w4 ih ⊢
 refine zgo ?_
 refine Runs.cond_dec rfl (fun hlt=>?_) (fun hge=>?_)
 ·have hlt':i<refT.length:=by have:refT.length=8:=rfl;omega
  have hget:refT[i]? = some refT[i]:=List.getElem?_eq_getElem hlt'
  have hmem:=List.all_eq_true.1 apT _ (List.getElem_mem hlt')
  generalize refT[i]=t at *
  rw [Bool.and_eq_true,decide_eq_true_iff,decide_eq_true_iff] at hmem
  obtain ⟨b0,p0,cap0,hv0,_,hcell⟩:=(hrT.fr hf4 (fun k hk e=>by simp [Value.ownBlock] at hk;omega)).cell (strs_get hget)
  cases hv0
  refine zgo ?_
  refine WO.call rfl rfl rfl rfl plain_xApply rfl (kApply_ret w4.tab w4.head w4.outH t (by omega)) fun v5 h5 ⟨hf5,hv5,hs5⟩=>?_
  subst hv5
  have w5:=w4.op hf5 hs5
  clear hs5
  have hae:=ap_err hmem.2 (by decide)
  rw [hae] at w5
  rw [hae]
  dsimp only at w5 ⊢
  refine zgo ?_
  exact ih ⟨i+1,_⟩ _ _ (by dsimp only;omega) ⟨rfl,rfl,rfl,rfl,trivial⟩ ⟨by dsimp only;omega,hx4.wr hf5 (Nat.le_refl _),hf4.trans hf5,w5⟩
 clear ih hge hi
 refine zgo ?_
 refine WO.lit (strs refF) tab_ok rfl rfl rfl rfl rfl rfl rfl rfl rfl rfl rfl rfl fun h5 hb5 hx5 hs5=>?_
 have hrF:Rd h5 1 (.slice (some ⟨h4.size,0,none⟩) 5 5) 5 (strs refF):=⟨rfl,.inr ⟨h4.size,0,5,rfl,Nat.le_refl _,hb5.cells⟩⟩
 have w5:=w4.ext hx5
 have hz4:=hf4.size
 refine zgo ?_
 refine Runs.loop (X:=RfX) (fun u=>[(1,.pointer (some ⟨h.size,0,none⟩)),(31,.slice (some ⟨h4.size,0,none⟩) 5 5),(32,.int .i64 5),(33,.int .i64 (u.i:Int))])
  (fun u h'=>u.i≤5∧Ext h h'∧Fr (fun k=>k=h.size) h5 h'∧KW h' u.F [(h.size,[pat1])]) (fun u=>5-u.i) ⟨0,_⟩ ⟨rfl,rfl,rfl,rfl,trivial⟩ ⟨Nat.zero_le _,hx4.trans hx5,Fr.refl _ _,w5⟩ ?_
 rintro ⟨i,F⟩ h6 ⟨hi,hx6,hf6,w6⟩ ih
 dsimp only at hi hx6 hf6 w6 ih ⊢
 refine zgo ?_
 refine Runs.cond_dec rfl (fun hlt=>?_) (fun hge=>?_)
 ·have hlt':i<refF.length:=by have:refF.length=5:=rfl;omega
  have hget:refF[i]? = some refF[i]:=List.getElem?_eq_getElem hlt'
  have hmem:=List.all_eq_true.1 apF _ (List.getElem_mem hlt')
  generalize refF[i]=t at *
  rw [Bool.and_eq_true,decide_eq_true_iff,decide_eq_true_iff] at hmem
  obtain ⟨b0,p0,cap0,hv0,_,hcell⟩:=(hrF.fr hf6 (fun k hk e=>by simp [Value.ownBlock] at hk;omega)).cell (strs_get hget)
  cases hv0
  refine zgo ?_
  refine WO.call rfl rfl rfl rfl plain_xApply rfl (kApply_ret w6.tab w6.head w6.outH t (by omega)) fun v7 h7 ⟨hf7,hv7,hs7⟩=>?_
  subst hv7
  have w7:=w6.op hf7 hs7
  clear hs7
  have hae:=ap_err hmem.2 (by decide)
  rw [hae] at w7
  rw [hae]
  dsimp only at w7 ⊢
  refine zgo ?_
  exact ih ⟨i+1,_⟩ _ _ (by dsimp only;omega) ⟨rfl,rfl,rfl,rfl,trivial⟩ ⟨by dsimp only;omega,hx6.wr hf7 (Nat.le_refl _),hf6.trans hf7,w7⟩
 clear ih hge hi
 refine zgo ?_
 refine WO.call rfl rfl rfl rfl plain_xApply rfl (kApply_ret w6.tab w6.head w6.outH sg1 (by decide)) fun va1 ha1 ⟨hfa1,hva1,hsa1⟩=>?_
 subst hva1
 have wa1:=w6.op hfa1 hsa1
 clear hsa1
 rw [ap1] at wa1
 rw [ap1]
 dsimp only at wa1 ⊢
 have hxa1:=hx6.wr hfa1 (Nat.le_refl _)
 refine zgo ?_
 refine WO.call rfl rfl rfl rfl plain_xApply rfl (kApply_ret wa1.tab wa1.head wa1.outH sg2 (by decide)) fun va2 ha2 ⟨hfa2,hva2,hsa2⟩=>?_
 subst hva2
 have wa2:=wa1.op hfa2 hsa2
 clear hsa2
 rw [ap2] at wa2
 rw [ap2]
 dsimp only at wa2 ⊢
 have hxa2:=hxa1.wr hfa2 (Nat.le_refl _)
 refine zgo ?_
 refine WO.call rfl rfl rfl rfl plain_xApply rfl (kApply_ret wa2.tab wa2.head wa2.outH sg3 (by decide)) fun va3 ha3 ⟨hfa3,hva3,hsa3⟩=>?_
 subst hva3
 have wa3:=wa2.op hfa3 hsa3
 clear hsa3
 rw [ap3] at wa3
 rw [ap3]
 dsimp only at wa3 ⊢
 have hxa3:=hxa2.wr hfa3 (Nat.le_refl _)
 refine zgo ?_
 refine WO.call rfl rfl rfl rfl plain_xApply rfl (kApply_ret wa3.tab wa3.head wa3.outH sg4 (by decide)) fun va4 ha4 ⟨hfa4,hva4,hsa4⟩=>?_
 subst hva4
 have wa4:=wa3.op hfa4 hsa4
 clear hsa4
 rw [ap4] at wa4
 rw [ap4]
 dsimp only at wa4 ⊢
 have hxa4:=hxa3.wr hfa4 (Nat.le_refl _)
 refine zgo ?_
 refine WO.call rfl rfl rfl rfl plain_xApply rfl (kApply_ret wa4.tab wa4.head wa4.outH sg5 (by decide)) fun va5 ha5 ⟨hfa5,hva5,hsa5⟩=>?_
 subst hva5
 have wa5:=wa4.op hfa5 hsa5
 clear hsa5
 rw [ap5] at wa5
 rw [ap5]
 dsimp only at wa5 ⊢
 have hxa5:=hxa4.wr hfa5 (Nat.le_refl _)
 refine zgo ?_
 refine WO.call rfl rfl rfl rfl plain_xUnapply rfl (kUn_ret wa5.head wa5.outH 1) fun vb1 hb1 ⟨hfb1,eb1,qb1,hvb1,hub1,hsb1⟩=>?_
 subst hvb1
 obtain ⟨rfl,rfl⟩:=un1 hub1
 have wb1:=wa5.op hfb1 hsb1
 clear hsb1
 have hxb1:=hxa5.wr hfb1 (Nat.le_refl _)
 refine zgo ?_
 refine WO.call rfl rfl rfl rfl plain_xUnapply rfl (kUn_ret wb1.head wb1.outH 2) fun vb2 hb2 ⟨hfb2,eb2,qb2,hvb2,hub2,hsb2⟩=>?_
 subst hvb2
 obtain ⟨rfl,rfl⟩:=un2 hub2
 have wb2:=wb1.op hfb2 hsb2
 clear hsb2
 have hxb2:=hxb1.wr hfb2 (Nat.le_refl _)
 refine zgo ?_
 refine WO.call rfl rfl rfl rfl plain_xUnapply rfl (kUn_ret wb2.head wb2.outH 3) fun vb3 hb3 ⟨hfb3,eb3,qb3,hvb3,hub3,hsb3⟩=>?_
 subst hvb3
 obtain rfl:=un3 hub3
 clear hsb3
 have hxb3:=hxb2.wr hfb3 (Nat.le_refl _)
 refine zgo ?_
 exact Runs.ret Tryd.func35 (ret1 Tryd.results35 rfl) ⟨hxb3,rfl⟩
structure KnX where
 (i:Nat) (F:Nat→Prop) (ps:List PatchD)
theorem kknown_ret (q:Int) (hq:-9223372036854775808≤q∧q≤9223372036854775807) (h:Heap) (ht:Tab10 h):Ret Tryd.prog 16 #[.int .i64 q] h fun v h'=>Ext h h'∧v = .bool true:=by
 refine Ret.of_body Tryd.func16 rfl Tryd.ntmps16 rfl rfl ?_
 have hpos:=ktab_lt ht
 refine zgo ?_
 refine WO.call rfl rfl rfl rfl plain_kpick rfl (kpick_ret q 10 _ hq (by omega) (by omega)) fun v1 h1 ⟨hh1,k,hk,hv1⟩=>?_
 subst hh1 hv1
 refine zgo ?_
 refine Runs.cond_dec rfl (fun h9=>?_) (fun h9=>?_)
 ·refine zgo ?_
  refine WO.call rfl rfl rfl rfl plain_krefusals rfl (krefusals_ret _ ht) fun v2 h2 ⟨hx2,hv2⟩=>?_
  subst hv2
  refine zgo ?_
  exact Runs.ret Tryd.func16 (ret1 Tryd.results16 rfl) ⟨hx2,rfl⟩
 have hk9:k<9:=by omega
 obtain ⟨hlT,hlS,hlt⟩:=lot_small hk9
 refine zgo ?_
 refine WO.call rfl rfl rfl rfl plain_klots rfl (klots_ret k hk9 _) fun v2 h2 ⟨hx2,b,c,hv2,hL2⟩=>?_
 subst hv2
 refine zv (one_ss _ _ _ _ _ _) fun h3 hb3 hx3 hs3=>?_
 refine zgo ?_
 refine WO.call rfl rfl rfl rfl plain_xNew rfl (xNew_ret _) fun v4 h4 ⟨hx4,hz4,hv4,hb4⟩=>?_
 subst hv4
 have hz2:=hx2.size
 have hx04:=(hx2.trans hx3).trans hx4
 have hnew:Sto (fun _=>False) h4 h3.size []:=⟨_,[],hb4,⟨(Own.nil h4 0 3).rd,by simp,fun k hk=>by simp [Value.ownBlock] at hk⟩,rfl,Set1.nil⟩
 have w4:KW h4 (fun _=>False) [(h3.size,[])]:=⟨fun x hx=>by simp at hx;subst hx;exact hnew,fun _ e=>e.elim,fun _ _ _ e=>e.elim,by simp,ht.fr hx04 (by simp),fun x hx=>by simp at hx;subst hx;dsimp only;omega⟩
 have n0:=(hb3.ext hx4).cell (j:=0) rfl
 have hl1:=hL2.lb
 have hl2:=hL2.lc
 have hrT:Rd h4 1 (.slice (some ⟨b,0,none⟩) (lotT k).length (lotT k).length) (lotT k).length (strs (lotT k)):=⟨by simp [strs],.inr ⟨b,0,(lotT k).length,rfl,Nat.le_refl _,(hx3.trans hx4).xcs hL2.txt⟩⟩
 have hrS:Rd h4 1 (.slice (some ⟨c,0,none⟩) (lotS k).length (lotS k).length) (lotS k).length (strs (lotS k)):=⟨by simp [strs],.inr ⟨c,0,(lotS k).length,rfl,Nat.le_refl _,(hx3.trans hx4).xcs hL2.shw⟩⟩
 refine zgo ?_
 refine Runs.loop (X:=KnX) (fun u=>[(0,.int .i64 (k:Int)),(3,.pointer (some ⟨h2.size,0,none⟩)),(4,.pointer (some ⟨h3.size,0,none⟩)),(16,.slice (some ⟨b,0,none⟩) (lotT k).length (lotT k).length),(17,.int .i64 ((lotT k).length:Int)),(18,.int .i64 (u.i:Int))])
  (fun u h'=>u.i≤(lotT k).length∧Fr (fun k=>k=h3.size) h4 h'∧KW h' u.F [(h3.size,u.ps)]∧runS u.ps ((lotT k).drop u.i)=(0,lotP k)) (fun u=>(lotT k).length-u.i) ⟨0,_,[]⟩ ⟨rfl,rfl,rfl,rfl,rfl,rfl,trivial⟩ ⟨Nat.zero_le _,Fr.refl _ _,w4,by simpa using lot_run hk9⟩ ?_
 rintro ⟨i,F,ps⟩ h5 ⟨hi,hf5,w5,hrun⟩ ih
 dsimp only at hi hf5 w5 hrun ih ⊢
 refine zgo ?_
 refine Runs.cond_dec rfl (fun hlt5=>?_) (fun hge=>?_)
 ·have hlt':i<(lotT k).length:=by omega
  have hget:(lotT k)[i]? = some (lotT k)[i]:=List.getElem?_eq_getElem hlt'
  have htl:=hlt _ (List.getElem_mem hlt')
  rw [List.drop_eq_getElem_cons hlt'] at hrun
  generalize (lotT k)[i]=t at *
  rw [run_cons] at hrun
  split at hrun
  rotate_left
  ·rename_i hne
   exact absurd (congrArg Prod.fst hrun) hne
  rename_i h0
  obtain ⟨b0,p0,cap0,hv0,_,hcell⟩:=(hrT.fr hf5 (fun k hk e=>by simp [Value.ownBlock] at hk;omega)).cell (strs_get hget)
  cases hv0
  refine zgo ?_
  refine WO.call rfl rfl rfl rfl plain_xApply rfl (kApply_ret w5.tab w5.head w5.outH t (by omega)) fun v6 h6 ⟨hf6,hv6,hs6⟩=>?_
  subst hv6
  have w6:=w5.op hf6 hs6
  clear hs6
  rw [h0]
  refine zgo ?_
  exact ih ⟨i+1,_,_⟩ _ _ (by dsimp only;omega) ⟨rfl,rfl,rfl,rfl,rfl,rfl,trivial⟩ ⟨hlt',hf5.trans hf6,w6,hrun⟩
 have hi':i=(lotT k).length:=by omega
 subst hi'
 simp only [List.drop_length,runS,Prod.mk.injEq,true_and] at hrun
 subst hrun
 have m1:cellAt h5 h2.size 1=some (.slice (some ⟨c,0,none⟩) (lotS k).length (lotS k).length):=hf5.cell (by omega) ((hb3.ext hx4).cell (j:=1) rfl)
 have hrS5:=hrS.fr hf5 (fun k hk e=>by simp [Value.ownBlock] at hk;omega)
 have hx05:=hx04.wr hf5 (by omega)
 obtain ⟨lv,l,b5,s5,p5,_⟩:=w5.head
 have hil:Inv (l.map PD3.p):=by rw [p5];exact w5.head.set.inv
 refine zgo ?_
 refine Runs.drawn (m:=11) (fun h'=>Ext h5 h') (fun _=>false) mixed rfl ?_
 refine zp 0 (Fr.refl _ _) ?_
 refine zp 2 (Fr.refl _ _) ?_
 refine zl 3 (fun _ hS=>(Fr.xc hS m1)) (Fr.refl _ _) ?_
 refine WF.call 1 (by kernel_rfl) rfl rfl rfl rfl rfl plain_xShow rfl (xShow_ret h3.size l lv _ b5 s5 w5.lt hil) fun v7 h7 ⟨hx7,sd7,or7,hn7,ho7,hm7⟩=>⟨.inr hx7,?_⟩
 rw [p5] at hn7 ho7
 rw [lot_shows hk9 hn7] at ho7
 refine WF.call 4 (by kernel_rfl) rfl rfl rfl rfl rfl plain_ksameTexts rfl (ksameTexts_ret (lotS k) (lotS k) v7 _ _ ho7.rd (hrS5.ext hx7) (by omega) (by omega)) fun v8 h8 ⟨hh8,hv8⟩=>?_
 have hv8':v8 = .bool true:=by rw [hv8];simp
 subst hh8 hv8'
 refine ⟨.inr hx7,?_⟩
 refine zp 5 hx7 ?_
 refine zp 6 hx7 ?_
 refine zp 7 hx7 ?_
 refine WF.call 8 (by kernel_rfl) rfl rfl rfl rfl rfl plain_kordered rfl (kordered_ret (w5.ext hx7) (k:Int) (by omega)) fun v9 h9 ⟨hx9,hv9⟩=>?_
 subst hv9
 refine ⟨.inr (hx7.trans hx9),?_⟩
 refine zp 9 (hx7.trans hx9) ?_
 refine zp 10 (hx7.trans hx9) ?_
 refine WF.done (by kernel_rfl) ?_
 refine zgo ?_
 exact Runs.ret Tryd.func16 (ret1 Tryd.results16 rfl) ⟨hx05.trans (hx7.trans hx9),rfl⟩
theorem kKnown_ret (q:Int) (hq:-9223372036854775808≤q∧q≤9223372036854775807) (h:Heap) (ht:Tab10 h):Ret Tryd.prog 8 #[.int .i64 q] h fun v h'=>Ext h h'∧v = .bool true:=by
 refine Ret.of_body Tryd.func8 rfl Tryd.ntmps8 rfl rfl ?_
 refine zgo ?_
 refine WO.call rfl rfl rfl rfl plain_kknown rfl (kknown_ret q hq _ ht) fun v1 h1 ⟨hx1,hv1⟩=>?_
 subst hv1
 refine zgo ?_
 exact Runs.ret Tryd.func8 (ret1 Tryd.results8 rfl) ⟨hx1,rfl⟩
end Go.Proofs.YtlaffgagmncgjabDoor
