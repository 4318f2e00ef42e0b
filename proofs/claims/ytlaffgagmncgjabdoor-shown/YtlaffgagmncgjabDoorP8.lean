import Derived.Test.YtlaffgagmncgjabDoorP7
import Derived.Test.YtlaffgagmncgjabDoorT13
set_option maxRecDepth 20000
set_option maxHeartbeats 1600000
namespace Go.Proofs.YtlaffgagmncgjabDoor
open Go Go.Pat Go.Proofs
theorem plain_xApply:Plain Tryd.prog 18:=⟨_,Tryd.func18,by decide +kernel,by rfl⟩
theorem plain_xUnapply:Plain Tryd.prog 25:=⟨_,Tryd.func25,by decide +kernel,by rfl⟩
theorem plain_xLog:Plain Tryd.prog 19:=⟨_,Tryd.func19,by decide +kernel,by rfl⟩
theorem plain_xText:Plain Tryd.prog 24:=⟨_,Tryd.func24,by decide +kernel,by rfl⟩
theorem plain_xNew:Plain Tryd.prog 17:=⟨_,Tryd.func17,by decide +kernel,by rfl⟩
theorem withS_mem {p q:PatchD} {ps:List PatchD}:q∈withS p ps↔q=p∨q∈ps:=by
 induction ps with
 | nil=>simp [withS]
 | cons a ps ih =>
  unfold withS
  split
  ·simp
  ·simp only [List.mem_cons,ih]
   constructor
   ·rintro (e | e | e)
    ·exact .inr (.inl e)
    ·exact .inl e
    ·exact .inr (.inr e)
   ·rintro (e | e | e)
    ·exact .inr (.inl e)
    ·exact .inl e
    ·exact .inr (.inr e)
def Rise (ps:List PatchD):Prop:=(ps.map PatchD.id).Pairwise (· < ·)
theorem rise_nil:Rise []:=by simp [Rise]
theorem rise_with {p:PatchD}:∀ {ps:List PatchD},Rise ps→p.id∉ps.map PatchD.id→Rise (withS p ps)
 | [],_,_=>by simp [Rise,withS]
 | q::r,h,hn=>by
  unfold Rise at h ⊢
  simp only [List.map_cons,List.pairwise_cons] at h
  simp only [List.map_cons,List.mem_cons,not_or] at hn
  unfold withS
  split
  ·rename_i hlt
   simp only [List.map_cons,List.pairwise_cons]
   refine ⟨fun x hx=>?_,h⟩
   rcases List.mem_cons.1 hx with e | e
   ·omega
   ·have:=h.1 x e;omega
  ·rename_i hge
   simp only [List.map_cons,List.pairwise_cons]
   refine ⟨fun x hx=>?_,rise_with h.2 hn.2⟩
   obtain ⟨y,hy,e⟩:=List.mem_map.1 hx
   rcases withS_mem.1 hy with e' | e'
   ·subst e';omega
   ·have:=h.1 y.id (List.mem_map.2 ⟨y,e',rfl⟩);omega
structure Inv (ps:List PatchD):Prop where
 fine:∀ p∈ps,∃ t,parseS t=some p∧formedS p=true
 nodup:(ps.map PatchD.id).Nodup
 len:ps.length≤20
 needs:∀ p∈ps,∀ n∈p.needs,n∈ps.map PatchD.id
 lines:(linesS ps).length≤90
 acyc:Acyc ps
 rise:Rise ps
theorem Inv.ok {ps:List PatchD} (h:Inv ps) {p:PatchD} (hp:p∈ps):PatchD.ok p:=by
 obtain ⟨t,e,_⟩:=h.fine p hp
 exact (parse_ok e).1
theorem Inv.good {ps:List PatchD} (h:Inv ps):Good ps:=⟨fun _ hp=>h.ok hp,h.len,h.nodup⟩
theorem Inv.closed {ps:List PatchD} (h:Inv ps):Closed ps:=⟨h.nodup,h.needs⟩
theorem Inv.kind {ps:List PatchD} (h:Inv ps) {p:PatchD} (hp:p∈ps):∀ c∈p.changes,kind3 c:=fun c hc=>by
 obtain ⟨t,e,_⟩:=h.fine p hp
 exact (parse_del e c hc).1
theorem formed_not {p:PatchD} (h:formedS p=true):p.id∉p.needs:=by
 have h1:(List.range p.needs.length).all (needOk p)=true:=by unfold formedS at h;simp only [Bool.and_eq_true] at h;exact h.1
 rw [← needs_part] at h1
 simp at h1
 exact h1.2
theorem Inv.not_self {ps:List PatchD} (h:Inv ps):∀ p∈ps,p.id∉p.needs:=fun p hp=>by
 obtain ⟨t,_,e⟩:=h.fine p hp
 exact formed_not e
theorem Inv.nil:Inv []:=⟨by simp,by simp,by simp,by simp,by simp [linesS],Acyc.nil,rise_nil⟩
def refuseX (l:List PD3) (p:PatchD) (t:List UInt8):Nat:=match fdS l (p.id:Int) with
 | some o=>if textS o.p=t then 3 else 4
 | none=>if needsX l p=false then 5 else if (p.changes.all fun c=>hasX l p c.up&&hasX l p c.down)=false then 6 else if (decide (l.length<20)&&decide (ownN p.changes+ownsX l≤90))=false then 7 else 0
theorem linesS_length (l:List PD3):(linesS (l.map PD3.p)).length=ownsX l:=by
 unfold linesS ownsX
 induction l with
 | nil=>rfl
 | cons x l ih=>simp only [List.map_cons,List.flatMap_cons,List.length_append,List.sum_cons] at ih ⊢;rw [ih,linesOfS,length_linesUp]
theorem needsX_eq (l:List PD3) (p:PatchD):needsX l p=p.needs.all fun n=>((l.map PD3.p).map PatchD.id).contains n:=by
 unfold needsX
 congr 1
 funext n
 rw [Bool.eq_iff_iff]
 simp only [Option.isSome_iff_exists,List.contains_eq_mem,decide_eq_true_eq,List.mem_map]
 constructor
 ·rintro ⟨x,hx⟩
  obtain ⟨h1,h2⟩:=fdS_mem hx
  exact ⟨x.p,⟨x,h1,rfl⟩,by omega⟩
 ·rintro ⟨q,⟨x,hx,rfl⟩,e⟩
  cases hf:fdS l (n:Int) with
  | some y=>exact ⟨y,rfl⟩
  | none =>
   unfold fdS at hf
   rw [List.find?_eq_none] at hf
   have:=hf x hx
   simp at this
   omega
theorem hasX_eq (l:List PD3) (p:PatchD) (r:RefD):hasX l p r=hasLineC (l.map PD3.p) p r:=by
 unfold hasX hasLineC
 rw [fdS_map]
 cases fdS l (r.p:Int)<;>rfl
theorem refuse_eq {l:List PD3} (hinv:Inv (l.map PD3.p)) {t:List UInt8} {p:PatchD} (hp:parseS t=some p) (hf:formedS p=true) :
  applyS (l.map PD3.p) t=(refuseX l p t,if refuseX l p t=0 then withS p (l.map PD3.p) else l.map PD3.p):=by
 unfold applyS refuseX
 rw [hp]
 simp only
 rw [if_neg (by rw [hf];simp),fdS_map]
 cases hfd:fdS l (p.id:Int) with
 | some o =>
  simp only [Option.map_some]
  by_cases ht:textS o.p=t
  ·simp [ht]
  ·simp [ht]
 | none =>
  simp only [Option.map_none]
  rw [← needsX_eq]
  by_cases h1:needsX l p=false
  ·simp [h1]
  ·rw [if_neg h1,if_neg h1]
   have hlp:=lines_part (ps:=l.map PD3.p) hinv.nodup hf (fun c hc=>(parse_del hp c hc).2)
   have hlp':(p.changes.all fun c=>hasX l p c.up&&hasX l p c.down) = !p.changes.any (lineBad (linesS (l.map PD3.p)++linesOfS p)):=by
    rw [← hlp];congr 1;funext c;rw [hasX_eq,hasX_eq]
   rw [hlp']
   cases hany:p.changes.any (lineBad (linesS (l.map PD3.p)++linesOfS p))
   ·have hlen:(linesS (l.map PD3.p)++linesOfS p).length=ownsX l+ownN p.changes:=by rw [List.length_append,linesS_length,linesOfS,length_linesUp]
    rw [hlen,List.length_map]
    by_cases hr:20≤l.length∨90<ownsX l+ownN p.changes
    ·rw [if_pos hr]
     have:(decide (l.length<20)&&decide (ownN p.changes+ownsX l≤90))=false:=by
      rcases hr with e | e
      ·simp;intro;omega
      ·simp;intro;omega
     simp [this]
    ·rw [if_neg hr]
     have:(decide (l.length<20)&&decide (ownN p.changes+ownsX l≤90))=true:=by simp;omega
     simp [this]
   ·simp
theorem withX_length (x:PD3) (l:List PD3):(withX x l).length=l.length+1:=by
 unfold withX
 have:(l.takeWhile (fun y=>decide (y.p.id<x.p.id))).length+(l.dropWhile (fun y=>decide (y.p.id<x.p.id))).length=l.length:=by rw [← List.length_append,List.takeWhile_append_dropWhile]
 simp only [List.length_append,List.length_cons];omega
theorem withX_mem {x y:PD3} {l:List PD3} (h:y∈withX x l):y=x∨y∈l:=by
 unfold withX at h
 rcases List.mem_append.1 h with e | e
 ·exact .inr ((List.takeWhile_sublist _).mem e)
 ·rcases List.mem_cons.1 e with e | e
  ·exact .inl e
  ·exact .inr ((List.dropWhile_sublist _).mem e)
theorem ownsX_append (l m:List PD3):ownsX (l++m)=ownsX l+ownsX m:=by simp [ownsX]
theorem ownsX_with (x:PD3) (l:List PD3):ownsX (withX x l)=ownN x.p.changes+ownsX l:=by
 have h:=ownsX_append (l.takeWhile (fun y=>decide (y.p.id<x.p.id))) (l.dropWhile (fun y=>decide (y.p.id<x.p.id)))
 rw [List.takeWhile_append_dropWhile] at h
 have h2:∀ m:List PD3,ownsX (x::m)=ownN x.p.changes+ownsX m:=fun m=>by simp [ownsX]
 unfold withX
 rw [ownsX_append,h2,h];omega
theorem fits_with (x:PD3) (l:List PD3):(decide ((withX x l).length≤20)&&decide (ownsX (withX x l)≤90))=(decide (l.length<20)&&decide (ownN x.p.changes+ownsX l≤90)):=by
 rw [withX_length,ownsX_with]
 congr 1
theorem refusal_ret {T:Heap→Prop} (hI:ItoaOK T) {F:Nat→Prop} (xb:Nat) (l:List PD3) (lv:Value) (x:PD3) (t:List UInt8) (h:Heap) (ht:T h) (hb:Blk h xb [lv] 65) (hs:XS F h lv l) (hp:PV F h x) (hinv:Inv (l.map PD3.p)) (hn:x.p.changes.length≤1000) (hnn:x.p.needs.length≤1000) :
  Ret Tryd.prog 40 #[.pointer (some ⟨xb,0,none⟩),.agg x.cells.toArray,.string (str t)] h fun v h'=>Ext h h'∧v = .int .i64 (refuseX l x.p t:Int):=by
 obtain ⟨ad,cap,hv⟩:=hs.rd.form
 have hlv:=hv
 subst hv
 have hl:l.length≤1000:=by have:=hinv.len;simp at this;omega
 have hcl:∀ y∈l,y.p.changes.length≤1000:=fun y hy=>by have:=(hinv.ok (List.mem_map.2 ⟨y,hy,rfl⟩)).len;omega
 refine Ret.of_body Tryd.func40 rfl Tryd.ntmps40 rfl rfl ?_
 refine zgo ?_
 refine WO.box rfl rfl rfl rfl rfl rfl fun h0 hb0 hx0 hs0=>?_
 have g0:=hb0.cell (j:=0) rfl
 have x0:=hx0.xc (hb.cell (j:=0) rfl)
 refine zgo ?_
 refine Runs.join (fun env' h'=>∃ u0 u1 u2 r vb,Sub [(0,.pointer (some ⟨xb,0,none⟩)),(2,.string (str t)),(4,.pointer (some ⟨h.size,0,none⟩)),(7,.pointer (some ⟨vb,0,none⟩)),(8,.bool r)] env'∧Ext h0 h'∧Blk h' vb [u0,u1,u2] 68∧foundU l (x.p.id:Int) u0 u1 u2 r) (fun hJ=>?_) ?_
 ·refine Runs.drawn (m:=13) (fun h'=>Ext h0 h') (fun _=>false) mixed rfl ?_
  refine zp 0 (Fr.refl _ _) ?_
  refine zp 1 (Fr.refl _ _) ?_
  refine zp 2 (Fr.refl _ _) ?_
  refine zl 3 (fun _ hS=>(Fr.xc hS x0)) (Fr.refl _ _) ?_
  refine zp 4 (Fr.refl _ _) ?_
  refine zl 5 (fun _ hS=>(Fr.xc hS g0)) (Fr.refl _ _) ?_
  refine WF.two 6 10 (by kernel_rfl) ?_ ?_
  ·refine WFI.call 6 rfl rfl rfl rfl rfl plain_Find rfl (Find_ret l _ (x.p.id:Int) _ (hs.ext hx0) hl) fun v2 h2 ⟨hx2,hf2⟩=>⟨.inr hx2,?_⟩
   obtain ⟨u0,u1,u2,r,hv2,hone,hU⟩:=found_form (hs.ext hx0) hf2
   subst hv2
   refine zp 7 hx2 ?_
   refine zp 8 hx2 ?_
   refine zp 9 hx2 ?_
   refine WF.var 10 11 tab_ok (by kernel_rfl) (by kernel_rfl) rfl rfl rfl rfl rfl rfl rfl rfl rfl rfl rfl rfl (by simp) rfl rfl hone rfl (fun h' hx'=>hx2.trans hx') fun h3 hb3 hx3 hs3=>?_
   have hx23:=hx2.trans hx3
   refine zp 12 hx23 ?_
   refine WF.done (by kernel_rfl) ?_
   exact hJ _ _ ⟨u0,u1,u2,r,_,⟨rfl,rfl,rfl,rfl,rfl,trivial⟩,hx2.trans hx3,hb3,hU⟩
  ·refine WFI.alloc 10 tab_ok rfl rfl rfl rfl rfl rfl rfl (fun _ e=>e) fun h2 hb2 hx2 hs2=>?_
   refine WF.call 6 (by kernel_rfl) rfl rfl rfl rfl rfl plain_Find rfl (Find_ret l _ (x.p.id:Int) _ (hs.ext (hx0.trans hx2)) hl) fun v3 h3 ⟨hx3,hf3⟩=>⟨.inr (hx2.trans hx3),?_⟩
   obtain ⟨u0,u1,u2,r,hv3,hone,hU⟩:=found_form (hs.ext hx0) hf3
   subst hv3
   have hx23:=hx2.trans hx3
   refine zp 7 hx23 ?_
   refine zp 8 hx23 ?_
   refine zp 9 hx23 ?_
   refine WF.putS 11 tab_ok (by kernel_rfl) rfl rfl rfl rfl rfl rfl rfl rfl rfl hone (hb2.ext hx3) rfl (fun h' hf'=>Fr.wr hx23 hf' (Nat.le_refl _)) fun h4 hb4 hx4 hs4=>?_
   have hx24:Ext h0 h4:=Fr.wr hx23 hx4 (Nat.le_refl _)
   refine zp 12 hx24 ?_
   refine WF.done (by kernel_rfl) ?_
   exact hJ _ _ ⟨u0,u1,u2,r,_,⟨rfl,rfl,rfl,rfl,rfl,trivial⟩,Fr.wr hx23 hx4 (Nat.le_refl _),hb4,hU⟩
 rintro env' h2 ⟨u0,u1,u2,r,vb,hsub,hx2,hb2,hU⟩
 refine Runs.sub hsub ?_
 clear hsub env'
 have hx02:=hx0.trans hx2
 have kx:Cells h2 h.size 0 x.cells:=hx2.xcs hb0.cells
 unfold refuseX
 rcases hU with ⟨rfl,y,hfd,hym,hus⟩ | ⟨rfl,hfd⟩
 ·rw [hus] at hb2
  have k3:Cells h2 vb 0 y.cells:=hb2.cells
  have hpy:=(hs.pv y hym).ext hx02
  have hypm:y.p∈l.map PD3.p:=List.mem_map.2 ⟨y,hym,rfl⟩
  rw [hfd]
  dsimp only
  refine zgo ?_
  refine WO.call rfl rfl rfl rfl plain_Write rfl (Write_ret hI y _ (hI.1 _ _ ht hx02) hpy (hinv.ok hypm) (hinv.kind hypm)) fun v3 h3 ⟨hx3,hv3⟩=>?_
  subst hv3
  have hx03:=hx02.trans hx3
  refine zgo ?_
  refine Runs.cond_dec rfl (fun he=>?_) (fun he=>?_)
  ·refine zgo ?_
   exact Runs.ret Tryd.func40 (ret1 Tryd.results40 rfl) ⟨hx03,by rw [if_pos he];rfl⟩
  ·refine zgo ?_
   exact Runs.ret Tryd.func40 (ret1 Tryd.results40 rfl) ⟨hx03,by rw [if_neg he];rfl⟩
 ·rw [hfd]
  dsimp only
  refine zgo ?_
  refine WO.call rfl rfl rfl rfl plain_hasNeeds rfl (hasNeeds_ret xb l _ x _ (hb.ext hx02) (hs.ext hx02) (hp.ext hx02) hl hnn) fun v3 h3 ⟨hx3,hv3⟩=>?_
  subst hv3
  have hx03:=hx02.trans hx3
  cases hN:needsX l x.p
  ·refine zgo ?_
   exact Runs.ret Tryd.func40 (ret1 Tryd.results40 rfl) ⟨hx03,rfl⟩
  have k4:Cells h3 h.size 0 x.cells:=hx3.xcs kx
  refine zgo ?_
  refine WO.call rfl rfl rfl rfl plain_hasLines rfl (hasLines_ret xb l _ x _ (hb.ext hx03) (hs.ext hx03) (hp.ext hx03) hl hcl hn) fun v4 h4 ⟨hx4,hv4⟩=>?_
  subst hv4
  have hx04:=hx03.trans hx4
  cases hL:x.p.changes.all fun c=>hasX l x.p c.up&&hasX l x.p c.down
  ·refine zgo ?_
   exact Runs.ret Tryd.func40 (ret1 Tryd.results40 rfl) ⟨hx04,rfl⟩
  have k5:Cells h4 h.size 0 x.cells:=hx4.xcs k4
  have x4:=hx04.xc (hb.cell (j:=0) rfl)
  refine zgo ?_
  refine Runs.drawn (m:=7) (fun h'=>Ext h4 h') (fun _=>false) mixed rfl ?_
  refine zp 0 (Fr.refl _ _) ?_
  refine zp 1 (Fr.refl _ _) ?_
  refine zp 2 (Fr.refl _ _) ?_
  refine zl 3 (fun _ hS=>(Fr.xc hS x4)) (Fr.refl _ _) ?_
  refine zL 4 (fun _ hS=>(Fr.xcs hS k5)) (Fr.refl _ _) ?_
  refine WF.call 5 (by kernel_rfl) rfl rfl rfl rfl rfl plain_With rfl (With_ret l _ x _ (hs.ext hx04) (hp.ext hx04) hl) fun v5 h5 ⟨hx5,hs5⟩=>⟨.inr hx5,?_⟩
  refine zx 6 hx5 ?_
  refine WF.done (by kernel_rfl) ?_
  refine zgo ?_
  refine WO.call rfl rfl rfl rfl plain_fits rfl (fits_ret (withX x l) v5 _ hs5 (by rw [withX_length];have:=hinv.len;simp at this;omega) (fun y hy=>(withX_mem hy).elim (fun e=>by rw [e];exact hn) (hcl y))) fun v6 h6 ⟨hx6,hv6⟩=>?_
  subst hv6
  have hx05:=hx04.trans (hx5.trans hx6)
  rw [fits_with]
  cases hR:decide (l.length<20)&&decide (ownN x.p.changes+ownsX l≤90)
  ·refine zgo ?_
   exact Runs.ret Tryd.func40 (ret1 Tryd.results40 rfl) ⟨hx05,rfl⟩
  ·refine zgo ?_
   exact Runs.ret Tryd.func40 (ret1 Tryd.results40 rfl) ⟨hx05,rfl⟩
def AfterX (F:Nat→Prop) (xb:Nat) (h:Heap) (ps:List PatchD) (e:Nat) (v:Value) (h':Heap):Prop :=
 Fr (fun k=>k=xb) h h'∧v = .int .i64 (e:Int)∧∃ lv l,Blk h' xb [lv] 65∧XS (fun k=>F k∨New h h' k) h' lv l∧l.map PD3.p=ps
theorem withX_eq (x:PD3) (l:List PD3) (hn:x.p.id∉(l.map PD3.p).map PatchD.id):(withX x l).map PD3.p=withS x.p (l.map PD3.p):=by
 unfold withX
 induction l with
 | nil=>rfl
 | cons y l ih =>
  simp only [List.map_cons,List.mem_cons,not_or] at hn
  simp only [List.map_cons,withS]
  by_cases h:y.p.id<x.p.id
  ·have:=ih hn.2
   simp only [List.map_append,List.map_cons] at this
   rw [if_neg (by omega)]
   simp [h,this]
  ·rw [if_pos (by omega)]
   simp [h]
theorem xApply_ret {T:Heap→Prop} (hI:ItoaOK T) {F:Nat→Prop} (xb:Nat) (l:List PD3) (lv:Value) (t:List UInt8) (h:Heap) (ht:T h) (hb:Blk h xb [lv] 65) (hs:XS F h lv l) (hF:∀ k,F k→k≠xb) (hinv:Inv (l.map PD3.p)) (hl:t.length≤16777216) :
  Ret Tryd.prog 18 #[.pointer (some ⟨xb,0,none⟩),.string (str t)] h (AfterX F xb h (applyS (l.map PD3.p) t).2 (applyS (l.map PD3.p) t).1):=by
 refine Ret.of_body Tryd.func18 rfl Tryd.ntmps18 rfl rfl ?_
 have hlt:=hb.lt
 have same:∀ (e:Nat) (v:Value) (h':Heap),applyS (l.map PD3.p) t=(e,l.map PD3.p)→v = .int .i64 (e:Int)→Ext h h'→AfterX F xb h (applyS (l.map PD3.p) t).2 (applyS (l.map PD3.p) t).1 v h':=fun e v h' ha hv hx=>by
  rw [ha]
  exact ⟨hx.up,hv,lv,l,hb.ext hx,(hs.ext hx).mono fun _ e=>.inl e,rfl⟩
 refine zgo ?_
 refine WO.call rfl rfl rfl rfl plain_Read rfl (pread_ret t _ hl) fun v1 h1 ⟨hx1,hp1⟩=>?_
 unfold readP at hp1
 cases hP:parseS t with
 | none =>
  rw [hP] at hp1
  subst hp1
  refine zgo ?_
  refine zv (one3 _ _ _ _ _ _ _) fun h2 hb2 hx2 hs2=>?_
  refine zgo ?_
  exact Runs.ret Tryd.func18 (ret1 Tryd.results18 rfl) (same 1 _ _ (by unfold applyS;rw [hP]) rfl (hx1.trans hx2))
 | some p =>
  rw [hP] at hp1
  obtain ⟨nv,cv,rfl,hpv⟩:=hp1
  have hok:=(parse_ok hP).1
  refine zgo ?_
  refine zv hpv.one fun h2 hb2 hx2 hs2=>?_
  have hx02:=hx1.trans hx2
  have k2:Cells h2 h1.size 0 (PD3.cells ⟨p,nv,cv⟩):=hb2.cells
  refine zgo ?_
  refine WO.call rfl rfl rfl rfl plain_WellFormed rfl (WellFormed_ret ⟨p,nv,cv⟩ _ (hpv.ext hx2) (by have:=hok.nlen;dsimp only;omega) (by have:=hok.len;dsimp only;omega)) fun v3 h3 ⟨hx3,hv3⟩=>?_
  subst hv3
  have hx03:=hx02.trans hx3
  dsimp only
  rw [wellS_eq fun c hc=>(parse_del hP c hc).2]
  cases hF':formedS p
  ·refine zgo ?_
   exact Runs.ret Tryd.func18 (ret1 Tryd.results18 rfl) (same 2 _ _ (by unfold applyS;rw [hP];simp only;rw [if_pos hF']) rfl hx03)
  have k3:Cells h3 h1.size 0 (PD3.cells ⟨p,nv,cv⟩):=hx3.xcs k2
  have hrf:=refuse_eq hinv hP hF'
  have hpv3:PV (fun k=>F k∨New h h3 k) h3 ⟨p,nv,cv⟩:=(hpv.ext (hx2.trans hx3)).mono fun _ e=>.inr (New.up e (hx2.trans hx3))
  have hs3:XS (fun k=>F k∨New h h3 k) h3 lv l:=(hs.ext hx03).mono fun _ e=>.inl e
  refine zgo ?_
  refine WO.call rfl rfl rfl rfl plain_refusal rfl (refusal_ret hI xb l lv ⟨p,nv,cv⟩ t _ (hI.1 _ _ ht hx03) (hb.ext hx03) hs3 hpv3 hinv (by have:=hok.len;dsimp only;omega) (by have:=hok.nlen;dsimp only;omega)) fun v4 h4 ⟨hx4,hv4⟩=>?_
  subst hv4
  have hx04:=hx03.trans hx4
  dsimp only
  refine zgo ?_
  refine Runs.cond_ndec rfl (fun hne=>?_) (fun heq=>?_)
  ·refine zgo ?_
   exact Runs.ret Tryd.func18 (ret1 Tryd.results18 rfl) (same _ _ _ (by rw [hrf,if_neg (by omega)]) rfl hx04)
  ·have he0:refuseX l p t=0:=by omega
   rw [he0,if_pos rfl] at hrf
   have hnot:p.id∉(l.map PD3.p).map PatchD.id:=fun hm=>by
    obtain ⟨q,hq,e⟩:=List.mem_map.1 hm
    obtain ⟨x,hx,rfl⟩:=List.mem_map.1 hq
    unfold refuseX at he0
    cases hfd:fdS l (p.id:Int) with
    | some o=>rw [hfd] at he0;simp only at he0;split at he0<;>cases he0
    | none =>
     unfold fdS at hfd
     rw [List.find?_eq_none] at hfd
     have:=hfd x hx
     simp at this
     omega
   have k4:Cells h4 h1.size 0 (PD3.cells ⟨p,nv,cv⟩):=hx4.xcs k3
   have hb4:=hb.ext hx04
   have x0:=hb4.cell (j:=0) rfl
   have hs4:=hs3.ext hx4
   have hpv4:=hpv3.ext hx4
   have hll:l.length≤1000:=by have:=hinv.len;simp at this;omega
   refine zgo ?_
   refine Runs.drawn (m:=10) (fun h'=>Ext h4 h') (fun i=>Nat.beq i 9) mixed rfl ?_
   refine zp 0 (Fr.refl _ _) ?_
   refine zp 1 (Fr.refl _ _) ?_
   refine zp 2 (Fr.refl _ _) ?_
   refine zp 3 (Fr.refl _ _) ?_
   refine zl 4 (fun _ hS=>(Fr.xc hS x0)) (Fr.refl _ _) ?_
   refine zL 5 (fun _ hS=>(Fr.xcs hS k4)) (Fr.refl _ _) ?_
   refine WF.call 6 (by kernel_rfl) rfl rfl rfl rfl rfl plain_With rfl (With_ret l lv ⟨p,nv,cv⟩ _ hs4 hpv4 hll) fun v5 h5 ⟨hx5,hs5⟩=>⟨.inr hx5,?_⟩
   obtain ⟨ad5,cap5,hv5⟩:=hs5.rd.form
   subst hv5
   refine zx 7 hx5 ?_
   refine zx 8 hx5 ?_
   refine WF.put 9 tab_ok (by kernel_rfl) rfl rfl rfl rfl rfl rfl rfl rfl rfl (one_slice _ _ _) (hb4.ext hx5) rfl rfl fun h6 hb6 hx6 hs6=>?_
   refine WF.done (by kernel_rfl) ?_
   refine zgo ?_
   have hsz:=hx04.size
   refine Runs.ret Tryd.func18 (ret1 Tryd.results18 rfl) ?_
   rw [hrf]
   refine ⟨(hx04.trans hx5).up.trans hx6,rfl,_,withX ⟨p,nv,cv⟩ l,hb6,?_,withX_eq ⟨p,nv,cv⟩ l hnot⟩
   refine (hs5.fr hx6 fun k hk e=>?_).mono fun k e=>?_
   ·rcases hk with (hk | hk) | hk
    ·exact hF k hk e
    ·have:=hk.1;omega
    ·have:=hk.1;omega
   ·rcases e with (e | e) | e
    ·exact .inl e
    ·exact .inr ((e.up (hx4.trans hx5)).up hx6)
    ·exact .inr ((e.dn hx04).up hx6)
theorem any_hasI (l:List PD3) (n:Nat):(l.any fun y=>hasI y.p.needs (n:Int))=neededS n (l.map PD3.p):=by
 unfold neededS
 rw [List.any_map]
 congr 1
 funext y
 simp only [Function.comp]
 exact hasI_nat y.p.needs n
theorem xUnapply_ret {F:Nat→Prop} (xb:Nat) (l:List PD3) (lv:Value) (q:Int) (h:Heap) (hb:Blk h xb [lv] 65) (hs:XS F h lv l) (hF:∀ k,F k→k≠xb) (hinv:Inv (l.map PD3.p)) :
  Ret Tryd.prog 25 #[.pointer (some ⟨xb,0,none⟩),.int .i64 q] h (fun v h'=>∃ e ps',UnS (l.map PD3.p) q e ps'∧AfterX F xb h ps' e v h'):=by
 refine Ret.of_body Tryd.func25 rfl Tryd.ntmps25 rfl rfl ?_
 have hlt:=hb.lt
 obtain ⟨ad,cap,hv⟩:=hs.rd.form
 subst hv
 have x0:=hb.cell (j:=0) rfl
 have hll:l.length≤1000:=by have:=hinv.len;simp at this;omega
 have hcl:∀ y∈l,y.p.needs.length≤1000:=fun y hy=>by have:=(hinv.ok (List.mem_map.2 ⟨y,hy,rfl⟩)).nlen;omega
 refine zgo ?_
 refine WO.call rfl rfl rfl rfl plain_Find rfl (Find_ret l _ q _ hs hll) fun v1 h1 ⟨hx1,hf1⟩=>?_
 obtain ⟨u0,u1,u2,r,hv1,hone,hU⟩:=found_form hs hf1
 subst hv1
 refine zgo ?_
 refine zv hone fun h2 hb2 hx2 hs2=>?_
 have hx02:=hx1.trans hx2
 rcases hU with ⟨rfl,y,hfd,hym,hus⟩ | ⟨rfl,hfd⟩
 rotate_left
 ·refine zgo ?_
  refine Runs.ret Tryd.func25 (ret1 Tryd.results25 rfl) ⟨8,l.map PD3.p,.inl ⟨fun p hp=>?_,rfl,rfl⟩,hx02.up,rfl,_,l,hb.ext hx02,(hs.ext hx02).mono fun _ e=>.inl e,rfl⟩
  obtain ⟨x,hx,rfl⟩:=List.mem_map.1 hp
  unfold fdS at hfd
  rw [List.find?_eq_none] at hfd
  have:=hfd x hx
  simpa using this
 ·have hyq:=(fdS_mem hfd).2
  have hypm:y.p∈l.map PD3.p:=List.mem_map.2 ⟨y,hym,rfl⟩
  have hni:=needed_iff (q:=y.p.id) hinv.not_self
  refine zgo ?_
  refine WO.call rfl rfl rfl rfl plain_isNeeded rfl (isNeeded_ret xb l _ q _ (hb.ext hx02) (hs.ext hx02) hll hcl) fun v3 h3 ⟨hh3,hv3⟩=>?_
  subst hh3 hv3
  rw [← hyq,any_hasI]
  cases hN:neededS y.p.id (l.map PD3.p)
  rotate_left
  ·refine zgo ?_
   refine Runs.ret Tryd.func25 (ret1 Tryd.results25 rfl) ⟨9,l.map PD3.p,.inr ⟨y.p,hypm,rfl,.inl ⟨hni.1 hN,rfl,rfl⟩⟩,hx02.up,rfl,_,l,hb.ext hx02,(hs.ext hx02).mono fun _ e=>.inl e,rfl⟩
  ·have hb3:=hb.ext hx02
   have x3:=hb3.cell (j:=0) rfl
   refine zgo ?_
   refine WO.call rfl rfl rfl rfl plain_Without rfl (Without_ret l _ (y.p.id:Int) _ (hs.ext hx02) hll) fun v5 h5 ⟨hx5,hs5⟩=>?_
   obtain ⟨ad5,cap5,hv5⟩:=hs5.rd.form
   subst hv5
   refine zgo ?_
   refine WO.put tab_ok rfl rfl rfl rfl rfl rfl rfl rfl (one_slice _ _ _) (hb3.ext hx5) rfl fun h6 hb6 hx6 hs6=>?_
   refine zgo ?_
   have hsz:=hx02.size
   refine Runs.ret Tryd.func25 (ret1 Tryd.results25 rfl) ⟨0,withoutS (y.p.id:Int) (l.map PD3.p),.inr ⟨y.p,hypm,rfl,.inr ⟨fun p hp hne hr=>?_,rfl,rfl⟩⟩,(hx02.trans hx5).up.trans hx6,rfl,_,withoutX (y.p.id:Int) l,hb6,?_,?_⟩
   ·have:=hni.2 ⟨p,hp,hne,hr⟩
    rw [hN] at this;cases this
   ·refine (hs5.fr hx6 fun k hk e=>?_).mono fun k e=>?_
    ·rcases hk with hk | hk
     ·exact hF k hk e
     ·have:=hk.1;omega
    ·rcases e with e | e
     ·exact .inl e
     ·exact .inr ((e.dn hx02).up hx6)
   ·unfold withoutX withoutS
    rw [List.filter_map];rfl
theorem xLog_ret {F:Nat→Prop} (xb:Nat) (l:List PD3) (lv:Value) (h:Heap) (hb:Blk h xb [lv] 65) (hs:XS F h lv l) (hl:l.length≤1000) :
  Ret Tryd.prog 19 #[.pointer (some ⟨xb,0,none⟩)] h fun v h'=>Ext h h'∧Own h' 3 1 v (idsS (l.map PD3.p)).length (ints (idsS (l.map PD3.p)))∧Moved h (.slice none 0 0) v:=by
 refine Ret.of_body Tryd.func19 rfl Tryd.ntmps19 rfl rfl ?_
 obtain ⟨ad,cap,hv⟩:=hs.rd.form
 subst hv
 have x0:=hb.cell (j:=0) rfl
 refine zgo ?_
 refine Runs.loop (X:=IV) (fun x=>[(0,.pointer (some ⟨xb,0,none⟩)),(3,x.v),(4,.int .i64 (x.i:Int))])
  (fun x h'=>x.i≤l.length∧Ext h h'∧Own h' 3 1 x.v (idsS ((l.take x.i).map PD3.p)).length (ints (idsS ((l.take x.i).map PD3.p)))∧(∀ k,x.v.ownBlock=some k→h.size≤k))
  (fun x=>l.length-x.i) ⟨0,.slice none 0 0⟩ ⟨rfl,rfl,rfl,trivial⟩ ⟨Nat.zero_le _,Fr.refl _ _,Own.nil _ _ _,fun k hk=>by simp [Value.ownBlock] at hk⟩ ?_
 rintro ⟨i,v⟩ h2 ⟨hi,hx2,ho2,hm2⟩ ih
 dsimp only at hi hx2 ho2 hm2 ih ⊢
 have hidl:(idsS ((l.take i).map PD3.p)).length≤i:=by simp [idsS];omega
 have y0:=hx2.xc x0
 refine zgo ?_
 refine Runs.cond_dec rfl (fun hlt=>?_) (fun hge=>?_)
 ·have hlt':i<l.length:=by omega
  have hget:l[i]? = some l[i]:=List.getElem?_eq_getElem hlt'
  have hsn:idsS ((l.take (i+1)).map PD3.p)=idsS ((l.take i).map PD3.p)++[l[i].p.id]:=by unfold idsS;rw [List.take_succ_eq_append_getElem hlt',List.map_append,List.map_append];rfl
  generalize l[i]=y at *
  obtain ⟨b0,p0,cap0,hv,hc,hpv⟩:=(hs.ext hx2).get hget
  cases hv
  have c0:=hc.head
  refine zgo ?_
  refine zh (one_int _) ho2 ?_
  intro v' h3 o1 o2 o3
  refine zgo ?_
  have hsz:=hx2.size
  refine ih ⟨i+1,v'⟩ _ _ (by dsimp only;omega) ⟨rfl,rfl,rfl,trivial⟩ ⟨hlt',hx2.trans_new (o2.mono (fun k _ e=>.inr (hm2 k e))),?_,?_⟩
  ·dsimp only;rw [hsn];simpa [ints] using o1
  ·intro k hk
   rcases o3 k hk with e | e
   ·exact hm2 k e
   ·omega
 ·refine zgo ?_
  rw [List.take_of_length_le (by omega)] at ho2
  exact Runs.ret Tryd.func19 (ret1 Tryd.results19 rfl) ⟨hx2,ho2,fun k hk=>.inr (hm2 k hk)⟩
theorem xText_ret {T:Heap→Prop} (hI:ItoaOK T) {F:Nat→Prop} (xb:Nat) (l:List PD3) (lv:Value) (q:Int) (h:Heap) (ht:T h) (hb:Blk h xb [lv] 65) (hs:XS F h lv l) (hinv:Inv (l.map PD3.p)) :
  Ret Tryd.prog 24 #[.pointer (some ⟨xb,0,none⟩),.int .i64 q] h fun v h'=>Ext h h'∧∃ t e,v = .tuple #[.string (str t),.int .i64 (e:Nat)]∧TxS (l.map PD3.p) q t e:=by
 refine Ret.of_body Tryd.func24 rfl Tryd.ntmps24 rfl rfl ?_
 obtain ⟨ad,cap,hv⟩:=hs.rd.form
 subst hv
 have x0:=hb.cell (j:=0) rfl
 have hll:l.length≤1000:=by have:=hinv.len;simp at this;omega
 refine zgo ?_
 refine WO.call rfl rfl rfl rfl plain_Find rfl (Find_ret l _ q _ hs hll) fun v1 h1 ⟨hx1,hf1⟩=>?_
 obtain ⟨u0,u1,u2,r,hv1,hone,hU⟩:=found_form hs hf1
 subst hv1
 refine zgo ?_
 refine zv hone fun h2 hb2 hx2 hs2=>?_
 have hx02:=hx1.trans hx2
 rcases hU with ⟨rfl,y,hfd,hym,hus⟩ | ⟨rfl,hfd⟩
 ·have hypm:y.p∈l.map PD3.p:=List.mem_map.2 ⟨y,hym,rfl⟩
  rw [hus] at hb2
  have k2:Cells h2 h1.size 0 y.cells:=hb2.cells
  refine zgo ?_
  refine WO.call rfl rfl rfl rfl plain_Write rfl (Write_ret hI y _ (hI.1 _ _ ht hx02) ((hs.pv y hym).ext hx02) (hinv.ok hypm) (hinv.kind hypm)) fun v3 h3 ⟨hx3,hv3⟩=>?_
  subst hv3
  refine zgo ?_
  exact Runs.ret Tryd.func24 (ret2 Tryd.results24 rfl rfl) ⟨hx02.trans hx3,textS y.p,0,rfl,.inl ⟨y.p,hypm,(fdS_mem hfd).2,rfl,rfl⟩⟩
 ·refine zgo ?_
  refine Runs.ret Tryd.func24 (ret2 Tryd.results24 rfl rfl) ⟨hx02,[],8,rfl,.inr ⟨fun p hp=>?_,rfl,rfl⟩⟩
  obtain ⟨x,hx,rfl⟩:=List.mem_map.1 hp
  unfold fdS at hfd
  rw [List.find?_eq_none] at hfd
  have:=hfd x hx
  simpa using this
theorem xNew_ret (h:Heap):Ret Tryd.prog 17 #[] h fun v h'=>Ext h h'∧h'.size=h.size+1∧v = .pointer (some ⟨h.size,0,none⟩)∧Blk h' h.size [.slice none 0 0] 65:=by
 refine Ret.of_body (vs:=[]) Tryd.func17 rfl Tryd.ntmps17 rfl rfl ?_
 refine zgo ?_
 refine WO.box rfl rfl rfl rfl rfl rfl fun h1 hb1 hx1 hs1=>?_
 refine zgo ?_
 exact Runs.ret Tryd.func17 (ret1 Tryd.results17 rfl) ⟨hx1,hs1,rfl,hb1⟩
end Go.Proofs.YtlaffgagmncgjabDoor
