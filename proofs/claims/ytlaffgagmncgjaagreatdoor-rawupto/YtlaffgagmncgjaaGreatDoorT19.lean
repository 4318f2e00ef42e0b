import Derived.Test.YtlaffgagmncgjaaGreatDoorT16
import Derived.Test.YtlaffgagmncgjaaGreatDoorMem3
set_option maxRecDepth 20000
set_option maxHeartbeats 800000
namespace Go.Proofs.YtlaffgagmncgjaaGreatDoor
open Tryz Go Go.Pat Go.Proofs
theorem plain107:Plain Tryz.prog 119:=⟨_,func119,by decide +kernel,by rfl⟩
theorem plain110:Plain Tryz.prog 122:=⟨_,func122,by decide +kernel,by rfl⟩
theorem ret0 {fn:Func} {n:Nat} {env:Env} {h:Heap} (hr:fn.results = #[]) {P:Program} (a:Act) (w:World) (_:Sat n env a) (_:w.heap=h):(results fn a.tmps).run P w = .ok (.tuple #[]) w:=by
 simp [results,hr]
def sayS (ls:List LineD) (a b:RefD) (m:List (List Bool)):List (List Bool) :=
 match placeS ls a,placeS ls b with
 | some x,some y=>setB m x y true
 | _,_=>m
theorem say_ret (ls:List LineD) (a c:RefD) (ob:Nat) (rbs:List Nat) (m:List (List Bool)) (v:Value) (h:Heap) (hr:Rd h 7 v ls.length (linesC ls)) (hl:ls.length≤100000) (hom:OM h 129 4 ls.length ob rbs m) :
  Ret Tryz.prog 119 #[.slice (some ⟨ob,0,none⟩) ls.length ls.length,v,.agg a.cells.toArray,.agg c.cells.toArray] h fun _ h'=>Fr (fun k=>k∈rbs) h h'∧OM h' 129 4 ls.length ob rbs (sayS ls a c m):=by
 obtain ⟨ad,cap,hv⟩:=hr.form
 subst hv
 refine Ret.of_body func119 rfl ntmps119 rfl rfl ?_
 refine zgo ?_
 refine zb fun h1 hb1 hx1 hs1=>?_
 have e1:Cells h1 h.size 0 a.cells:=hb1.cells
 refine zgo ?_
 refine zb fun h2 hb2 hx2 hs2=>?_
 have e2:Cells h2 h1.size 0 c.cells:=hb2.cells
 have e1':=hx2.xcs e1
 have hx12:=hx1.trans hx2
 refine zgo ?_
 refine WO.call rfl rfl rfl rfl plain130 rfl (place_ret ls a _ _ (hr.ext hx12) hl) fun v3 h3 ⟨hx3,hp3⟩=>?_
 have e2':=hx3.xcs e2
 have hx13:=hx12.trans hx3
 rcases hp3 with ⟨x,hpx,hxl,rfl⟩ | ⟨hpx,rfl⟩
 ·refine zgo ?_
  refine WO.call rfl rfl rfl rfl plain130 rfl (place_ret ls c _ _ (hr.ext hx13) hl) fun v4 h4 ⟨hx4,hp4⟩=>?_
  have hx14:=hx13.trans hx4
  have hom4:=hom.ext hx14
  rcases hp4 with ⟨y,hpy,hyl,rfl⟩ | ⟨hpy,rfl⟩
  ·obtain ⟨rb,r,hrb,hmr,hrl,hcell,hblk,hget⟩:=hom4.get hxl
   refine zgo ?_
   refine WO.put1 tab_ok rfl rfl rfl rfl rfl rfl rfl (one_bool _) hblk (by simp [bools];omega) fun h5 hb5 hx5 hs5=>?_
   rw [Nat.zero_add,Nat.mul_one] at hb5
   refine zgo ?_
   refine Runs.fall func119 (ret0 results119) ⟨(hx14.mono (fun _ _ e=>e.elim)).trans (hx5.mono (fun k _ e=>by subst e;exact List.mem_of_getElem? hrb)),?_⟩
   unfold sayS
   rw [hpx,hpy]
   exact hom4.set hrb hmr hb5 hx5
  ·refine zgo ?_
   refine Runs.fall func119 (ret0 results119) ⟨hx14.mono (fun _ _ e=>e.elim),?_⟩
   unfold sayS
   rw [hpx,hpy]
   exact hom4
 ·refine zgo ?_
  refine WO.call rfl rfl rfl rfl plain130 rfl (place_ret ls c _ _ (hr.ext hx13) hl) fun v4 h4 ⟨hx4,hp4⟩=>?_
  have hx14:=hx13.trans hx4
  have hom4:=hom.ext hx14
  have hv4:∃ q:Int,v4 = .int .i64 q:=by
   rcases hp4 with ⟨y,_,_,e⟩ | ⟨_,e⟩
   ·exact ⟨_,e⟩
   ·exact ⟨_,e⟩
  obtain ⟨q,rfl⟩:=hv4
  refine zgo ?_
  refine Runs.fall func119 (ret0 results119) ⟨hx14.mono (fun _ _ e=>e.elim),?_⟩
  unfold sayS
  rw [hpx]
  exact hom4
def MF (h:Heap) (b:Nat) (fx:List Bool):Prop:=∃ fxv,cellAt h b 3=some fxv∧Rd h 1 fxv fx.length (bools fx)
def blockS (n:Nat) (m:List (List Bool)) (fx:List Bool) (i:Nat):Int :=
 if fx.getD i false=true then -1 else (((List.range n).filter fun j=>fx.getD j false&&aheadS m j i).length:Int)
theorem block_ret (b i:Nat) (al:List LineD) (ld:List (List Bool)) (fx:List Bool) (h:Heap) (hm:ML h b al ld) (hf:MF h b fx) (hfl:fx.length=al.length) (hi:i<al.length) (hl:al.length≤100000) :
  Ret Tryz.prog 122 #[.pointer (some ⟨b,0,none⟩),.int .i64 (i:Int)] h fun v h'=>h'=h∧v = .int .i64 (blockS al.length ld fx i):=by
 refine Ret.of_body func122 rfl ntmps122 rfl rfl ?_
 have hm0:=hm
 obtain ⟨sp,alv,ldv,fxv,blv,hc,har,hmat,sq⟩:=hm
 have f1:=hc.tail.head
 obtain ⟨fxv',f3,hfr⟩:=hf
 obtain ⟨ad,cap,hv⟩:=har.form
 subst hv
 have hgd:∀ j,j<al.length→fx[j]? = some (fx.getD j false):=fun j hj=>by
  rw [List.getD_eq_getElem?_getD,List.getElem?_eq_getElem (by omega)];rfl
 obtain ⟨b3,p3,cap3,hv3,_,c3⟩:=hfr.cell (bools_get (hgd i hi))
 subst hv3
 have c3':∀ j,j<al.length→cellAt h b3 (p3+j*1)=some (.bool (fx.getD j false)):=fun j hj=>by
  obtain ⟨b4,p4,cap4,hv4,_,c4⟩:=hfr.cell (bools_get (hgd j hj))
  cases hv4;exact c4
 refine zgo ?_
 refine Runs.cond rfl (fun q1=>?_) (fun q1=>?_)
 ·refine zgo ?_
  refine Runs.ret func122 (ret1 results122 rfl) ⟨rfl,?_⟩
  unfold blockS;rw [if_pos q1]
 ·have hbl:blockS al.length ld fx i=(((List.range al.length).filter fun j=>fx.getD j false&&aheadS ld j i).length:Int):=by
   unfold blockS;rw [if_neg (by rw [q1];simp)]
  rw [hbl]
  refine zgo ?_
  refine Runs.loop (X:=Nat × Nat) (fun x=>[(0,.pointer (some ⟨b,0,none⟩)),(1,.int .i64 (i:Int)),(5,.int .i64 (x.2:Int)),(18,.int .i64 (al.length:Int)),(19,.int .i64 (x.1:Int))])
   (fun x h'=>h=h'∧x.1≤al.length∧x.2=((List.range x.1).filter fun j=>fx.getD j false&&aheadS ld j i).length) (fun x=>al.length-x.1) (0,0) ⟨rfl,rfl,rfl,rfl,rfl,trivial⟩ ⟨rfl,Nat.zero_le _,rfl⟩ ?_
  rintro ⟨j,n⟩ _ ⟨rfl,hj,hn⟩ ih
  dsimp only at hj hn ih ⊢
  have hnl:n≤j:=by rw [hn];exact filter_range_le _ _
  refine zgo ?_
  refine Runs.cond_dec rfl (fun hlt=>?_) (fun hge=>?_)
  ·have hlt':j<al.length:=by omega
   have hsn:=filter_range_succ (fun j=>fx.getD j false&&aheadS ld j i) j
   rw [← hn] at hsn
   have c5:=c3' j hlt'
   refine zgo ?_
   refine WO.split 29 _ rfl (fun q2=>?_) (fun q2=>?_)
   ·refine zgo ?_
    refine WO.call rfl rfl rfl rfl plain113 rfl (ahead_ret b j i al ld _ hm0 hlt' hi) fun v3 h3 ⟨hh3,hv3⟩=>?_
    subst hh3 hv3
    refine zgo ?_
    refine Runs.cond rfl (fun e2=>?_) (fun e2=>?_)
    ·rw [q2,e2] at hsn
     refine zgo ?_
     exact ih (j+1,n+1) _ _ (by dsimp only;omega) ⟨rfl,rfl,rfl,rfl,rfl,trivial⟩ ⟨rfl,hlt',by dsimp only;rw [hsn];simp⟩
    ·rw [q2,e2] at hsn
     refine zgo ?_
     exact ih (j+1,n) _ _ (by dsimp only;omega) ⟨rfl,rfl,rfl,rfl,rfl,trivial⟩ ⟨rfl,hlt',by dsimp only;rw [hsn];simp⟩
   ·rw [q2] at hsn
    refine zgo ?_
    exact ih (j+1,n) _ _ (by dsimp only;omega) ⟨rfl,rfl,rfl,rfl,rfl,trivial⟩ ⟨rfl,hlt',by dsimp only;rw [hsn];simp⟩
  ·refine zgo ?_
   have:j=al.length:=by omega
   subst this
   exact Runs.ret func122 (ret1 results122 rfl) ⟨rfl,by rw [hn]⟩
end Go.Proofs.YtlaffgagmncgjaaGreatDoor
