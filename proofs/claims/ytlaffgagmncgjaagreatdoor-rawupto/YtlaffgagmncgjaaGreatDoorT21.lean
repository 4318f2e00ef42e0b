import Derived.Test.YtlaffgagmncgjaaGreatDoorT20
set_option maxRecDepth 20000
set_option maxHeartbeats 1600000
namespace Go.Pat
open Go
section
variable {P:Program} {n:Nat} {env:Env} {h:Heap} {o:Oper} {T:Tab}
theorem ov_indexAddrA {t:TypeId} {x i:Operand} {b p len:Nat} {k:IntKind} {q:Int} {j:Nat} {e:TypeId} {sz by_ esz eby:Nat} {z ez:Value} {ek:TK} (hT:T.ok P) (ho:o.op = .indexAddr t x i)
  (hx:env.ev? x=some (.pointer (some ⟨b,p,none⟩))) (hi:env.ev? i=some (.int k q)) (ht:T.get? t=some ⟨sz,by_,z,.array len e⟩) (he:T.get? e=some ⟨esz,eby,ez,ek⟩) (hq:natOf q=some j) (hj:j<len) :
  OpVal P n env o h (.pointer (some ⟨b,p+j*esz,none⟩)):=fun w a _ ha=>by
 replace hq:=natOf_eq hq
 have hu:P.underlying t=some (.array len e):=(Tab.fits hT ht).2
 subst hq
 simp [execOp,ho,ha.ev hx,ha.ev hi,Instr.indexAt,Instr.sureAddr,asIntOf,und (Tab.fits hT ht) hu,run_sizeOf (Tab.fits hT he),hj,add_plain]
end
end Go.Pat
namespace Go.Proofs.YtlaffgagmncgjaaGreatDoor
open Tryz Go Go.Pat Go.Proofs
theorem plain118:Plain Tryz.prog 137:=⟨_,func137,by decide +kernel,by rfl⟩
structure Key where
 (a b c d:Int)
def Key.cells (k:Key):List Value:=[.int .i64 k.a,.int .i64 k.b,.int .i64 k.c,.int .i64 k.d]
def Key.get (k:Key):Nat→Int
 | 0=>k.a
 | 1=>k.b
 | 2=>k.c
 | _=>k.d
theorem Key.cell (k:Key) {h:Heap} {b o:Nat} (hc:Cells h b o k.cells) {i:Nat} (hi:i<4):cellAt h b (o+i*1)=some (.int .i64 (k.get i)):=by
 rw [Nat.mul_one]
 apply hc i
 rcases i with _ | _ | _ | _ | i
 ·rfl
 ·rfl
 ·rfl
 ·rfl
 ·omega
def lessFrom (x y:Key):Nat→Nat→Bool
 | 0,_=>false
 | f+1,i=>if x.get i≠y.get i then decide (x.get i<y.get i) else lessFrom x y f (i+1)
def lessS (x y:Key):Bool:=lessFrom x y 4 0
theorem less_ret (x y:Key) (h:Heap):Ret Tryz.prog 137 #[.agg x.cells.toArray,.agg y.cells.toArray] h fun v h'=>Ext h h'∧v = .bool (lessS x y):=by
 refine Ret.of_body func137 rfl ntmps137 rfl rfl ?_
 refine zgo ?_
 refine zb fun h1 hb1 hx1 hs1=>?_
 refine zgo ?_
 refine zb fun h2 hb2 hx2 hs2=>?_
 have c1:Cells h2 h.size 0 x.cells:=(hb1.ext hx2).cells
 have c2:Cells h2 h1.size 0 y.cells:=hb2.cells
 have hx:=hx1.trans hx2
 refine zgo ?_
 refine Runs.loop (X:=Nat) (fun i=>[(2,.pointer (some ⟨h.size,0,none⟩)),(3,.pointer (some ⟨h1.size,0,none⟩)),(5,.int .i64 (i:Int))])
  (fun i h'=>h2=h'∧i≤4∧lessS x y=lessFrom x y (4-i) i) (fun i=>4-i) 0 ⟨rfl,rfl,rfl,trivial⟩ ⟨rfl,by omega,rfl⟩ ?_
 rintro i _ ⟨rfl,hi,hl⟩ ih
 refine zgo ?_
 refine Runs.cond_dec rfl (fun hlt=>?_) (fun hge=>?_)
 ·have hlt':i<4:=by omega
  have d1:=x.cell c1 hlt'
  have d2:=y.cell c2 hlt'
  rw [show 4-i=(4-(i+1))+1 by omega,lessFrom] at hl
  refine zgo ?_
  refine Runs.still mixed (by kernel_rfl) ?_
  refine zws ?_
  refine WS.val (ov_indexAddrA tab_ok rfl rfl rfl rfl rfl rfl hlt') rfl rfl rfl ?_
  refine zws ?_
  refine WS.val (ov_indexAddrA tab_ok rfl rfl rfl rfl rfl rfl hlt') rfl rfl rfl ?_
  refine zws ?_
  refine Runs.cond_ndec rfl (fun hne=>?_) (fun heq=>?_)
  ·rw [if_pos hne] at hl
   refine zgo ?_
   refine Runs.still mixed (by kernel_rfl) ?_
   refine zws ?_
   refine WS.val (ov_indexAddrA tab_ok rfl rfl rfl rfl rfl rfl hlt') rfl rfl rfl ?_
   refine zws ?_
   refine WS.val (ov_indexAddrA tab_ok rfl rfl rfl rfl rfl rfl hlt') rfl rfl rfl ?_
   refine zws ?_
   refine zgo ?_
   exact Runs.ret func137 (ret1 results137 rfl) ⟨hx,by rw [hl]⟩
  ·rw [if_neg (by simpa using heq)] at hl
   refine zgo ?_
   exact ih (i+1) _ _ (by omega) ⟨rfl,rfl,rfl,trivial⟩ ⟨rfl,by omega,hl⟩
 ·have hi4:i=4:=by omega
  subst hi4
  refine zgo ?_
  exact Runs.ret func137 (ret1 results137 rfl) ⟨hx,by rw [hl];rfl⟩
end Go.Proofs.YtlaffgagmncgjaaGreatDoor
namespace Go.Proofs.YtlaffgagmncgjaaGreatDoor
open Tryz Go Go.Pat Go.Proofs
theorem plain116:Plain Tryz.prog 135:=⟨_,func135,by decide +kernel,by rfl⟩
def beside (l:LineD):Nat→RefD
 | 0=>l.up
 | _=>l.down
def Bad (ps:List PatchD) (l:LineD) (d:Nat):Prop:=¬ Reach ps d l.ref.p∧¬ Reach ps l.ref.p d
def Orphan (ps:List PatchD) (l:LineD):Prop:=∃ k,k<2∧∃ d∈killersS (beside l k) ps,Bad ps l d
theorem killersS_ids {r:RefD} {ps:List PatchD} {d:Nat} (h:d∈killersS r ps):d∈ps.map PatchD.id:=by
 unfold killersS kills at h
 obtain ⟨p,hp,hd⟩:=List.mem_flatMap.1 h
 obtain ⟨_,_,e⟩:=List.mem_map.1 hd
 exact List.mem_map.2 ⟨p,hp,e⟩
theorem orphan_ret {F:Nat→Prop} (mb b i:Nat) (bs:List Nat) (ps:List PatchD) (al:List LineD) (ld:List (List Bool)) (fx:List Bool) (bl:List Int) (l:LineD) (h:Heap) (hs:SA F h b bs ps) (hcl:Closed ps) (hg:MG h mb b al ld fx bl) (hget:al[i]? = some l)
  (hlid:l.ref.p∈ps.map PatchD.id) (hl:bs.length≤100) (hchl:∀ p∈ps,p.changes.length≤1000) (hnl:∀ p∈ps,p.needs.length≤1000) :
  Ret Tryz.prog 135 #[.pointer (some ⟨mb,0,none⟩),.int .i64 (i:Int)] h fun v h'=>Ext h h'∧∃ r:Bool,v = .bool r∧(r=true↔Orphan ps l):=by
 refine Ret.of_body func135 rfl ntmps135 rfl rfl ?_
 obtain ⟨alv,ldv,fxv,blv,hc,har,_⟩:=hg.out
 have hi:i<al.length:=(List.getElem?_eq_some_iff.1 hget).1
 have f0:=hc.head
 have f1:=hc.tail.head
 obtain ⟨b0,p0,cap0,hv,_,hcells⟩:=har.pos (by omega)
 subst hv
 have hcc:=linesC_get hcells hget
 refine zgo ?_
 refine zv l.one fun h1 hb1 hx1 hs1=>?_
 have e1:Cells h1 h.size (0+2) l.up.cells:=hb1.cells.tail.tail.take 2
 have e2:Cells h1 h.size (0+4) l.down.cells:=hb1.cells.tail.tail.tail.tail.take 2
 refine zgo ?_
 refine WO.lit [.int .i64 (l.up.p:Int),.int .i64 (l.up.i:Int),.int .i64 (l.down.p:Int),.int .i64 (l.down.i:Int)] tab_ok rfl rfl rfl rfl rfl rfl rfl rfl rfl rfl rfl rfl fun h2 hb2 hx2 hs2=>?_
 have hx02:=hx1.trans hx2
 have g0:=hx02.xc f0
 have g5:cellAt h2 h.size (0+0+0)=some (.int .i64 (l.ref.p:Int)):=hx2.xc (hb1.cell (j:=0) rfl)
 have hbes:∀ k,k<2→Cells h2 h1.size (0+k*2) (beside l k).cells:=fun k hk=>by
  rcases k with _ | _ | k
  ·exact hb2.cells.take 2
  ·exact hb2.cells.tail.tail.take 2
  ·omega
 have hs2':=hs.ext hx02
 refine zgo ?_
 refine Runs.loop (X:=Nat) (fun k=>[(0,.pointer (some ⟨mb,0,none⟩)),(5,.pointer (some ⟨h.size,0,none⟩)),(21,.slice (some ⟨h1.size,0,none⟩) 2 2),(22,.int .i64 2),(23,.int .i64 (k:Int))])
  (fun k h'=>k≤2∧Ext h2 h'∧∀ j<k,∀ d∈killersS (beside l j) ps,¬ Bad ps l d) (fun k=>2-k) 0 ⟨rfl,rfl,rfl,rfl,rfl,trivial⟩ ⟨by omega,Fr.refl _ _,fun j hj=>absurd hj (Nat.not_lt_zero _)⟩ ?_
 rintro k h3 ⟨hk,hx3,hno⟩ ih
 refine zgo ?_
 refine Runs.cond_dec rfl (fun hlt=>?_) (fun hge=>?_)
 ·have hlt':k<2:=by omega
  have c3:=hx3.xcs (hbes k hlt')
  have hsn:∀ hB:(∀ d∈killersS (beside l k) ps,¬ Bad ps l d),∀ j<k+1,∀ d∈killersS (beside l j) ps,¬ Bad ps l d:=fun hB j hj=>by
   rcases Nat.lt_succ_iff_lt_or_eq.1 hj with e | e
   ·exact hno j e
   ·subst e;exact hB
  have hyes:∀ d∈killersS (beside l k) ps,Bad ps l d→Orphan ps l:=fun d hd hb=>⟨k,hlt',d,hd,hb⟩
  generalize beside l k=r at *
  refine zgo ?_
  refine zv r.one fun h4 hb4 hx4 hs4=>?_
  have hx24:=hx3.trans hx4
  have q0:=hx24.xc g0
  have q1:Cells h4 h3.size 0 r.cells:=hb4.cells
  refine zgo ?_
  refine Runs.drawn (m:=8) (fun h'=>Ext h4 h') (fun _=>false) mixed rfl ?_
  refine zp 0 (Fr.refl _ _) ?_
  refine zp 1 (Fr.refl _ _) ?_
  refine zp 2 (Fr.refl _ _) ?_
  refine zl 3 (fun _ hS=>(Fr.xc hS q0)) (Fr.refl _ _) ?_
  refine zL 4 (fun _ hS=>(Fr.xcs hS q1)) (Fr.refl _ _) ?_
  refine zp 7 (Fr.refl _ _) ?_
  refine WF.call 5 (by kernel_rfl) rfl rfl rfl rfl rfl plain108 rfl (killers_ret b bs ps r _ (hs2'.ext hx24) hl hchl) fun v5 h5 ⟨hx5,ho5,hm5,hl5⟩=>⟨.inr hx5,?_⟩
  obtain ⟨ad5,cap5,hv5⟩:=ho5.rd.form
  subst hv5
  refine zx 6 hx5 ?_
  refine zd ?_
  have hx25:=hx24.trans hx5
  have hr5:=ho5.rd
  generalize hkl:killersS r ps=kl at *
  have hids:∀ d∈kl,d∈ps.map PatchD.id:=fun d hd=>killersS_ids (by rw [hkl];exact hd)
  refine zgo ?_
  refine Runs.loop (X:=Nat) (fun j=>[(0,.pointer (some ⟨mb,0,none⟩)),(5,.pointer (some ⟨h.size,0,none⟩)),(21,.slice (some ⟨h1.size,0,none⟩) 2 2),(22,.int .i64 2),(23,.int .i64 (k:Int)),(32,.slice ad5 kl.length cap5),(33,.int .i64 (kl.length:Int)),(34,.int .i64 (j:Int))])
   (fun j h'=>j≤kl.length∧Ext h5 h'∧∀ d∈kl.take j,¬ Bad ps l d) (fun j=>kl.length-j) 0 ⟨rfl,rfl,rfl,rfl,rfl,rfl,rfl,rfl,trivial⟩ ⟨by omega,Fr.refl _ _,by simp⟩ ?_
  rintro j h6 ⟨hj,hx6,hno6⟩ ih6
  have hx26:=hx25.trans hx6
  refine zgo ?_
  refine Runs.cond_dec rfl (fun hlt6=>?_) (fun hge6=>?_)
  ·have hlt6':j<kl.length:=by omega
   have hgetj:kl[j]? = some kl[j]:=List.getElem?_eq_getElem hlt6'
   have hmemj:kl[j]∈kl:=List.getElem_mem hlt6'
   have hsnj:kl.take (j+1)=kl.take j++[kl[j]]:=List.take_succ_eq_append_getElem hlt6'
   generalize kl[j]=d at *
   obtain ⟨b7,p7,cap7,hv7,_,c7⟩:=(hr5.ext hx6).cell (ints_get hgetj)
   cases hv7
   have q0:=hx26.xc g0
   have q5:=hx26.xc g5
   have hgo:¬ Bad ps l d→∀ d'∈kl.take (j+1),¬ Bad ps l d':=fun hb d' hd'=>by
    rw [hsnj] at hd'
    rcases List.mem_append.1 hd' with e | e
    ·exact hno6 d' e
    ·simp at e;subst e;exact hb
   refine zgo ?_
   refine Runs.drawn (m:=22) (fun h'=>Ext h6 h') (fun _=>false) mixed rfl ?_
   refine zp 0 (Fr.refl _ _) ?_
   refine zp 1 (Fr.refl _ _) ?_
   refine zp 2 (Fr.refl _ _) ?_
   refine zl 3 (fun _ hS=>(Fr.xc hS q0)) (Fr.refl _ _) ?_
   refine zp 4 (Fr.refl _ _) ?_
   refine zp 5 (Fr.refl _ _) ?_
   refine zp 6 (Fr.refl _ _) ?_
   refine zl 7 (fun _ hS=>(Fr.xc hS q5)) (Fr.refl _ _) ?_
   refine WF.call 8 (by kernel_rfl) rfl rfl rfl rfl rfl plain78 rfl (knows_ret b d l.ref.p bs ps _ (hs2'.ext hx26) hcl (hids d hmemj) hl hnl) fun v8 h8 ⟨hx8,r8,hv8,hr8⟩=>⟨.inr hx8,?_⟩
   subst hv8
   have hx28:=hx26.trans hx8
   cases r8
   ·have hr8':¬ Reach ps d l.ref.p:=fun e=>by have:=hr8.2 e;simp at this
    refine zp 9 hx8 ?_
    refine zp 10 hx8 ?_
    refine zp 11 hx8 ?_
    refine zp 12 hx8 ?_
    refine zp 13 hx8 ?_
    refine zl 14 (fun _ hS=>(Fr.xc hS q0)) hx8 ?_
    refine zp 15 hx8 ?_
    refine zp 16 hx8 ?_
    refine zl 17 (fun _ hS=>(Fr.xc hS q5)) hx8 ?_
    refine zp 18 hx8 ?_
    refine WF.call 19 (by kernel_rfl) rfl rfl rfl rfl rfl plain78 rfl (knows_ret b l.ref.p d bs ps _ (hs2'.ext hx28) hcl hlid hl hnl) fun v9 h9 ⟨hx9,r9,hv9,hr9⟩=>⟨.inr (hx8.trans hx9),?_⟩
    subst hv9
    have hx69:=hx8.trans hx9
    refine zp 20 hx69 ?_
    refine zp 21 hx69 ?_
    refine zd ?_
    cases r9
    ·refine zgo ?_
     have hb:Bad ps l d:=⟨hr8',fun e=>by have:=hr9.2 e;simp at this⟩
     exact Runs.ret func135 (ret1 results135 rfl) ⟨(hx02.trans hx28).trans hx9,true,rfl,⟨fun _=>hyes d hmemj hb,fun _=>rfl⟩⟩
    ·refine zgo ?_
     exact ih6 (j+1) _ _ (by omega) ⟨rfl,rfl,rfl,rfl,rfl,rfl,rfl,rfl,trivial⟩ ⟨hlt6',(hx6.trans hx8).trans hx9,hgo fun e=>e.2 (hr9.1 rfl)⟩
   ·skip
    refine zp 9 hx8 ?_
    refine zp 10 hx8 ?_
    refine zq 11 hx8 ?_
    refine zq 12 hx8 ?_
    refine zq 13 hx8 ?_
    refine zq 14 hx8 ?_
    refine zq 15 hx8 ?_
    refine zq 16 hx8 ?_
    refine zq 17 hx8 ?_
    refine zq 18 hx8 ?_
    refine zq 19 hx8 ?_
    refine zq 20 hx8 ?_
    refine zp 21 hx8 ?_
    refine zd ?_
    refine zgo ?_
    exact ih6 (j+1) _ _ (by omega) ⟨rfl,rfl,rfl,rfl,rfl,rfl,rfl,rfl,trivial⟩ ⟨hlt6',hx6.trans hx8,hgo fun e=>e.1 (hr8.1 rfl)⟩
  ·rw [List.take_of_length_le (by omega)] at hno6
   refine zgo ?_
   exact ih (k+1) _ _ (by omega) ⟨rfl,rfl,rfl,rfl,rfl,trivial⟩ ⟨hlt',hx26,hsn hno6⟩
 ·have hk2:k=2:=by omega
  subst hk2
  refine zgo ?_
  refine Runs.ret func135 (ret1 results135 rfl) ⟨hx02.trans hx3,false,rfl,⟨fun e=>by simp at e,fun ⟨k,hk,d,hd,hb⟩=>absurd hb (hno k hk d hd)⟩⟩
end Go.Proofs.YtlaffgagmncgjaaGreatDoor
