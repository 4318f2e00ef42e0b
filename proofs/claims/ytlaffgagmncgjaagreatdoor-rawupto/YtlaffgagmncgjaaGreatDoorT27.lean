import Derived.Test.YtlaffgagmncgjaaGreatDoorT25
set_option maxRecDepth 20000
set_option maxHeartbeats 1600000
namespace Go.Proofs.YtlaffgagmncgjaaGreatDoor
open Tryz Go Go.Pat Go.Proofs
theorem plain_rClean:Plain Tryz.prog 81:=⟨_,func81,by decide +kernel,by rfl⟩
theorem plain_rFile:Plain Tryz.prog 82:=⟨_,func82,by decide +kernel,by rfl⟩
theorem plain_mClean:Plain Tryz.prog 38:=⟨_,func38,by decide +kernel,by rfl⟩
theorem plain_mFile:Plain Tryz.prog 40:=⟨_,func40,by decide +kernel,by rfl⟩
theorem plain_mCredit:Plain Tryz.prog 50:=⟨_,func50,by decide +kernel,by rfl⟩
theorem plain_mPast:Plain Tryz.prog 52:=⟨_,func52,by decide +kernel,by rfl⟩
structure Mn (F:Nat→Prop) (h:Heap) (mb b:Nat) (bs:List Nat) (ps:List PatchD) (st:Nat→Nat) (orp:Nat→Bool):Prop where
 sa:SA F h b bs ps
 good:Good ps
 cl:Closed ps
 mg:MG h mb b (alS ps) (leadS ps) (fixS ps) (blkS ps)
 hst:∀ i,IsStrand (alS ps).length (leadS ps) (blkS ps) i (st i)
 hor:∀ i l,(alS ps)[i]? = some l→(orp i=true↔Orphan ps l)
theorem Mn.ext {F:Nat→Prop} {h h':Heap} {mb b:Nat} {bs:List Nat} {ps:List PatchD} {st:Nat→Nat} {orp:Nat→Bool} (x:Mn F h mb b bs ps st orp) (f:Ext h h'):Mn F h' mb b bs ps st orp:=⟨x.sa.ext f,x.good,x.cl,x.mg.ext f,x.hst,x.hor⟩
def shL (ps:List PatchD) (st:Nat→Nat) (orp:Nat→Bool):List ShD:=(opOf ps st orp).to (alS ps).length
theorem shL_length (ps:List PatchD) (st:Nat→Nat) (orp:Nat→Bool):(shL ps st orp).length=(alS ps).length:=OP.to_length _ _
theorem alS_600 {ps:List PatchD} (hg:Good ps):(alS ps).length≤600:=Nat.le_trans (alS_len ps) (linesS_len hg)
theorem order_of {F:Nat→Prop} {mb b:Nat} {bs:List Nat} {ps:List PatchD} {st:Nat→Nat} {orp:Nat→Bool} {h:Heap} (x:Mn F h mb b bs ps st orp) :
  Ret Tryz.prog 89 #[.pointer (some ⟨mb,0,none⟩)] h fun v h'=>Ext h h'∧Rd h' 4 v (alS ps).length (shC (shL ps st orp)):=by
 have hbs:bs.length=ps.length:=by obtain ⟨_,_,_,e,_⟩:=x.sa;exact e.1
 have hpl:=x.good.len
 have hal:=alS_600 x.good
 refine order_ret mb b bs ps (alS ps) (opOf ps st orp) h x.sa x.cl x.mg rfl (fun i _=>x.hst i) x.hor (fun l hl=>?_) (by omega) (fun p hp=>by have:=(x.good.ok p hp).len;omega) (fun p hp=>by have:=(x.good.ok p hp).nlen;omega) (by omega)
 obtain ⟨p,hp,e,_⟩:=linesS_mem (alS_mem hl)
 exact List.mem_map.2 ⟨p,hp,e.symm⟩
def cleanS (L:List ShD):Bool:=L.all fun s=>decide (s.mark=32)
theorem rClean_ret {F:Nat→Prop} {mb b:Nat} {bs:List Nat} {ps:List PatchD} {st:Nat→Nat} {orp:Nat→Bool} {h:Heap} (x:Mn F h mb b bs ps st orp) :
  Ret Tryz.prog 81 #[.pointer (some ⟨mb,0,none⟩)] h fun v h'=>Ext h h'∧v = .bool (cleanS (shL ps st orp)):=by
 refine Ret.of_body func81 rfl ntmps81 rfl rfl ?_
 have hal:=alS_600 x.good
 refine zgo ?_
 refine WO.call rfl rfl rfl rfl plain90 rfl (order_of x) fun v1 h1 ⟨hx1,hr1⟩=>?_
 have hll:=shL_length ps st orp
 generalize shL ps st orp=L at *
 rw [← hll] at hr1 hal
 obtain ⟨ad,cap,hv⟩:=hr1.form
 subst hv
 refine zgo ?_
 refine Runs.loop (X:=Nat) (fun i=>[(6,.slice ad L.length cap),(7,.int .i64 (L.length:Int)),(8,.int .i64 (i:Int))])
  (fun i h'=>Ext h1 h'∧i≤L.length∧∀ s∈L.take i,s.mark=32) (fun i=>L.length-i) 0 ⟨rfl,rfl,rfl,trivial⟩ ⟨Fr.refl _ _,Nat.zero_le _,by simp⟩ ?_
 rintro i h2 ⟨hx2,hi,hall⟩ ih
 refine zgo ?_
 refine Runs.cond_dec rfl (fun hlt=>?_) (fun hge=>?_)
 rotate_left
 ·rw [List.take_of_length_le (by omega)] at hall
  refine zgo ?_
  refine Runs.ret func81 (ret1 results81 rfl) ⟨hx1.trans hx2,?_⟩
  congr 1;symm
  exact List.all_eq_true.2 fun s hs=>decide_eq_true (hall s hs)
 have hlt':i<L.length:=by omega
 have hget:L[i]? = some L[i]:=List.getElem?_eq_getElem hlt'
 have hmem:L[i]∈L:=List.getElem_mem hlt'
 have hsn:L.take (i+1)=L.take i++[L[i]]:=List.take_succ_eq_append_getElem hlt'
 generalize L[i]=s at *
 obtain ⟨b0,p0,cap0,hv0,_,hcs⟩:=(hr1.ext hx2).pos (by omega)
 cases hv0
 have hsc:=shC_get hcs hget
 refine zgo ?_
 refine zv s.one fun h3 hb3 hx3 hs3=>?_
 have c1:=hb3.cell (j:=1) rfl
 refine zgo ?_
 refine Runs.cond_ndec rfl (fun hne=>?_) (fun heq=>?_)
 ·refine zgo ?_
  refine Runs.ret func81 (ret1 results81 rfl) ⟨(hx1.trans hx2).trans hx3,?_⟩
  congr 1;symm
  exact List.all_eq_false.2 ⟨s,hmem,by simp;omega⟩
 ·refine zgo ?_
  refine ih (i+1) _ _ (by omega) ⟨rfl,rfl,rfl,trivial⟩ ⟨hx2.trans hx3,hlt',fun q hq=>?_⟩
  rw [hsn] at hq
  rcases List.mem_append.1 hq with e | e
  ·exact hall q e
  ·simp at e;subst e;omega
def textAt (al:List LineD) (s:ShD):List UInt8:=match al[s.i]? with
 | some l=>l.text
 | none=>[]
def nameAt (al:List LineD) (s:ShD):Nat:=match al[s.i]? with
 | some l=>l.ref.p
 | none=>0
theorem rFile_ret {F:Nat→Prop} {mb b:Nat} {bs:List Nat} {ps:List PatchD} {st:Nat→Nat} {orp:Nat→Bool} {h:Heap} (x:Mn F h mb b bs ps st orp) :
  Ret Tryz.prog 82 #[.pointer (some ⟨mb,0,none⟩)] h fun v h'=>Ext h h'∧Own h' 9 1 v ((shL ps st orp).map (textAt (alS ps))).length (strs ((shL ps st orp).map (textAt (alS ps)))):=by
 refine Ret.of_body func82 rfl ntmps82 rfl rfl ?_
 have hal:=alS_600 x.good
 obtain ⟨alv,ldv,fxv,blv,hc,har,_⟩:=x.mg.out
 have f1:=hc.tail.head
 obtain ⟨ada,capa,hva⟩:=har.form
 subst hva
 refine zgo ?_
 refine WO.call rfl rfl rfl rfl plain90 rfl (order_of x) fun v1 h1 ⟨hx1,hr1⟩=>?_
 have hll:=shL_length ps st orp
 have hmi:=(opOf ps st orp).to_mem (alS ps).length
 have hdef:(opOf ps st orp).to (alS ps).length=shL ps st orp:=rfl
 rw [hdef] at hmi
 generalize shL ps st orp=L at *
 rw [← hll] at hr1
 obtain ⟨ad,cap,hv⟩:=hr1.form
 subst hv
 refine zgo ?_
 refine Runs.loop (X:=IV) (fun u=>[(0,.pointer (some ⟨mb,0,none⟩)),(3,u.v),(7,.slice ad L.length cap),(8,.int .i64 (L.length:Int)),(9,.int .i64 (u.i:Int))])
  (fun u h'=>u.i≤L.length∧Ext h1 h'∧Own h' 9 1 u.v ((L.take u.i).map (textAt (alS ps))).length (strs ((L.take u.i).map (textAt (alS ps))))∧(∀ k,u.v.ownBlock=some k→h1.size≤k))
  (fun u=>L.length-u.i) ⟨0,.slice none 0 0⟩ ⟨rfl,rfl,rfl,rfl,rfl,trivial⟩ ⟨Nat.zero_le _,Fr.refl _ _,Own.nil _ _ _,fun k hk=>by simp [Value.ownBlock] at hk⟩ ?_
 rintro ⟨i,v⟩ h2 ⟨hi,hx2,ho2,hm2⟩ ih
 dsimp only at hi hx2 ho2 hm2 ih ⊢
 have hz2:=hx2.size
 refine zgo ?_
 refine Runs.cond_dec rfl (fun hlt=>?_) (fun hge=>?_)
 rotate_left
 ·rw [List.take_of_length_le (by omega)] at ho2
  refine zgo ?_
  exact Runs.ret func82 (ret1 results82 rfl) ⟨hx1.trans hx2,ho2⟩
 have hlt':i<L.length:=by omega
 have hget:L[i]? = some L[i]:=List.getElem?_eq_getElem hlt'
 have hsi:=(hmi L[i] (List.getElem_mem hlt')).1
 have hsn:(L.take (i+1)).map (textAt (alS ps))=(L.take i).map (textAt (alS ps))++[textAt (alS ps) L[i]]:=by rw [List.take_succ_eq_append_getElem hlt',List.map_append];rfl
 have hfl:((L.take i).map (textAt (alS ps))).length≤i:=by simp;omega
 generalize L[i]=s at *
 have hga:(alS ps)[s.i]? = some (alS ps)[s.i]:=List.getElem?_eq_getElem hsi
 have hta:textAt (alS ps) s=(alS ps)[s.i].text:=by unfold textAt;rw [hga]
 rw [hta] at hsn
 generalize (alS ps)[s.i]=ln at *
 obtain ⟨b0,p0,cap0,hv0,_,hcs⟩:=(hr1.ext hx2).pos (by omega)
 cases hv0
 have hsc:=shC_get hcs hget
 refine zgo ?_
 refine zv s.one fun h3 hb3 hx3 hs3=>?_
 have hx13:=hx2.trans hx3
 have hx03:=hx1.trans hx13
 obtain ⟨ba,pa,capa',hva',_,hca⟩:=(har.ext hx03).pos (by omega)
 cases hva'
 have hlc:=linesC_get hca hga
 have hlt6:cellAt h3 ba (pa+s.i*7+6)=some (.string (str ln.text)):=hlc 6 _ rfl
 have hS0:Ext h3 h3:=Fr.refl _ _
 have hbl:ba<h1.size:=lt_of_cell (Fr.xc (Fr.refl _ _) (linesC_get ((har.ext hx1).cells_of) hga 6 _ rfl))
 have f3:=hx03.xc f1
 have c0:cellAt h3 h2.size (0+0)=some (.int .i64 (s.i:Int)):=hb3.cell (j:=0) rfl
 have hmb:mb<h.size:=lt_of_cell f1
 have hz1:=hx1.size
 have hlv:=ho2.lt
 have hS:cellAt h3 mb (0+1)=some (.slice (some ⟨ba,pa,none⟩) (alS ps).length capa)∧cellAt h3 h2.size (0+0)=some (.int .i64 (s.i:Int))∧cellAt h3 ba (pa+s.i*7+6)=some (.string (str ln.text)):=⟨f3,c0,hlt6⟩
 have hSS:∀ h',Fr (fun k=>v.ownBlock=some k) h3 h'→cellAt h' mb (0+1)=some (.slice (some ⟨ba,pa,none⟩) (alS ps).length capa)∧cellAt h' h2.size (0+0)=some (.int .i64 (s.i:Int))∧cellAt h' ba (pa+s.i*7+6)=some (.string (str ln.text)):=fun h' hf =>
  ⟨hf.cell (fun e=>by have:=hm2 _ e;omega) f3,hf.cell (fun e=>by have:=hlv _ e;omega) c0,hf.cell (fun e=>by have:=hm2 _ e;omega) hlt6⟩
 clear hS0
 refine zgo ?_
 refine Runs.drawn (m:=13) (fun h'=>cellAt h' mb (0+1)=some (.slice (some ⟨ba,pa,none⟩) (alS ps).length capa)∧cellAt h' h2.size (0+0)=some (.int .i64 (s.i:Int))∧cellAt h' ba (pa+s.i*7+6)=some (.string (str ln.text))) (fun _=>false) mixed rfl ?_
 refine zp 0 hS ?_
 refine zp 1 hS ?_
 refine zp 2 hS ?_
 refine zp 3 hS ?_
 refine zl 4 (fun _ hS=>hS.1) hS ?_
 refine zp 5 hS ?_
 refine zl 6 (fun _ hS=>hS.2.1) hS ?_
 refine zi 7 hsi hS ?_
 refine zp 8 hS ?_
 refine zl 9 (fun _ hS=>hS.2.2) hS ?_
 refine WF.push 10 11 tab_ok (by kernel_rfl) (by kernel_rfl) rfl rfl rfl rfl rfl rfl rfl rfl rfl rfl rfl rfl rfl rfl rfl rfl rfl rfl rfl (by simp) (one_str _) (ho2.fr hx3 (by simp)) (by omega) hSS ?_
 intro v4 h4 o1 o2 o3
 refine zx 12 ((hSS _ o2)) ?_
 refine zd ?_
 refine zgo ?_
 refine ih ⟨i+1,v4⟩ _ _ (by dsimp only;omega) ⟨rfl,rfl,rfl,rfl,rfl,trivial⟩ ⟨hlt',hx13.trans_new (o2.mono fun k _ e=>.inr (hm2 k e)),?_,fun k hk=>?_⟩
 ·dsimp only;rw [hsn,strs_append,List.length_append];exact o1
 ·rcases o3 k hk with e | e
  ·exact hm2 k e
  ·omega
section
variable {F:Nat→Prop} {bm b:Nat} {bs:List Nat} {ps:List PatchD} {st:Nat→Nat} {orp:Nat→Bool}
theorem of_mn {h:Heap} (hs:SA F h b bs ps) (hg:Good ps) (hcl:Closed ps) (hst:∀ i,IsStrand (alS ps).length (leadS ps) (blkS ps) i (st i)) (hor:∀ i l,(alS ps)[i]? = some l→(orp i=true↔Orphan ps l)) :
  Ret Tryz.prog 78 #[.pointer (some ⟨b,0,none⟩)] h fun v h'=>Ext h h'∧∃ mb:Nat,v = .pointer (some ⟨mb,0,none⟩)∧Mn F h' mb b bs ps st orp:=by
 have hbs:bs.length=ps.length:=by obtain ⟨_,_,_,e,_⟩:=hs;exact e.1
 have hpl:=hg.len
 have hll:=linesS_len hg
 refine (of_ret b bs ps h hs (by omega) (fun p hp=>by have:=(hg.ok p hp).len;omega) (by omega)).mono fun v h' ⟨hx,mb,hv,hm⟩=>⟨hx,mb,hv,hs.ext hx,hg,hcl,hm,hst,hor⟩
theorem mClean_ret {h:Heap} (hb:Blk h bm [.pointer (some ⟨b,0,none⟩)] 61) (hs:SA F h b bs ps) (hg:Good ps) (hcl:Closed ps) (hst:∀ i,IsStrand (alS ps).length (leadS ps) (blkS ps) i (st i)) (hor:∀ i l,(alS ps)[i]? = some l→(orp i=true↔Orphan ps l)) :
  Ret Tryz.prog 38 #[.pointer (some ⟨bm,0,none⟩)] h fun v h'=>Ext h h'∧v = .bool (cleanS (shL ps st orp)):=by
 refine Ret.of_body func38 rfl ntmps38 rfl rfl ?_
 have m0:=hb.cell (j:=0) rfl
 refine zgo ?_
 refine WO.call rfl rfl rfl rfl plain_Of rfl (of_mn hs hg hcl hst hor) fun v1 h1 ⟨hx1,mb,hv1,x1⟩=>?_
 subst hv1
 refine zgo ?_
 refine WO.call rfl rfl rfl rfl plain_rClean rfl (rClean_ret x1) fun v2 h2 ⟨hx2,hv2⟩=>?_
 subst hv2
 refine zgo ?_
 exact Runs.ret func38 (ret1 results38 rfl) ⟨hx1.trans hx2,rfl⟩
def FileM (L:List ShD) (al:List LineD) (v:Value) (h':Heap):Prop :=
 (cleanS L=false∧v = .tuple #[.slice none 0 0,.int .i64 10])∨(cleanS L=true∧∃ w,v = .tuple #[w,.int .i64 0]∧Own h' 9 1 w (L.map (textAt al)).length (strs (L.map (textAt al))))
theorem mFile_ret {h:Heap} (hb:Blk h bm [.pointer (some ⟨b,0,none⟩)] 61) (hs:SA F h b bs ps) (hg:Good ps) (hcl:Closed ps) (hst:∀ i,IsStrand (alS ps).length (leadS ps) (blkS ps) i (st i)) (hor:∀ i l,(alS ps)[i]? = some l→(orp i=true↔Orphan ps l)) :
  Ret Tryz.prog 40 #[.pointer (some ⟨bm,0,none⟩)] h fun v h'=>Ext h h'∧FileM (shL ps st orp) (alS ps) v h':=by
 refine Ret.of_body func40 rfl ntmps40 rfl rfl ?_
 have m0:=hb.cell (j:=0) rfl
 refine zgo ?_
 refine WO.call rfl rfl rfl rfl plain_Of rfl (of_mn hs hg hcl hst hor) fun v1 h1 ⟨hx1,mb,hv1,x1⟩=>?_
 subst hv1
 refine zgo ?_
 refine WO.call rfl rfl rfl rfl plain_rClean rfl (rClean_ret x1) fun v2 h2 ⟨hx2,hv2⟩=>?_
 subst hv2
 cases hC:cleanS (shL ps st orp)
 ·refine zgo ?_
  exact Runs.ret func40 (ret2 results40 rfl rfl) ⟨hx1.trans hx2,.inl ⟨hC,rfl⟩⟩
 ·refine zgo ?_
  refine WO.call rfl rfl rfl rfl plain_rFile rfl (rFile_ret (x1.ext hx2)) fun v3 h3 ⟨hx3,ho3⟩=>?_
  refine zgo ?_
  exact Runs.ret func40 (ret2 results40 rfl rfl) ⟨(hx1.trans hx2).trans hx3,.inr ⟨hC,v3,rfl,ho3⟩⟩
end
end Go.Proofs.YtlaffgagmncgjaaGreatDoor
namespace Go.Proofs.YtlaffgagmncgjaaGreatDoor
open Tryz Go Go.Pat Go.Proofs
section
variable {F:Nat→Prop} {bm b:Nat} {bs:List Nat} {ps:List PatchD} {st:Nat→Nat} {orp:Nat→Bool}
theorem mCredit_ret {h:Heap} (hb:Blk h bm [.pointer (some ⟨b,0,none⟩)] 61) (hs:SA F h b bs ps) (hg:Good ps) (hcl:Closed ps) (hst:∀ i,IsStrand (alS ps).length (leadS ps) (blkS ps) i (st i)) (hor:∀ i l,(alS ps)[i]? = some l→(orp i=true↔Orphan ps l)) :
  Ret Tryz.prog 50 #[.pointer (some ⟨bm,0,none⟩)] h fun v h'=>Ext h h'∧Own h' 3 1 v ((shL ps st orp).map (nameAt (alS ps))).length (ints ((shL ps st orp).map (nameAt (alS ps)))):=by
 refine Ret.of_body func50 rfl ntmps50 rfl rfl ?_
 have m0:=hb.cell (j:=0) rfl
 refine zgo ?_
 refine WO.call rfl rfl rfl rfl plain_Of rfl (of_mn hs hg hcl hst hor) fun v0 h0 ⟨hx0,mb,hv0,x⟩=>?_
 subst hv0
 have hal:=alS_600 x.good
 obtain ⟨alv,ldv,fxv,blv,hc,har,_⟩:=x.mg.out
 have f1:=hc.tail.head
 obtain ⟨ada,capa,hva⟩:=har.form
 subst hva
 refine zgo ?_
 refine WO.call rfl rfl rfl rfl plain90 rfl (order_of x) fun v1 h1 ⟨hx1,hr1⟩=>?_
 have hll:=shL_length ps st orp
 have hmi:=(opOf ps st orp).to_mem (alS ps).length
 have hdef:(opOf ps st orp).to (alS ps).length=shL ps st orp:=rfl
 rw [hdef] at hmi
 generalize shL ps st orp=L at *
 rw [← hll] at hr1
 obtain ⟨ad,cap,hv⟩:=hr1.form
 subst hv
 refine zgo ?_
 refine Runs.loop (X:=IV) (fun u=>[(3,.pointer (some ⟨mb,0,none⟩)),(4,u.v),(13,.slice ad L.length cap),(14,.int .i64 (L.length:Int)),(15,.int .i64 (u.i:Int))])
  (fun u h'=>u.i≤L.length∧Ext h1 h'∧Own h' 3 1 u.v ((L.take u.i).map (nameAt (alS ps))).length (ints ((L.take u.i).map (nameAt (alS ps))))∧(∀ k,u.v.ownBlock=some k→h1.size≤k))
  (fun u=>L.length-u.i) ⟨0,.slice none 0 0⟩ ⟨rfl,rfl,rfl,rfl,rfl,trivial⟩ ⟨Nat.zero_le _,Fr.refl _ _,Own.nil _ _ _,fun k hk=>by simp [Value.ownBlock] at hk⟩ ?_
 rintro ⟨i,v⟩ h2 ⟨hi,hx2,ho2,hm2⟩ ih
 dsimp only at hi hx2 ho2 hm2 ih ⊢
 have hz2:=hx2.size
 refine zgo ?_
 refine Runs.cond_dec rfl (fun hlt=>?_) (fun hge=>?_)
 rotate_left
 ·rw [List.take_of_length_le (by omega)] at ho2
  refine zgo ?_
  exact Runs.ret func50 (ret1 results50 rfl) ⟨(hx0.trans hx1).trans hx2,ho2⟩
 have hlt':i<L.length:=by omega
 have hget:L[i]? = some L[i]:=List.getElem?_eq_getElem hlt'
 have hsi:=(hmi L[i] (List.getElem_mem hlt')).1
 have hsn:(L.take (i+1)).map (nameAt (alS ps))=(L.take i).map (nameAt (alS ps))++[nameAt (alS ps) L[i]]:=by rw [List.take_succ_eq_append_getElem hlt',List.map_append];rfl
 have hfl:((L.take i).map (nameAt (alS ps))).length≤i:=by simp;omega
 generalize L[i]=s at *
 have hga:(alS ps)[s.i]? = some (alS ps)[s.i]:=List.getElem?_eq_getElem hsi
 have hta:nameAt (alS ps) s=(alS ps)[s.i].ref.p:=by unfold nameAt;rw [hga]
 rw [hta] at hsn
 generalize (alS ps)[s.i]=ln at *
 obtain ⟨b0,p0,cap0,hv0,_,hcs⟩:=(hr1.ext hx2).pos (by omega)
 cases hv0
 have hsc:=shC_get hcs hget
 refine zgo ?_
 refine zv s.one fun h3 hb3 hx3 hs3=>?_
 have hx13:=hx2.trans hx3
 have hx03:=hx1.trans hx13
 obtain ⟨ba,pa,capa',hva',_,hca⟩:=(har.ext hx03).pos (by omega)
 cases hva'
 have hlc:=linesC_get hca hga
 have hlt6:cellAt h3 ba (pa+s.i*7+0+0)=some (.int .i64 (ln.ref.p:Int)):=hlc 0 _ rfl
 have hbl:ba<h1.size:=lt_of_cell (Fr.xc (Fr.refl _ _) (linesC_get ((har.ext hx1).cells_of) hga 6 _ rfl))
 have f3:=hx03.xc f1
 have c0:cellAt h3 h2.size (0+0)=some (.int .i64 (s.i:Int)):=hb3.cell (j:=0) rfl
 have hmb:mb<h0.size:=lt_of_cell f1
 have hz1:=hx1.size
 have hlv:=ho2.lt
 have hS:cellAt h3 mb (0+1)=some (.slice (some ⟨ba,pa,none⟩) (alS ps).length capa)∧cellAt h3 h2.size (0+0)=some (.int .i64 (s.i:Int))∧cellAt h3 ba (pa+s.i*7+0+0)=some (.int .i64 (ln.ref.p:Int)):=⟨f3,c0,hlt6⟩
 have hSS:∀ h',Fr (fun k=>v.ownBlock=some k) h3 h'→cellAt h' mb (0+1)=some (.slice (some ⟨ba,pa,none⟩) (alS ps).length capa)∧cellAt h' h2.size (0+0)=some (.int .i64 (s.i:Int))∧cellAt h' ba (pa+s.i*7+0+0)=some (.int .i64 (ln.ref.p:Int)):=fun h' hf =>
  ⟨hf.cell (fun e=>by have:=hm2 _ e;omega) f3,hf.cell (fun e=>by have:=hlv _ e;omega) c0,hf.cell (fun e=>by have:=hm2 _ e;omega) hlt6⟩
 refine zgo ?_
 refine Runs.drawn (m:=14) (fun h'=>cellAt h' mb (0+1)=some (.slice (some ⟨ba,pa,none⟩) (alS ps).length capa)∧cellAt h' h2.size (0+0)=some (.int .i64 (s.i:Int))∧cellAt h' ba (pa+s.i*7+0+0)=some (.int .i64 (ln.ref.p:Int))) (fun _=>false) mixed rfl ?_
 refine zp 0 hS ?_
 refine zp 1 hS ?_
 refine zp 2 hS ?_
 refine zp 3 hS ?_
 refine zl 4 (fun _ hS=>hS.1) hS ?_
 refine zp 5 hS ?_
 refine zl 6 (fun _ hS=>hS.2.1) hS ?_
 refine zi 7 hsi hS ?_
 refine zp 8 hS ?_
 refine zp 9 hS ?_
 refine zl 10 (fun _ hS=>hS.2.2) hS ?_
 refine WF.push 11 12 tab_ok (by kernel_rfl) (by kernel_rfl) rfl rfl rfl rfl rfl rfl rfl rfl rfl rfl rfl rfl rfl rfl rfl rfl rfl rfl rfl (by simp) (one_int _) (ho2.fr hx3 (by simp)) (by omega) hSS ?_
 intro v4 h4 o1 o2 o3
 refine zx 13 ((hSS _ o2)) ?_
 refine zd ?_
 refine zgo ?_
 refine ih ⟨i+1,v4⟩ _ _ (by dsimp only;omega) ⟨rfl,rfl,rfl,rfl,rfl,trivial⟩ ⟨hlt',hx13.trans_new (o2.mono fun k _ e=>.inr (hm2 k e)),?_,fun k hk=>?_⟩
 ·dsimp only;rw [hsn,ints_append,List.length_append];exact o1
 ·rcases o3 k hk with e | e
  ·exact hm2 k e
  ·omega
def PastM (ps:List PatchD) (q:Int) (v:Value) (h':Heap):Prop :=
 ((∀ p∈ps,(p.id:Int)≠q)∧v = .tuple #[.slice none 0 0,.int .i64 8]) ∨
 ∃ p∈ps,(p.id:Int)=q∧∃ (w:Value) (f:Nat→Bool),v = .tuple #[w,.int .i64 0]∧(∀ n,f n=true↔n≠p.id∧Reach ps p.id n)∧Own h' 3 1 w ((idsS ps).filter f).length (ints ((idsS ps).filter f))
theorem mPast_ret (q:Int) {h:Heap} (hb:Blk h bm [.pointer (some ⟨b,0,none⟩)] 61) (hs:SA F h b bs ps) (hg:Good ps) (hcl:Closed ps) :
  Ret Tryz.prog 52 #[.pointer (some ⟨bm,0,none⟩),.int .i64 q] h fun v h'=>Ext h h'∧PastM ps q v h':=by
 refine Ret.of_body func52 rfl ntmps52 rfl rfl ?_
 have m0:=hb.cell (j:=0) rfl
 have hps:PAs F h bs ps:=by obtain ⟨_,_,_,e,_⟩:=hs;exact e
 have hbs:bs.length=ps.length:=hps.1
 have hpl:=hg.len
 have hnd:∀ p∈ps,p.needs.length≤1000:=fun p hp=>by have:=(hg.ok p hp).nlen;omega
 refine zgo ?_
 refine WO.call rfl rfl rfl rfl plain60 rfl (get_ret b bs ps q _ hs (by omega)) fun v1 h1 ⟨hh1,hgot⟩=>?_
 subst hh1
 obtain ⟨i0,bb0,p0,_,hpi0,hpq,rfl⟩ | ⟨hno,rfl⟩:=hgot
 rotate_left
 ·refine zgo ?_
  exact Runs.ret func52 (ret2 results52 rfl rfl) ⟨Fr.refl _ _,.inl ⟨hno,rfl⟩⟩
 have hpm0:p0∈ps:=List.mem_of_getElem? hpi0
 have hf:∃ f:Nat→Bool,∀ n,f n=true↔n≠p0.id∧Reach ps p0.id n:=⟨fun n=>@decide (n≠p0.id∧Reach ps p0.id n) (Classical.propDecidable _),fun n=>by rw [@decide_eq_true_iff _ (Classical.propDecidable _)]⟩
 obtain ⟨f,hf⟩:=hf
 have hsa:=hs
 obtain ⟨lv,hcs,hrl,_,_,_⟩:=hs
 have s0:=hcs.head
 obtain ⟨ad,cap,hlv⟩:=hrl.form
 subst hlv
 subst hpq
 refine zgo ?_
 refine Runs.loop (X:=IV) (fun u=>[(0,.pointer (some ⟨bm,0,none⟩)),(1,.int .i64 (p0.id:Int)),(6,u.v),(22,.slice ad bs.length cap),(23,.int .i64 (bs.length:Int)),(24,.int .i64 (u.i:Int))])
  (fun u h'=>u.i≤bs.length∧Ext h1 h'∧Own h' 3 1 u.v ((idsS (ps.take u.i)).filter f).length (ints ((idsS (ps.take u.i)).filter f))∧(∀ k,u.v.ownBlock=some k→h1.size≤k))
  (fun u=>bs.length-u.i) ⟨0,.slice none 0 0⟩ ⟨rfl,rfl,rfl,rfl,rfl,rfl,trivial⟩ ⟨Nat.zero_le _,Fr.refl _ _,Own.nil _ _ _,fun k hk=>by simp [Value.ownBlock] at hk⟩ ?_
 rintro ⟨i,v⟩ h2 ⟨hi,hx2,ho2,hm2⟩ ih
 dsimp only at hi hx2 ho2 hm2 ih ⊢
 have hz2:=hx2.size
 refine zgo ?_
 refine Runs.cond_dec rfl (fun hlt=>?_) (fun hge=>?_)
 rotate_left
 ·rw [List.take_of_length_le (by omega)] at ho2
  refine zgo ?_
  exact Runs.ret func52 (ret2 results52 rfl rfl) ⟨hx2,.inr ⟨p0,hpm0,rfl,v,f,rfl,hf,ho2⟩⟩
 have hlt':i<bs.length:=by omega
 have hltp:i<ps.length:=by omega
 have hget:bs[i]? = some bs[i]:=List.getElem?_eq_getElem hlt'
 have hgetp:ps[i]? = some ps[i]:=List.getElem?_eq_getElem hltp
 have hsn:(idsS (ps.take (i+1))).filter f=(idsS (ps.take i)).filter f++(if f ps[i].id=true then [ps[i].id] else []):=by
  unfold idsS;rw [List.take_succ_eq_append_getElem hltp,List.map_append,List.filter_append]
  congr 1
  simp only [List.map_cons,List.map_nil]
  cases h:f ps[i].id<;>simp [h]
 have hfl:((idsS (ps.take i)).filter f).length≤i:=by
  refine Nat.le_trans (List.length_filter_le _ _) ?_
  simp [idsS];omega
 generalize bs[i]=bb at *
 generalize ps[i]=p at *
 obtain ⟨nv,cv,hpc,_,_,_⟩:=hps.2 i bb p hget hgetp
 obtain ⟨b5,p5,cap5,hv5,_,hcell⟩:=(hrl.ext hx2).cell (ptrs_get hget)
 cases hv5
 have g0:cellAt h2 bb (0+0)=some (.int .i64 (p.id:Int)):=hx2.xc hpc.head
 have m2:=hx2.xc m0
 have sa2:SA F h2 b bs ps:=hsa.ext hx2
 have hR:Ext h2 h2:=Fr.refl _ _
 refine zgo ?_
 refine Runs.joinK (fun env' h'=>∃ r:Bool,Sub [(0,.pointer (some ⟨bm,0,none⟩)),(1,.int .i64 (p0.id:Int)),(6,v),(8,.pointer (some ⟨bb,0,none⟩)),(22,.slice (some ⟨b5,p5,none⟩) bs.length cap),(23,.int .i64 (bs.length:Int)),(24,.int .i64 (i:Int)),(45,.bool r)] env'∧Ext h2 h'∧r=f p.id) (fun _ hJ=>?_) ?_
 ·refine Runs.drawn (m:=18) (fun h'=>Ext h2 h') (fun _=>false) mixed rfl ?_
  refine zp 0 hR ?_
  refine zp 1 hR ?_
  refine zp 2 hR ?_
  refine zl 3 (fun _ hS=>(Fr.xc hS g0)) hR ?_
  refine zp 4 hR ?_
  refine zp 5 hR ?_
  refine zp 6 hR ?_
  by_cases he:p.id=p0.id
  ·have hd:decide ((p.id:Int)=(p0.id:Int))=true:=decide_eq_true (by omega)
   rw [hd]
   have hf0:f p.id=false:=by
    cases h:f p.id
    ·rfl
    ·exact absurd he ((hf p.id).1 h).1
   refine zq 7 hR ?_
   refine zq 8 hR ?_
   refine zq 9 hR ?_
   refine zq 10 hR ?_
   refine zq 11 hR ?_
   refine zq 12 hR ?_
   refine zq 13 hR ?_
   refine zq 14 hR ?_
   refine zq 15 hR ?_
   refine zq 16 hR ?_
   refine zp 17 hR ?_
   refine zd ?_
   exact hJ _ _ ⟨false,⟨rfl,rfl,rfl,rfl,rfl,rfl,rfl,rfl,trivial⟩,hR,hf0.symm⟩
  ·have hd:decide ((p.id:Int)=(p0.id:Int))=false:=decide_eq_false (by omega)
   rw [hd]
   refine zp 7 hR ?_
   refine zp 8 hR ?_
   refine zp 9 hR ?_
   refine zl 10 (fun _ hS=>(Fr.xc hS m2)) hR ?_
   refine zp 11 hR ?_
   refine zp 12 hR ?_
   refine zp 13 hR ?_
   refine zp 14 hR ?_
   refine zl 15 (fun _ hS=>(Fr.xc hS g0)) hR ?_
   refine WF.call 16 (by kernel_rfl) rfl rfl rfl rfl rfl plain78 rfl (knows_ret b p0.id p.id bs ps _ sa2 hcl (List.mem_map.2 ⟨p0,hpm0,rfl⟩) (by omega) hnd) fun v3 h3 ⟨hx3,r,hv3,hr3⟩=>⟨.inr hx3,?_⟩
   subst hv3
   refine zp 17 hx3 ?_
   refine zd ?_
   refine hJ _ _ ⟨r,⟨rfl,rfl,rfl,rfl,rfl,rfl,rfl,rfl,trivial⟩,hx3,?_⟩
   rw [Bool.eq_iff_iff,hr3,hf]
   exact ⟨fun e=>⟨he,e⟩,fun e=>e.2⟩
 rintro env' h3 ⟨r,hsub,hx3,hr⟩
 refine Runs.sub hsub ?_
 clear hsub env'
 have g3:=hx3.xc g0
 have ho3:=ho2.fr hx3 (by simp)
 have hz3:=hx3.size
 rw [← hr] at hsn
 cases r
 ·rw [if_neg (by simp),List.append_nil] at hsn
  refine zgo ?_
  exact ih ⟨i+1,v⟩ _ _ (by dsimp only;omega) ⟨rfl,rfl,rfl,rfl,rfl,rfl,trivial⟩ ⟨hlt',hx2.trans hx3,by dsimp only;rw [hsn];exact ho3,hm2⟩
 ·rw [if_pos rfl] at hsn
  refine zgo ?_
  refine zh (one_int _) ho3 ?_
  intro v4 h4 o1 o2 o3
  refine zgo ?_
  refine ih ⟨i+1,v4⟩ _ _ (by dsimp only;omega) ⟨rfl,rfl,rfl,rfl,rfl,rfl,trivial⟩ ⟨hlt',(hx2.trans hx3).trans_new (o2.mono fun k _ e=>.inr (hm2 k e)),?_,fun k hk=>?_⟩
  ·dsimp only;rw [hsn,ints_append,List.length_append];exact o1
  ·rcases o3 k hk with e | e
   ·exact hm2 k e
   ·omega
end
end Go.Proofs.YtlaffgagmncgjaaGreatDoor
