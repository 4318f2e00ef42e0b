import Derived.Test.YtlaffgagmncgjaaGreatDoorT11
set_option maxRecDepth 20000
set_option maxHeartbeats 3200000
namespace Go.Proofs.YtlaffgagmncgjaaGreatDoor
open Tryz Go Go.Pat Go.Proofs
structure Good (ps:List PatchD):Prop where
 ok:∀ p∈ps,PatchD.ok p
 len:ps.length≤20
 nodup:(ps.map PatchD.id).Nodup
theorem find_eq {ps:List PatchD} (h:(ps.map PatchD.id).Nodup) {old:PatchD} {n:Nat} (hm:old∈ps) (he:old.id=n):ps.find? (fun q=>decide (q.id=n))=some old:=by
 cases hf:ps.find? (fun q=>decide (q.id=n)) with
 | none=>rw [List.find?_eq_none] at hf;exact absurd he (by simpa using hf old hm)
 | some x =>
  have h1:=List.mem_of_find?_eq_some hf
  have h2:=List.find?_some hf
  simp at h2
  rw [ids_inj h h1 hm (by rw [h2,he])]
def lineBad (ls:List LineD) (c:ChangeD):Bool:=!hasS ls c.up||(!decide (c.kind=2) && !hasS ls c.down)
def applyS (ps:List PatchD) (t:List UInt8):Nat × List PatchD :=
 match parseS t with
 | none=>(1,ps)
 | some p =>
  if formedS p=false then (2,ps) else
  match ps.find? fun q=>decide (q.id=p.id) with
  | some old=>if textS old=t then (3,ps) else (4,ps)
  | none =>
   if p.needs.all (fun n=>(ps.map PatchD.id).contains n)=false then (5,ps) else
   if p.changes.any (lineBad (linesS ps++linesOfS p)) then (6,ps) else
   if 20≤ps.length∨90<(linesS ps++linesOfS p).length then (7,ps) else (0,withS p ps)
theorem find_got {bs:List Nat} {ps:List PatchD} {n:Nat} {v:Value} (h:Got bs ps (n:Int) v) :
  (∃ (i b:Nat) (p:PatchD),bs[i]? = some b∧ps[i]? = some p∧p.id=n∧v = .pointer (some ⟨b,0,none⟩))∨(n∉ps.map PatchD.id∧v = .pointer none):=by
 rcases h with ⟨i,b,p,h1,h2,h3,h4⟩ | ⟨h1,h2⟩
 ·exact .inl ⟨i,b,p,h1,h2,by omega,h4⟩
 ·refine .inr ⟨fun hm=>?_,h2⟩
  obtain ⟨p,hp,he⟩:=List.mem_map.1 hm
  exact h1 p hp (by rw [he])
theorem linesS_len {ps:List PatchD} (hg:Good ps):(linesS ps).length≤600:=by
 have key:∀ (l:List PatchD),(∀ p∈l,PatchD.ok p)→(linesS l).length≤30*l.length:=by
  intro l
  induction l with
  | nil=>intro _;simp [linesS]
  | cons p l ih =>
   intro h
   have h1:=ih (fun q hq=>h q (by simp [hq]))
   have h2:=(h p (by simp)).len
   have h3:=length_linesUp p.id p.changes
   have h4:=ownN_le p.changes
   simp only [linesS,List.flatMap_cons,List.length_append,List.length_cons] at h1 ⊢
   unfold linesOfS at *
   omega
 have:=key ps hg.ok
 have:=hg.len
 omega
def After (F:Nat→Prop) (bm:Nat) (h:Heap) (ps:List PatchD) (e:Nat) (v:Value) (h':Heap):Prop :=
 Fr (fun k=>k=bm) h h'∧v = .int .i64 (e:Int)∧∃ b bs,Blk h' bm [.pointer (some ⟨b,0,none⟩)] 61∧SA (fun k=>F k∨New h h' k) h' b bs ps
theorem mApply_ret {F:Nat→Prop} (bm b:Nat) (bs:List Nat) (ps:List PatchD) (t:List UInt8) (h:Heap) (hb:Blk h bm [.pointer (some ⟨b,0,none⟩)] 61) (hs:SA F h b bs ps) (hF:∀ k,F k→k≠bm) (hg:Good ps) (hl:t.length≤16777216) :
  Ret Tryz.prog 34 #[.pointer (some ⟨bm,0,none⟩),.string (str t)] h (After F bm h (applyS ps t).2 (applyS ps t).1):=by
 refine Ret.of_body func34 rfl ntmps34 rfl rfl ?_
 have hbs:bs.length=ps.length:=by obtain ⟨_,_,_,e,_⟩:=hs;exact e.1
 have hpl:=hg.len
 have hbl:=hb.lt
 have bad:∀ e,applyS ps t=(e,ps)→∀ (env:Env) (h':Heap) (k:List Item),Ext h h'→Env.get? env 4=some (.int .i64 (e:Int))→Runs Tryz.prog 34 111 (After F bm h (applyS ps t).2 (applyS ps t).1) (.code .ret::k) env h':=fun e he env h' k hx e1 =>
  Runs.ret func34 (ret1 results34 e1) ⟨hx.mono (by simp),by rw [he],b,bs,hb.ext hx,by rw [he];exact (hs.ext hx).mono (fun _ e=>.inl e)⟩
 refine zgo ?_
 refine WO.call rfl rfl rfl rfl plain71 rfl (read_ret t _ hl) fun v h1 ⟨hx1,hv1⟩=>?_
 cases hp:parseS t with
 | none =>
  rw [hp] at hv1
  subst hv1
  refine zgo ?_
  exact bad 1 (by unfold applyS;rw [hp]) _ _ _ hx1 rfl
 | some p =>
 rw [hp] at hv1
 dsimp only at hv1
 cases hf:formedS p with
 | false =>
  rw [hf] at hv1
  simp only [Bool.false_eq_true,if_false] at hv1
  subst hv1
  refine zgo ?_
  exact bad 2 (by unfold applyS;rw [hp];simp only [hf,if_true]) _ _ _ hx1 rfl
 | true =>
 rw [hf] at hv1
 simp only [if_true] at hv1
 obtain ⟨bp,hv1,hpa⟩:=hv1
 subst hv1
 obtain ⟨hpok,hid0⟩:=parse_ok hp
 have hidl:=hpok.id
 have happ:applyS ps t=match ps.find? fun q=>decide (q.id=p.id) with
  | some old=>if textS old=t then (3,ps) else (4,ps)
  | none =>
   if p.needs.all (fun n=>(ps.map PatchD.id).contains n)=false then (5,ps) else
   if p.changes.any (lineBad (linesS ps++linesOfS p)) then (6,ps) else
   if 20≤ps.length∨90<(linesS ps++linesOfS p).length then (7,ps) else (0,withS p ps):=by
  unfold applyS;rw [hp];simp only [hf,Bool.true_eq_false,if_false]
 have hpa0:=hpa
 obtain ⟨nv,cv,hpc,hpn,hpcs,_⟩:=hpa
 have g0:=hpc.head
 have m0:=(hb.ext hx1).cell (j:=0) rfl
 refine zgo ?_
 refine Runs.drawn (m:=10) (fun h'=>h'=h1) (fun _=>false) mixed rfl ?_
 refine zp 0 rfl ?_
 refine zp 1 rfl ?_
 refine zp 2 rfl ?_
 refine WF.take 3 rfl (fun _ hS=>by rw [hS];exact ov_load tab_ok rfl rfl rfl rfl m0) rfl rfl rfl rfl (by kernel_rfl) ?_
 refine zp 4 rfl ?_
 refine zp 5 rfl ?_
 refine zp 6 rfl ?_
 refine WF.take 7 rfl (fun _ hS=>by rw [hS];exact ov_load tab_ok rfl rfl rfl rfl g0) rfl rfl rfl rfl (by kernel_rfl) ?_
 refine WF.call 8 (by kernel_rfl) rfl rfl rfl rfl rfl plain60 rfl (get_ret b bs ps (p.id:Int) _ (hs.ext hx1) (by omega)) fun v2 h2 ⟨hh2,hgot⟩=>⟨.inr hh2,?_⟩
 subst hh2
 replace hgot:=find_got hgot
 obtain ⟨i,bo,old,hbi,hpi,hoid,hv2⟩ | ⟨hno,hv2⟩:=hgot
 ·subst hv2
  refine zx 9 rfl ?_
  refine zd ?_
  have hom:old∈ps:=List.mem_of_getElem? hpi
  have hoa:PA F h2 bo old:=by obtain ⟨_,_,_,e,_⟩:=hs.ext hx1;exact e.2 i bo old hbi hpi
  refine zgo ?_
  refine WO.call rfl rfl rfl rfl plain63 rfl (text_ret old bo _ hoa (hg.ok old hom)) fun v3 h3 ⟨hx3,hv3⟩=>?_
  subst hv3
  rw [find_eq hg.nodup hom hoid] at happ
  simp only at happ
  refine zgo ?_
  refine Runs.cond_dec rfl (fun q1=>?_) (fun q1=>?_)
  ·refine zgo ?_
   exact bad 3 (by rw [happ,if_pos q1]) _ _ _ (hx1.trans hx3) rfl
  ·refine zgo ?_
   exact bad 4 (by rw [happ,if_neg q1]) _ _ _ (hx1.trans hx3) rfl
 ·subst hv2
  refine zx 9 rfl ?_
  refine zd ?_
  have hfind:ps.find? (fun q=>decide (q.id=p.id))=none:=by
   rw [List.find?_eq_none];intro q hq;simp;intro e;exact hno (List.mem_map.2 ⟨q,hq,e⟩)
  rw [hfind] at happ
  simp only at happ
  obtain ⟨adn,capn,hnv⟩:=hpn.form
  obtain ⟨adc,capc,hcv⟩:=hpcs.form
  subst hnv hcv
  have g1:=hpc.tail.head
  have g2:=hpc.tail.tail.head
  have hnl:=hpok.nlen
  have hcl:=hpok.len
  refine zgo ?_
  refine Runs.loop (X:=Nat) (fun j=>[(0,.pointer (some ⟨bm,0,none⟩)),(5,.pointer (some ⟨bp,0,none⟩)),(39,.slice adn p.needs.length capn),(40,.int .i64 (p.needs.length:Int)),(41,.int .i64 (j:Int))])
   (fun j h'=>h2=h'∧j≤p.needs.length∧∀ n∈p.needs.take j,n∈ps.map PatchD.id) (fun j=>p.needs.length-j) 0 ⟨rfl,rfl,rfl,rfl,rfl,trivial⟩ ⟨rfl,Nat.zero_le _,by simp⟩ ?_
  rintro j _ ⟨rfl,hj,hall⟩ ih
  refine zgo ?_
  refine Runs.cond_dec rfl (fun hlt=>?_) (fun hge=>?_)
  ·have hlt':j<p.needs.length:=by omega
   have hget:p.needs[j]? = some p.needs[j]:=List.getElem?_eq_getElem hlt'
   have hmem:p.needs[j]∈p.needs:=List.getElem_mem hlt'
   have hsn:p.needs.take (j+1)=p.needs.take j++[p.needs[j]]:=List.take_succ_eq_append_getElem hlt'
   generalize p.needs[j]=m at *
   obtain ⟨b5,p5,cap5,hv5,_,hcell5⟩:=hpn.cell (ints_get hget)
   cases hv5
   refine zgo ?_
   refine WO.call rfl rfl rfl rfl plain60 rfl (get_ret b bs ps (m:Int) _ (hs.ext hx1) (by omega)) fun v3 h3 ⟨hh3,hgot⟩=>?_
   subst hh3
   replace hgot:=find_got hgot
   obtain ⟨i3,b3,q3,_,hq3,hq3i,hv3⟩ | ⟨hno3,hv3⟩:=hgot
   ·subst hv3
    refine zgo ?_
    refine ih (j+1) _ _ (by omega) ⟨rfl,rfl,rfl,rfl,rfl,trivial⟩ ⟨rfl,hlt',fun n hn=>?_⟩
    rw [hsn] at hn
    rcases List.mem_append.1 hn with e | e
    ·exact hall n e
    ·simp at e;subst e;exact List.mem_map.2 ⟨q3,List.mem_of_getElem? hq3,hq3i⟩
   ·subst hv3
    refine zgo ?_
    refine bad 5 ?_ _ _ _ hx1 rfl
    rw [happ,if_pos]
    rw [List.all_eq_false]
    exact ⟨m,hmem,by simpa using hno3⟩
  ·have hneeds:p.needs.all (fun n=>(ps.map PatchD.id).contains n)=true:=by
    rw [List.take_of_length_le (by omega)] at hall
    rw [List.all_eq_true];intro n hn;simpa using hall n hn
   rw [hneeds] at happ
   simp only [Bool.true_eq_false,if_false] at happ
   clear ih hall
   refine zgo ?_
   refine WO.call rfl rfl rfl rfl plain72 rfl (lines_ret b bs ps _ (hs.ext hx1) (by omega) (fun q hq=>by have:=(hg.ok q hq).len;omega)) fun v4 h4 ⟨hx4,ho4,hm4⟩=>?_
   refine zgo ?_
   refine WO.call rfl rfl rfl rfl plain73 rfl (linesOf_ret p bp _ (hpa0.ext hx4) (by omega)) fun v5 h5 ⟨hx5,ho5,hm5⟩=>?_
   have hll:=linesS_len hg
   have hlo:(linesOfS p).length≤30:=by
    have e1:=length_linesUp p.id p.changes
    have e2:=ownN_le p.changes
    unfold linesOfS;omega
   refine WO.ex rfl rfl rfl (ox_append tab_ok rfl rfl rfl rfl rfl rfl rfl (ho4.fr hx5 (by simp)) ho5.rd (one_linesC _) (by dsimp only;omega) ?_)
   intro v6 h6 o1 o2 o3
   rw [← linesC_append,← List.length_append] at o1
   have hx6:Ext h2 h6:=(hx4.trans hx5).trans_new (o2.mono (fun k _ e=>.inr (by have:=hm4 k e;simp [Value.ownBlock] at this;omega)))
   have hx7:Ext h h6:=hx1.trans hx6
   have hr6:=o1.rd
   have hall:(linesS ps++linesOfS p).length≤700:=by rw [List.length_append];omega
   generalize linesS ps++linesOfS p=al at *
   obtain ⟨ad6,cap6,hv6⟩:=hr6.form
   subst hv6
   replace g2:=hx6.xc g2
   replace m0:=hx6.xc m0
   replace hpcs:=hpcs.ext hx6
   clear o2 o3 ho4 ho5 hx4 hx5 hm4 hm5
   refine zgo ?_
   refine Runs.loop (X:=Nat) (fun j=>[(0,.pointer (some ⟨bm,0,none⟩)),(5,.pointer (some ⟨bp,0,none⟩)),(10,.slice ad6 al.length cap6),(64,.slice adc p.changes.length capc),(65,.int .i64 (p.changes.length:Int)),(66,.int .i64 (j:Int))])
    (fun j h'=>Ext h6 h'∧j≤p.changes.length∧∀ c∈p.changes.take j,lineBad al c=false) (fun j=>p.changes.length-j) 0 ⟨rfl,rfl,rfl,rfl,rfl,rfl,trivial⟩ ⟨Fr.refl _ _,Nat.zero_le _,by simp⟩ ?_
   rintro j h7 ⟨hx8,hj,hgd⟩ ih
   have hx9:=hx7.trans hx8
   refine zgo ?_
   refine Runs.cond_dec rfl (fun hlt=>?_) (fun hge=>?_)
   ·have hlt':j<p.changes.length:=by omega
    have hget:p.changes[j]? = some p.changes[j]:=List.getElem?_eq_getElem hlt'
    have hmem:p.changes[j]∈p.changes:=List.getElem_mem hlt'
    have hsn:p.changes.take (j+1)=p.changes.take j++[p.changes[j]]:=List.take_succ_eq_append_getElem hlt'
    generalize p.changes[j]=c at *
    obtain ⟨b0,p0,cap0,hv,_,hcells⟩:=(hpcs.ext hx8).pos (by omega)
    cases hv
    have hcc:=changes_get hcells hget
    refine zgo ?_
    refine zv c.one fun h8 hb8 hx10 hs8=>?_
    have k0:=hb8.cell (j:=0) rfl
    have e1:Cells h8 h7.size (0+1) c.up.cells:=hb8.cells.tail.take 2
    have e2:Cells h8 h7.size (0+3) c.down.cells:=hb8.cells.tail.tail.tail.take 2
    have hx11:=hx8.trans hx10
    refine zgo ?_
    refine WO.call rfl rfl rfl rfl plain74 rfl (has_ret al c.up _ _ (hr6.ext hx11) (by omega)) fun v9 h9 ⟨hx12,hv9⟩=>?_
    subst hv9
    have hx13:=hx11.trans hx12
    replace k0:=hx12.xc k0
    replace e2:=hx12.xcs e2
    refine WO.join (fun env' h'=>Ext h6 h'∧Sub [(0,.pointer (some ⟨bm,0,none⟩)),(5,.pointer (some ⟨bp,0,none⟩)),(10,.slice ad6 al.length cap6),(64,.slice (some ⟨b0,p0,none⟩) p.changes.length capc),(65,.int .i64 (p.changes.length:Int)),(66,.int .i64 (j:Int)),(86,.bool (lineBad al c))] env') ?_ ?_
    ·cases hu:hasS al c.up
     ·refine zgo ?_
      exact ⟨hx13,rfl,rfl,rfl,rfl,rfl,rfl,by rw [show lineBad al c=true by simp [lineBad,hu]];rfl,trivial⟩
     ·refine zgo ?_
      refine WO.split 79 _ rfl (fun q1=>?_) (fun q1=>?_)
      ·have q0:¬ (c.kind:Int)=2:=by simpa using q1
       have q1:¬ c.kind=2:=by omega
       refine zgo ?_
       refine WO.call rfl rfl rfl rfl plain74 rfl (has_ret al c.down _ _ (hr6.ext hx13) (by omega)) fun v10 h10 ⟨hx14,hv10⟩=>?_
       subst hv10
       refine zgo ?_
       exact ⟨hx13.trans hx14,rfl,rfl,rfl,rfl,rfl,rfl,by rw [show lineBad al c = !hasS al c.down by simp [lineBad,hu,q1]];rfl,trivial⟩
      ·have q0:(c.kind:Int)=2:=by simpa using q1
       have q1:c.kind=2:=by omega
       refine zgo ?_
       exact ⟨hx13,rfl,rfl,rfl,rfl,rfl,rfl,by rw [show lineBad al c=false by simp [lineBad,hu,q1]];rfl,trivial⟩
    rintro env' h10 ⟨hx14,hsub⟩
    refine Runs.sub hsub ?_
    cases hlb:lineBad al c
    ·refine zgo ?_
     refine ih (j+1) _ _ (by omega) ⟨rfl,rfl,rfl,rfl,rfl,rfl,trivial⟩ ⟨hx14,hlt',fun c' hc'=>?_⟩
     rw [hsn] at hc'
     rcases List.mem_append.1 hc' with e | e
     ·exact hgd c' e
     ·simp at e;subst e;exact hlb
    ·refine zgo ?_
     refine bad 6 ?_ _ _ _ (hx7.trans hx14) rfl
     rw [happ,if_pos (List.any_eq_true.2 ⟨c,hmem,hlb⟩)]
   ·have hnb:p.changes.any (lineBad al)=false:=by
     rw [List.take_of_length_le (by omega)] at hgd
     rw [List.any_eq_false];intro c hc;rw [hgd c hc];simp
    rw [hnb] at happ
    simp only [Bool.false_eq_true,if_false] at happ
    clear ih hgd
    replace m0:=hx8.xc m0
    have hs7:=hs.ext hx9
    obtain ⟨lv,hsc,hsr,hsp,hsF,hsk⟩:=hs7
    have s0:=hsc.head
    obtain ⟨ads,caps,hlv⟩:=hsr.form
    subst hlv
    refine zgo ?_
    refine WO.join (fun env' h'=>h7=h'∧Sub [(0,.pointer (some ⟨bm,0,none⟩)),(5,.pointer (some ⟨bp,0,none⟩)),(101,.bool (decide (20≤ps.length∨90<al.length)))] env') ?_ ?_
    ·refine WO.split 97 _ rfl (fun q1=>?_) (fun q1=>?_)
     ·have q1:=of_decide_eq_true q1
      refine zgo ?_
      exact ⟨rfl,rfl,rfl,by rw [decide_eq_true (show 20≤ps.length∨90<al.length from .inl (by omega))];rfl,trivial⟩
     ·have q1:=of_decide_eq_false q1
      refine zgo ?_
      refine ⟨rfl,rfl,rfl,?_,trivial⟩
      show some _=some _
      have:decide (90<(al.length:Int))=decide (20≤ps.length∨90<al.length):=decide_eq_decide.2 (by omega)
      rw [this]
    rintro env' _ ⟨rfl,hsub⟩
    refine Runs.sub hsub ?_
    refine zgo ?_
    refine Runs.cond_dec rfl (fun q1=>?_) (fun q1=>?_)
    ·refine zgo ?_
     exact bad 7 (by rw [happ,if_pos q1]) _ _ _ hx9 rfl
    ·rw [if_neg q1] at happ
     refine zgo ?_
     refine WO.call rfl rfl rfl rfl plain62 rfl (with_ret (F:=fun k=>F k∨New h h7 k) b bp bs ps p _ ((hs.ext hx9).mono (fun _ e=>.inl e)) (((hpa0.ext hx6).ext hx8).mono (fun _ e=>.inr (New.up e (hx6.trans hx8)))) (by omega)) fun v9 h9 ⟨hx10,b9,bs9,hv9,hs9⟩=>?_
     subst hv9
     have hb9:=(hb.ext hx9).ext hx10
     refine zgo ?_
     refine zt (one_ptr _) hb9 fun h10 hb10 hx11 hs10=>?_
     refine zgo ?_
     have hsz9:=hx9.size
     refine Runs.ret func34 (ret1 results34 rfl) ⟨((hx9.trans hx10).mono (by simp)).trans hx11,by rw [happ];rfl,b9,bs9,hb10,?_⟩
     rw [happ]
     refine SA.mono (hs9.fr hx11 (fun k hk=>?_)) (fun k hk=>?_)
     ·rcases hk with (hk | hk) | hk
      ·exact hF k hk
      ·have:=hk.1;omega
      ·have:=hk.1;omega
     ·rcases hk with (hk | hk) | hk
      ·exact .inl hk
      ·exact .inr ((hk.up hx10).up hx11)
      ·exact .inr ((hk.dn hx9).up hx11)
end Go.Proofs.YtlaffgagmncgjaaGreatDoor
namespace Go.Proofs.YtlaffgagmncgjaaGreatDoor
open Tryz Go Go.Pat Go.Proofs
def UnS (ps:List PatchD) (q:Int) (e:Nat) (ps':List PatchD):Prop :=
 ((∀ p∈ps,(p.id:Int)≠q)∧e=8∧ps'=ps) ∨
 ∃ p₀∈ps,(p₀.id:Int)=q∧(((∃ p∈ps,p.id≠p₀.id∧Reach ps p.id p₀.id)∧e=9∧ps'=ps)∨((∀ p∈ps,p.id≠p₀.id→¬ Reach ps p.id p₀.id)∧e=0∧ps'=withoutS q ps))
theorem mUnapply_ret {F:Nat→Prop} (bm b:Nat) (bs:List Nat) (ps:List PatchD) (q:Int) (h:Heap) (hb:Blk h bm [.pointer (some ⟨b,0,none⟩)] 61) (hs:SA F h b bs ps) (hF:∀ k,F k→k≠bm) (hg:Good ps) (hcl:Closed ps) :
  Ret Tryz.prog 61 #[.pointer (some ⟨bm,0,none⟩),.int .i64 q] h (fun v h'=>∃ e ps',UnS ps q e ps'∧After F bm h ps' e v h'):=by
 refine Ret.of_body func61 rfl ntmps61 rfl rfl ?_
 have hbs:bs.length=ps.length:=by obtain ⟨_,_,_,e,_⟩:=hs;exact e.1
 have hpl:=hg.len
 have hbl:=hb.lt
 have bad:∀ e,UnS ps q e ps→∀ (env:Env) (h':Heap) (k:List Item),Ext h h'→Env.get? env 4=some (.int .i64 (e:Int))→Runs Tryz.prog 61 54 (fun v h'=>∃ e ps',UnS ps q e ps'∧After F bm h ps' e v h') (.code .ret::k) env h':=fun e he env h' k hx e1 =>
  Runs.ret func61 (ret1 results61 e1) ⟨e,ps,he,hx.mono (by simp),rfl,b,bs,hb.ext hx,(hs.ext hx).mono (fun _ e=>.inl e)⟩
 have m0:=hb.cell (j:=0) rfl
 refine zgo ?_
 refine WO.call rfl rfl rfl rfl plain60 rfl (get_ret b bs ps q _ hs (by omega)) fun v2 h2 ⟨hh2,hgot⟩=>?_
 subst hh2
 obtain ⟨i0,b0,p0,hbi,hpi,hpq,hv2⟩ | ⟨hno,hv2⟩:=hgot
 rotate_left
 ·subst hv2
  refine zgo ?_
  exact bad 8 (.inl ⟨hno,rfl,rfl⟩) _ _ _ (Fr.refl _ _) rfl
 subst hv2
 have hp0:p0∈ps:=List.mem_of_getElem? hpi
 have hs0:=hs
 obtain ⟨lv,hsc,hsr,hsp,hsF,hsk⟩:=hs
 have s0:=hsc.head
 obtain ⟨ads,caps,hlv⟩:=hsr.form
 subst hlv
 refine zgo ?_
 refine Runs.loop (X:=Nat) (fun j=>[(0,.pointer (some ⟨bm,0,none⟩)),(1,.int .i64 q),(20,.slice ads bs.length caps),(21,.int .i64 (bs.length:Int)),(22,.int .i64 (j:Int))])
  (fun j h'=>Ext h2 h'∧j≤bs.length∧∀ p∈ps.take j,(p.id:Int)≠q→¬ Reach ps p.id p0.id) (fun j=>bs.length-j) 0 ⟨rfl,rfl,rfl,rfl,rfl,trivial⟩ ⟨Fr.refl _ _,Nat.zero_le _,by simp⟩ ?_
 rintro j h3 ⟨hx3,hj,hall⟩ ih
 refine zgo ?_
 refine Runs.cond_dec rfl (fun hlt=>?_) (fun hge=>?_)
 ·have hlt':j<bs.length:=by omega
  have hltp:j<ps.length:=by omega
  have hget:bs[j]? = some bs[j]:=List.getElem?_eq_getElem hlt'
  have hgetp:ps[j]? = some ps[j]:=List.getElem?_eq_getElem hltp
  have hsn:ps.take (j+1)=ps.take j++[ps[j]]:=List.take_succ_eq_append_getElem hltp
  have hpm:ps[j]∈ps:=List.getElem_mem hltp
  generalize bs[j]=bb at *
  generalize ps[j]=p at *
  have hpab:=(hsp.2 j bb p hget hgetp).ext hx3
  obtain ⟨nv,cv,hpc,_⟩:=hpab
  have g0:=hpc.head
  obtain ⟨b5,p5,cap5,hv5,_,hcell⟩:=(hsr.ext hx3).cell (ptrs_get hget)
  cases hv5
  have m3:=hx3.xc m0
  refine zgo ?_
  refine Runs.drawn (m:=18) (Ext h3) (fun _=>false) mixed rfl ?_
  refine zp 0 (Fr.refl _ _) ?_
  refine zp 1 (Fr.refl _ _) ?_
  refine zp 2 (Fr.refl _ _) ?_
  refine zl 3 (fun _ hS=>(hS.xc g0)) (Fr.refl _ _) ?_
  refine zp 4 (Fr.refl _ _) ?_
  refine zp 5 (Fr.refl _ _) ?_
  refine zp 6 (Fr.refl _ _) ?_
  by_cases hq:(p.id:Int)=q
  ·rw [decide_eq_true hq]
   refine zq 7 (Fr.refl _ _) ?_
   refine zq 8 (Fr.refl _ _) ?_
   refine zq 9 (Fr.refl _ _) ?_
   refine zq 10 (Fr.refl _ _) ?_
   refine zq 11 (Fr.refl _ _) ?_
   refine zq 12 (Fr.refl _ _) ?_
   refine zq 13 (Fr.refl _ _) ?_
   refine zq 14 (Fr.refl _ _) ?_
   refine zq 15 (Fr.refl _ _) ?_
   refine zq 16 (Fr.refl _ _) ?_
   refine zp 17 (Fr.refl _ _) ?_
   refine zd ?_
   refine zgo ?_
   refine ih (j+1) _ _ (by omega) ⟨rfl,rfl,rfl,rfl,rfl,trivial⟩ ⟨hx3,hlt',fun p' hp' hne=>?_⟩
   rw [hsn] at hp'
   rcases List.mem_append.1 hp' with e | e
   ·exact hall p' e hne
   ·simp at e;subst e;exact absurd hq hne
  ·rw [decide_eq_false hq]
   refine zp 7 (Fr.refl _ _) ?_
   refine zp 8 (Fr.refl _ _) ?_
   refine zp 9 (Fr.refl _ _) ?_
   refine zl 10 (fun _ hS=>(hS.xc m3)) (Fr.refl _ _) ?_
   refine zp 11 (Fr.refl _ _) ?_
   refine zp 12 (Fr.refl _ _) ?_
   refine zp 13 (Fr.refl _ _) ?_
   refine zl 14 (fun _ hS=>(hS.xc g0)) (Fr.refl _ _) ?_
   refine zp 15 (Fr.refl _ _) ?_
   rw [← hpq]
   refine WF.call 16 (by kernel_rfl) rfl rfl rfl rfl rfl plain78 rfl (knows_ret b p.id p0.id bs ps _ (hs0.ext hx3) hcl (List.mem_map.2 ⟨p,hpm,rfl⟩) (by omega) (fun x hx=>by have:=(hg.ok x hx).nlen;omega)) fun v4 h4 ⟨hx4,r,hv4,hr⟩=>⟨.inr hx4,?_⟩
   subst hv4
   refine zp 17 hx4 ?_
   refine zd ?_
   rw [hpq]
   cases r
   ·refine zgo ?_
    refine ih (j+1) _ _ (by omega) ⟨rfl,rfl,rfl,rfl,rfl,trivial⟩ ⟨hx3.trans hx4,hlt',fun p' hp' hne=>?_⟩
    rw [hsn] at hp'
    rcases List.mem_append.1 hp' with e | e
    ·exact hall p' e hne
    ·simp at e;subst e;intro e;exact absurd (hr.2 e) (by simp)
   ·refine zgo ?_
    exact bad 9 (.inr ⟨p0,hp0,hpq,.inl ⟨⟨p,hpm,fun e=>hq (by rw [e,hpq]),hr.1 rfl⟩,rfl,rfl⟩⟩) _ _ _ (hx3.trans hx4) rfl
 ·have hno:∀ p∈ps,p.id≠p0.id→¬ Reach ps p.id p0.id:=by
   rw [List.take_of_length_le (by omega)] at hall
   exact fun p hp hne=>hall p hp (by omega)
  have m3:=hx3.xc m0
  clear ih hall
  refine zgo ?_
  refine WO.call rfl rfl rfl rfl plain79 rfl (without_ret b bs ps q _ (hs0.ext hx3) (by omega)) fun v9 h9 ⟨hx10,b9,bs9,hv9,hs9⟩=>?_
  subst hv9
  have hb9:=(hb.ext hx3).ext hx10
  refine zgo ?_
  refine zt (one_ptr _) hb9 fun h10 hb10 hx11 hs10=>?_
  refine zgo ?_
  have hsz3:=hx3.size
  refine Runs.ret func61 (ret1 results61 rfl) ⟨0,_,.inr ⟨p0,hp0,hpq,.inr ⟨hno,rfl,rfl⟩⟩,((hx3.trans hx10).mono (by simp)).trans hx11,rfl,b9,bs9,hb10,?_⟩
  refine SA.mono (hs9.fr hx11 (fun k hk=>?_)) (fun k hk=>?_)
  ·rcases hk with hk | hk
   ·exact hF k hk
   ·have:=hk.1;omega
  ·rcases hk with hk | hk
   ·exact .inl hk
   ·exact .inr ((hk.dn hx3).up hx11)
end Go.Proofs.YtlaffgagmncgjaaGreatDoor
namespace Go.Proofs.YtlaffgagmncgjaaGreatDoor
open Tryz Go Go.Pat Go.Proofs
def idsS (ps:List PatchD):List Nat:=ps.map PatchD.id
theorem mLog_ret {F:Nat→Prop} (bm b:Nat) (bs:List Nat) (ps:List PatchD) (h:Heap) (hb:Blk h bm [.pointer (some ⟨b,0,none⟩)] 61) (hs:SA F h b bs ps) (hl:bs.length≤1000) :
  Ret Tryz.prog 44 #[.pointer (some ⟨bm,0,none⟩)] h fun v h'=>Ext h h'∧Own h' 3 1 v (idsS ps).length (ints (idsS ps))∧Moved h (.slice none 0 0) v:=by
 refine Ret.of_body func44 rfl ntmps44 rfl rfl ?_
 have m0:=hb.cell (j:=0) rfl
 obtain ⟨lv,hsc,hsr,hsp,_⟩:=hs
 have s0:=hsc.head
 have hbs:bs.length=ps.length:=hsp.1
 obtain ⟨ad,cap,hlv⟩:=hsr.form
 subst hlv
 refine zgo ?_
 refine Runs.loop (X:=IV) (fun x=>[(3,x.v),(12,.slice ad bs.length cap),(13,.int .i64 (bs.length:Int)),(14,.int .i64 (x.i:Int))])
  (fun x h'=>x.i≤bs.length∧Ext h h'∧Own h' 3 1 x.v (idsS (ps.take x.i)).length (ints (idsS (ps.take x.i)))∧(∀ k,x.v.ownBlock=some k→h.size≤k))
  (fun x=>bs.length-x.i) ⟨0,.slice none 0 0⟩ ⟨rfl,rfl,rfl,rfl,trivial⟩ ⟨Nat.zero_le _,Fr.refl _ _,Own.nil _ _ _,fun k hk=>by simp [Value.ownBlock] at hk⟩ ?_
 rintro ⟨i,v⟩ h2 ⟨hi,hx2,ho2,hm2⟩ ih
 dsimp only at hi hx2 ho2 hm2 ih ⊢
 have hidl:(idsS (ps.take i)).length≤i:=by simp [idsS];omega
 refine zgo ?_
 refine Runs.cond_dec rfl (fun hlt=>?_) (fun hge=>?_)
 ·have hlt':i<bs.length:=by omega
  have hltp:i<ps.length:=by omega
  have hget:bs[i]? = some bs[i]:=List.getElem?_eq_getElem hlt'
  have hgetp:ps[i]? = some ps[i]:=List.getElem?_eq_getElem hltp
  have hsn:idsS (ps.take (i+1))=idsS (ps.take i)++[ps[i].id]:=by rw [List.take_succ_eq_append_getElem hltp];simp only [idsS,List.map_append,List.map_cons,List.map_nil]
  generalize bs[i]=bb at *
  generalize ps[i]=p at *
  obtain ⟨nv,cv,hpc,_⟩:=(hsp.2 i bb p hget hgetp).ext hx2
  have g0:=hpc.head
  obtain ⟨b0,p0,cap0,hv,_,hcell⟩:=(hsr.ext hx2).cell (ptrs_get hget)
  cases hv
  refine zgo ?_
  refine zh (one_int _) ho2 ?_
  intro v' h3 o1 o2 o3
  refine zgo ?_
  have hsz:=hx2.size
  refine ih ⟨i+1,v'⟩ _ _ (by dsimp only;omega) ⟨rfl,rfl,rfl,rfl,trivial⟩ ⟨hlt',hx2.trans_new (o2.mono (fun k _ e=>.inr (hm2 k e))),?_,?_⟩
  ·dsimp only;rw [hsn];simpa [ints] using o1
  ·intro k hk
   rcases o3 k hk with e | e
   ·exact hm2 k e
   ·omega
 ·refine zgo ?_
  rw [List.take_of_length_le (by omega)] at ho2
  exact Runs.ret func44 (ret1 results44 rfl) ⟨hx2,ho2,fun k hk=>.inr (hm2 k hk)⟩
theorem plain42:Plain Tryz.prog 45:=⟨_,func45,by decide +kernel,by rfl⟩
theorem sameInts_ret (l m:List Nat) (v u:Value) (h:Heap) (hv:Rd h 1 v l.length (ints l)) (hu:Rd h 1 u m.length (ints m)) (hl:l.length≤16777216) (hm:m.length≤16777216) :
  Ret Tryz.prog 45 #[v,u] h fun r h'=>h'=h∧r = .bool (decide (l=m)):=by
 obtain ⟨ad,cap,e⟩:=hv.form
 obtain ⟨ad2,cap2,e2⟩:=hu.form
 subst e e2
 refine Ret.of_body func45 rfl ntmps45 rfl rfl ?_
 refine zgo ?_
 refine Runs.cond_ndec rfl (fun q1=>?_) (fun q1=>?_)
 ·refine zgo ?_
  refine Runs.ret func45 (ret1 results45 rfl) ⟨rfl,?_⟩
  have:¬ l=m:=fun e=>q1 (by rw [e])
  simp [this]
 ·have hlm:l.length=m.length:=by omega
  refine zgo ?_
  refine Runs.loop (X:=Nat) (fun i=>[(0,.slice ad l.length cap),(1,.slice ad2 m.length cap2),(12,.int .i64 (l.length:Int)),(13,.int .i64 (i:Int))])
   (fun i h'=>h=h'∧i≤l.length∧l.take i=m.take i) (fun i=>l.length-i) 0 ⟨rfl,rfl,rfl,rfl,trivial⟩ ⟨rfl,Nat.zero_le _,rfl⟩ ?_
  rintro i _ ⟨rfl,hi,heq⟩ ih
  refine zgo ?_
  refine Runs.cond_dec rfl (fun hlt=>?_) (fun hge=>?_)
  ·have hlt':i<l.length:=by omega
   have hltm:i<m.length:=by omega
   have hget:l[i]? = some l[i]:=List.getElem?_eq_getElem hlt'
   have hgetm:m[i]? = some m[i]:=List.getElem?_eq_getElem hltm
   have hsn:=List.take_succ_eq_append_getElem hlt'
   have hsm:=List.take_succ_eq_append_getElem hltm
   generalize hx:l[i]=x at *
   generalize hy:m[i]=y at *
   obtain ⟨b0,p0,cap0,e0,_,hcell⟩:=hv.cell (ints_get hget)
   cases e0
   obtain ⟨b1,p1,cap1,e1,_,hcell1⟩:=hu.cell (ints_get hgetm)
   cases e1
   refine zgo ?_
   refine Runs.still mixed (by kernel_rfl) ?_
   refine zws ?_
   refine Runs.cond_ndec rfl (fun hne=>?_) (fun he=>?_)
   ·refine zgo ?_
    refine Runs.ret func45 (ret1 results45 rfl) ⟨rfl,?_⟩
    have:¬ l=m:=fun e=>by
     subst e
     rw [hget] at hgetm
     cases hgetm
     exact hne rfl
    simp [this]
   ·refine zgo ?_
    refine ih (i+1) _ _ (by omega) ⟨rfl,rfl,rfl,rfl,trivial⟩ ⟨rfl,hlt',?_⟩
    have:x=y:=by omega
    rw [hsn,hsm,heq,this]
  ·refine zgo ?_
   refine Runs.ret func45 (ret1 results45 rfl) ⟨rfl,?_⟩
   have:l=m:=by
    rw [List.take_of_length_le (by omega),List.take_of_length_le (by omega)] at heq
    exact heq
   simp [this]
end Go.Proofs.YtlaffgagmncgjaaGreatDoor
