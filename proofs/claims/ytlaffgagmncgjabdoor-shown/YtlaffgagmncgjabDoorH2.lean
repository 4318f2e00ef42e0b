import Derived.Test.YtlaffgagmncgjabDoorH1
import Derived.Test.YtlaffgagmncgjabDoorK2
namespace Go.Proofs.YtlaffgagmncgjabDoor
open Go Go.Pat Go.Proofs
theorem hdec_not {n:Nat} {c:UInt8} (hc:c.toNat<48∨57<c.toNat):c∉decS n:=fun h=>by
 have:=(dec_val n n (Nat.le_refl _)).2 c h
 omega
theorem hdd_told {ps:List PatchD} {k:Nat} (h:k<nX ps):ddX ps k=toldB ps (lnX ps k).ref:=by
 unfold ddX
 rw [toldB_live (lnX_get h)];simp
theorem dec_inj {a b:Nat} (h:decS a=decS b):a=b:=by
 have h1:=(dec_val a a (Nat.le_refl _)).1
 have h2:=(dec_val b b (Nat.le_refl _)).1
 rw [h] at h1
 omega
theorem refS_pos {r:RefD} (h:0<r.p):refS r=decS r.p++46::decS r.i:=by unfold refS;rw [if_pos h];simp
theorem refS_inj {r s:RefD} (hs:0<s.p) (h:refS r=refS s):r=s:=by
 rw [refS_pos hs] at h
 by_cases hr:0<r.p
 ·rw [refS_pos hr] at h
  have h1:=splitL_app (c:=46) (decS r.i) (hdec_not (n:=r.p) (by decide))
  have h2:=splitL_app (c:=46) (decS s.i) (hdec_not (n:=s.p) (by decide))
  rw [h,h2] at h1
  rw [splitL_not (hdec_not (by decide)),splitL_not (hdec_not (by decide))] at h1
  simp only [List.cons.injEq,and_true] at h1
  have e1:=dec_inj h1.1
  have e2:=dec_inj h1.2
  cases r;cases s;simp_all
 ·have hm:(46:UInt8)∈refS r:=by rw [h];simp
  unfold refS at hm
  rw [if_neg hr] at hm
  split at hm<;>simp at hm
structure SL where
 (nm up dn tx:List UInt8)
structure SSt where
 (L:List SL) (D:List (List UInt8)) (o:Nat)
def slOf (l:LineD):SL:=⟨refS l.ref,refS l.up,refS l.down,l.text⟩
def SWay (id:Nat) (s:SSt) (x:List UInt8) (s':SSt):Prop :=
 (∃ w ws,splitL 32 x=w::ws∧w≠[100,101,108]∧w≠[97,100,100]∧s'=s) ∨
 (∃ r,splitL 32 x=[[100,101,108],r]∧s'=⟨s.L,s.D++[r],s.o⟩) ∨
 ∃ u d t ws,x=[97,100,100,32]++(u++32::(d++32::t))∧splitL 32 x=[97,100,100]::u::d::ws∧0<ws.length∧s'=⟨s.L++[⟨decS id++[46]++decS s.o,u,d,t⟩],s.D,s.o+1⟩
def SWays (id:Nat):SSt→List (List UInt8)→SSt→Prop
 | s,[],s'=>s'=s
 | s,x::l,s'=>∃ s1,SWay id s x s1∧SWays id s1 l s'
theorem SWays.app {id:Nat}:∀ {l m:List (List UInt8)} {s s1 s2:SSt},SWays id s l s1→SWays id s1 m s2→SWays id s (l++m) s2
 | [],m,s,s1,s2,h1,h2=>by cases h1;exact h2
 | x::l,m,s,s1,s2,⟨s0,h0,h1⟩,h2=>⟨s0,h0,SWays.app h1 h2⟩
theorem SWays.cut {id:Nat}:∀ {l m:List (List UInt8)} {s s2:SSt},SWays id s (l++m) s2→∃ s1,SWays id s l s1∧SWays id s1 m s2
 | [],m,s,s2,h=>⟨s,rfl,h⟩
 | x::l,m,s,s2,⟨s0,h0,h1⟩=>by
  obtain ⟨s1,h2,h3⟩:=SWays.cut h1
  exact ⟨s1,⟨s0,h0,h2⟩,h3⟩
def delsOf (l:List ChangeD):List (List UInt8):=(l.filter fun c=>decide (c.kind=2)).map fun c=>refS c.up
theorem delsOf_snoc (l:List ChangeD) (c:ChangeD):delsOf (l++[c])=delsOf l++(if c.kind=2 then [refS c.up] else []):=by
 unfold delsOf;rw [List.filter_append];by_cases h:c.kind=2<;>simp [h]
theorem says_change {id:Nat} (hid:0<id) {c:ChangeD} {x:List UInt8} (h:changeS x=some c) (s:SSt) :
  SWay id s x ⟨s.L++(if c.kind=1 then [slOf ⟨⟨id,s.o⟩,c.up,c.down,c.text⟩] else []),s.D++(if c.kind=2 then [refS c.up] else []),s.o+(if c.kind=1 then 1 else 0)⟩:=by
 rcases changeS_iff.1 h with ⟨w1,w2,t,up,down,rfl,e1,e2,_,rfl⟩ | ⟨w1,up,rfl,e1,rfl⟩ | ⟨w1,w2,up,down,rfl,e1,e2,rfl⟩
 ·have hsp:splitL 32 ([97,100,100,32]++(w1++32::(w2++32::t)))=[97,100,100]::w1::w2::splitL 32 t:=by
   rw [show ([97,100,100,32]++(w1++32::(w2++32::t)):List UInt8)=[97,100,100]++32::(w1++32::(w2++32::t)) by simp,
    splitL_app _ (by decide),splitL_app _ (place_not e1 rfl (by decide) (by decide)),splitL_app _ (place_not e2 rfl (by decide) (by decide))]
  refine .inr (.inr ⟨w1,w2,t,_,rfl,hsp,?_,?_⟩)
  ·cases hs:splitL 32 t with
   | nil=>exact absurd hs (splitL_ne _ _)
   | cons a b=>simp
  ·have r1:=line_ref (.inr (.inl rfl)) e1
   have r2:=line_ref (.inr (.inr rfl)) e2
   have r3:=refS_pos (r:=⟨id,s.o⟩) hid
   simp [slOf,r1,r2,r3]
 ·have hsp:splitL 32 ([100,101,108,32]++w1)=[[100,101,108],w1]:=by
   rw [show ([100,101,108,32]++w1:List UInt8)=[100,101,108]++32::w1 by simp,splitL_app _ (by decide),splitL_not (line_not e1 rfl (by decide))]
  refine .inr (.inl ⟨w1,hsp,?_⟩)
  have r1:=line_ref (.inl rfl) e1
  simp [r1]
 ·have hsp:splitL 32 ([116,105,101,32]++(w1++32::w2))=[116,105,101]::splitL 32 (w1++32::w2):=by
   rw [show ([116,105,101,32]++(w1++32::w2):List UInt8)=[116,105,101]++32::(w1++32::w2) by simp,splitL_app _ (by decide)]
  exact .inl ⟨_,_,hsp,by decide,by decide,by simp⟩
theorem says_changes {id:Nat} (hid:0<id) (L:List SL) (D:List (List UInt8)):∀ {ss:List (List UInt8)} {cs:List ChangeD},allSome changeS ss=some cs→∀ pre:List ChangeD,SWays id ⟨L++(linesUp id pre).map slOf,D++delsOf pre,ownN pre⟩ ss ⟨L++(linesUp id (pre++cs)).map slOf,D++delsOf (pre++cs),ownN (pre++cs)⟩:=by
 intro ss
 induction ss with
 | nil=>intro cs h pre;simp [allSome] at h;subst h;simp [SWays]
 | cons x ss ih =>
  intro cs h pre
  obtain ⟨c,cs,rfl,h1,h2⟩:=allSome_cons_inv h
  have hw:=says_change hid h1 ⟨L++(linesUp id pre).map slOf,D++delsOf pre,ownN pre⟩
  have hr:=ih h2 (pre++[c])
  rw [List.append_assoc,List.singleton_append] at hr
  refine ⟨_,hw,?_⟩
  have e1:(linesUp id (pre++[c])).map slOf=(linesUp id pre).map slOf++(if c.kind=1 then [slOf ⟨⟨id,ownN pre⟩,c.up,c.down,c.text⟩] else []):=by
   rw [linesUp_snoc,List.map_append];split<;>simp
  rw [e1,delsOf_snoc,ownN_snoc,← List.append_assoc,← List.append_assoc] at hr
  exact hr
theorem says_text {t:List UInt8} {p:PatchD} (h:parseS t=some p) (L:List SL) (D:List (List UInt8)):SWays p.id ⟨L,D,0⟩ (splitL 10 t) ⟨L++(linesOfS p).map slOf,D++delsOf p.changes,ownN p.changes⟩∧(splitL 10 t).length≤33:=by
 obtain ⟨_,h1,ws,ss,rfl,k1,k2,k3,k4,k5,k6,k7⟩:=parseS_iff.1 h
 have hid:0<p.id:=by
  have:=(nameS_some.1 k1).2
  omega
 have hws:∀ w∈ws,∀ x∈w,isDig x=true:=by
  intro w hw
  have:∀ (ws:List (List UInt8)) (ns:List Nat),allSome nameS ws=some ns→∀ w∈ws,∀ x∈w,isDig x=true:=by
   intro ws
   induction ws with
   | nil=>simp
   | cons v ws ih =>
    intro ns h w hw
    obtain ⟨b,bs,_,e1,e2⟩:=allSome_cons_inv h
    rcases List.mem_cons.1 hw with rfl | hw
    ·exact nameS_dig e1
    ·exact ih bs e2 w hw
  exact this ws _ k3 w hw
 have h1d:=nameS_dig k1
 have s0:splitL 10 ([112,97,116,99,104,32]++(h1++10::([110,101,101,100,115]++(ws.flatMap (32 :: ·)++10::ss.flatMap (· ++ [10])))))=([112,97,116,99,104,32]++h1)::([110,101,101,100,115]++ws.flatMap (32 :: ·))::(ss++[[]]):=by
  rw [← List.append_assoc,splitL_app,← List.append_assoc,splitL_app,splitL_flat k6]
  ·intro e
   simp only [List.mem_append,List.mem_flatMap,List.mem_cons] at e
   rcases e with e | ⟨w,hw,e⟩
   ·revert e;decide
   ·rcases e with e | e
    ·revert e;decide
    ·have:=hws w hw _ e;revert this;decide
  ·intro e
   rcases List.mem_append.1 e with e | e
   ·revert e;decide
   ·have:=h1d _ e;revert this;decide
 have s1:splitL 32 ([112,97,116,99,104,32]++h1)=[[112,97,116,99,104],h1]:=by
  rw [show ([112,97,116,99,104,32]++h1:List UInt8)=[112,97,116,99,104]++32::h1 by simp,splitL_app _ (by decide),splitL_not (not_dig h1d rfl)]
 have s2:splitL 32 ([110,101,101,100,115]++ws.flatMap (32 :: ·))=[110,101,101,100,115]::ws:=splitL_words (by decide) (fun s hs=>not_dig (hws s hs) rfl)
 rw [s0]
 refine ⟨⟨_,.inl ⟨_,_,s1,by decide,by decide,rfl⟩,_,.inl ⟨_,_,s2,by decide,by decide,rfl⟩,?_⟩,by simp;omega⟩
 have hc:=says_changes hid L D k7 []
 have e0:linesUp p.id []=[]:=rfl
 have e1:delsOf []=[]:=rfl
 have e2:ownN []=0:=rfl
 simp only [e0,e1,e2,List.map_nil,List.append_nil,List.nil_append] at hc
 exact hc.app ⟨_,.inl ⟨[],[],rfl,by decide,by decide,rfl⟩,rfl⟩
def deadN (ps:List PatchD):List (List UInt8):=ps.flatMap fun p=>delsOf p.changes
theorem isLn_pos {ps:List PatchD} (hinv:Inv ps) {k:Nat} (hk:k<nX ps):0<(lnX ps k).ref.p:=by
 have hm:=List.mem_of_getElem? (lnX_get hk)
 unfold linesS at hm
 obtain ⟨p,hp,hl⟩:=List.mem_flatMap.1 hm
 obtain ⟨t,ht,_⟩:=hinv.fine p hp
 obtain ⟨_,h1,ws,ss,rfl,k1,_⟩:=parseS_iff.1 ht
 have hid:0<p.id:=by
  have:=(nameS_some.1 k1).2
  omega
 unfold linesOfS linesUp at hl
 obtain ⟨x,_,e⟩:=List.mem_map.1 hl
 rw [← e]
 exact hid
theorem dead_iff {ps:List PatchD} {r:RefD} (hr:0<r.p):refS r∈deadN ps↔toldB ps r=true:=by
 unfold deadN delsOf toldB killsB
 simp only [List.mem_flatMap,List.mem_map,List.mem_filter,decide_eq_true_eq,List.any_eq_true,Bool.and_eq_true]
 constructor
 ·rintro ⟨p,hp,c,⟨hc,hk⟩,e⟩
  exact ⟨p,hp,c,hc,hk,eqb_iff.2 (refS_inj hr e)⟩
 ·rintro ⟨p,hp,c,hc,hk,e⟩
  exact ⟨p,hp,c,⟨hc,hk⟩,by rw [eqb_iff.1 e]⟩
theorem lines_range (ps:List PatchD):linesS ps=(List.range (nX ps)).map (lnX ps):=by
 apply List.ext_getElem?
 intro k
 by_cases hk:k<nX ps
 ·rw [lnX_get hk,List.getElem?_map,List.getElem?_range hk];rfl
 ·have h1:(linesS ps)[k]? = none:=List.getElem?_eq_none (by unfold nX at hk;omega)
  rw [h1,List.getElem?_eq_none (by simp;omega)]
def aliveN (ps:List PatchD):List SL:=((linesS ps).map slOf).filter fun l=>!decide (l.nm∈deadN ps)
theorem alive_eq {ps:List PatchD} (hinv:Inv ps):aliveN ps=(liv (nX ps) (ddX ps)).map fun k=>slOf (lnX ps k):=by
 unfold aliveN liv
 rw [lines_range,List.map_map,List.filter_map]
 congr 1
 refine List.filter_congr fun k hk=>?_
 have hk:=List.mem_range.1 hk
 have h1:(refS (lnX ps k).ref∈deadN ps)↔ddX ps k=true:=by
  rw [dead_iff (isLn_pos hinv hk),hdd_told hk]
 dsimp only [Function.comp,slOf]
 cases hd:ddX ps k
 ·rw [hd] at h1;simp [h1]
 ·rw [hd] at h1;simp [h1]
theorem ord_nodup (ps:List PatchD) (sd:Nat→Int):(ordX ps sd).Nodup:=by
 have o:=firstW_lin (fxX ps) (bkX ps) (rkX ps) sd
 refine (ordX_sort ps sd).imp fun {a b} h e=>?_
 rw [e,o.irr] at h
 cases h
theorem mem_liv {n:Nat} {dd:Nat→Bool} {k:Nat}:k∈liv n dd↔k<n∧dd k=false:=by
 unfold liv
 rw [List.mem_filter,List.mem_range,Bool.not_eq_true']
theorem liv_nodup (n:Nat) (dd:Nat→Bool):(liv n dd).Nodup:=List.Nodup.sublist List.filter_sublist List.nodup_range
theorem same_count (ps:List PatchD) (sd:Nat→Int) (f:Nat→Bool):((ordX ps sd).filter f).length=((liv (nX ps) (ddX ps)).filter f).length:=by
 refine Nat.le_antisymm (nodup_len ((ord_nodup ps sd).sublist List.filter_sublist) fun x hx=>?_) (nodup_len ((liv_nodup _ _).sublist List.filter_sublist) fun x hx=>?_)
 ·obtain ⟨h1,h2⟩:=List.mem_filter.1 hx
  exact List.mem_filter.2 ⟨mem_liv.2 (ordX_iff.1 h1),h2⟩
 ·obtain ⟨h1,h2⟩:=List.mem_filter.1 hx
  exact List.mem_filter.2 ⟨ordX_iff.2 (mem_liv.1 h1),h2⟩
theorem ord_len (ps:List PatchD) (sd:Nat→Int):(ordX ps sd).length=(liv (nX ps) (ddX ps)).length:=by
 have:=same_count ps sd fun _=>true
 rw [List.filter_eq_self.2 (by simp),List.filter_eq_self.2 (by simp)] at this
 exact this
theorem free_ex {T S:List (List UInt8)} {m:Nat} {U:List Nat} {t:List UInt8} (hc:∀ t,(T.filter fun x=>decide (x=t)).length=(S.filter fun x=>decide (x=t)).length) (hU:(U.map fun k=>T.getD k [])=S.take m) (hm:S[m]? = some t):∃ k,T[k]? = some t∧k∉U:=by
 apply Classical.byContradiction
 intro hno
 have hall:∀ k,T[k]? = some t→k∈U:=fun k hk=>Classical.byContradiction fun e=>hno ⟨k,hk,e⟩
 have hT:T=(List.range T.length).map fun k=>T.getD k []:=by
  apply List.ext_getElem?
  intro k
  by_cases hk:k<T.length
  ·rw [List.getElem?_map,List.getElem?_range hk]
   simp [List.getD_eq_getElem?_getD,List.getElem?_eq_getElem hk]
  ·rw [List.getElem?_eq_none (by omega),List.getElem?_eq_none (by simp;omega)]
 have e1:(T.filter fun x=>decide (x=t)).length=((List.range T.length).filter fun k=>decide (T.getD k []=t)).length:=by
  conv=>lhs;rw [hT]
  rw [List.filter_map,List.length_map]
  rfl
 have e2:((List.range T.length).filter fun k=>decide (T.getD k []=t)).length≤(U.filter fun k=>decide (T.getD k []=t)).length:=by
  refine nodup_len (List.nodup_range.sublist List.filter_sublist) fun k hk=>?_
  obtain ⟨h1,h2⟩:=List.mem_filter.1 hk
  have h1:=List.mem_range.1 h1
  refine List.mem_filter.2 ⟨hall k ?_,h2⟩
  rw [List.getElem?_eq_getElem h1]
  have:=of_decide_eq_true h2
  simpa [List.getD_eq_getElem?_getD,List.getElem?_eq_getElem h1] using this
 have e3:(U.filter fun k=>decide (T.getD k []=t)).length=((S.take m).filter fun x=>decide (x=t)).length:=by
  rw [← hU,List.filter_map,List.length_map]
  rfl
 have e4:((S.take m).filter fun x=>decide (x=t)).length+1≤(S.filter fun x=>decide (x=t)).length:=by
  obtain ⟨hl,e⟩:=List.getElem?_eq_some_iff.1 hm
  have h1:((S.take (m+1)).filter fun x=>decide (x=t)).length≤(S.filter fun x=>decide (x=t)).length:=((List.take_sublist _ _).filter _).length_le
  rw [List.take_succ_eq_append_getElem hl,List.filter_append,e] at h1
  simpa using h1
 have:=hc t
 omega
def txN (ps:List PatchD) (sd:Nat→Int):List (List UInt8):=(ordX ps sd).map fun k=>(lnX ps k).text
def mkN (ps:List PatchD) (sd:Nat→Int) (orx:Nat→Bool):List (List UInt8):=(ordX ps sd).map fun k=>[UInt8.ofNat (markX ps orx k)]
theorem ways_items {ps:List PatchD} {sd:Nat→Int} {orx:Nat→Bool} (hs:StrX ps sd):∃ n al,Ways ⟨[],[],false,0,0⟩ (showW (itemsX ps sd orx)) ⟨txN ps sd,mkN ps sd orx,false,n,al⟩:=by
 have h:=ways_show (items_ok (orx:=orx) hs) (items_two hs)
 have e1:((itemsX ps sd orx).map fun x=>x.t.drop 1)=txN ps sd:=by simp [itemsX,txN]
 have e2:((itemsX ps sd orx).map fun x=>x.t.take 1)=mkN ps sd orx:=by simp [itemsX,mkN]
 rw [e1,e2] at h
 exact h
theorem tx_count {ps:List PatchD} (hinv:Inv ps) (sd:Nat→Int) (t:List UInt8):((txN ps sd).filter fun x=>decide (x=t)).length=(((aliveN ps).map SL.tx).filter fun x=>decide (x=t)).length:=by
 unfold txN
 rw [alive_eq hinv,List.map_map,List.filter_map,List.length_map,List.filter_map,List.length_map]
 exact same_count ps sd _
theorem tx_len {ps:List PatchD} (hinv:Inv ps) (sd:Nat→Int):(txN ps sd).length=(aliveN ps).length:=by
 rw [alive_eq hinv];simp [txN,ord_len]
theorem blank_iff {ps:List PatchD} {sd:Nat→Int} {orx:Nat→Bool}:blankX ps orx (ordX ps sd)=decide (∀ x∈mkN ps sd orx,x=[32]):=by
 rw [Bool.eq_iff_iff,decide_eq_true_iff]
 unfold blankX mkN
 rw [List.all_eq_true]
 have mk4:∀ k,markX ps orx k=33∨markX ps orx k=64∨markX ps orx k=32∨markX ps orx k=124:=fun k=>by
  unfold markX
  split
  ·simp
  ·split
   ·simp
   ·split<;>simp
 constructor
 ·intro h x hx
  obtain ⟨k,hk,rfl⟩:=List.mem_map.1 hx
  rw [of_decide_eq_true (h k hk)]
  rfl
 ·intro h k hk
  have:=h _ (List.mem_map.2 ⟨k,hk,rfl⟩)
  rcases mk4 k with e | e | e | e<;>rw [e] at this ⊢<;>revert this<;>decide
structure Put (A:List SL) (T M:List (List UInt8)):Prop where
 at_:∀ l∈A,∃ k:Nat,T[k]? = some l.tx
 ok:∀ l∈A,∀ x∈A,∀ k j:Nat,T[k]? = some l.tx→T[j]? = some x.tx→∃ mk mj,M[k]? = some mk∧M[j]? = some mj∧((mj=[64]∨mj=[33])∧(mk=[64]∨mk=[33])∨((l.up=x.nm→j≤k)∧(l.dn=x.nm→k≤j)))
theorem put_ok {ps:List PatchD} (hinv:Inv ps) {sd:Nat→Int} {orx:Nat→Bool} (hs:StrX ps sd) (hd:∀ (i j:Nat) (x y:SL),(aliveN ps)[i]? = some x→(aliveN ps)[j]? = some y→i≠j→x.tx≠y.tx):Put (aliveN ps) (txN ps sd) (mkN ps sd orx):=by
 have hA:=alive_eq hinv
 have mem:∀ l∈aliveN ps,∃ a,a<nX ps∧ddX ps a=false∧l=slOf (lnX ps a):=fun l hl=>by
  rw [hA] at hl
  obtain ⟨a,ha,rfl⟩:=List.mem_map.1 hl
  exact ⟨a,(mem_liv.1 ha).1,(mem_liv.1 ha).2,rfl⟩
 have pos:∀ {a:Nat},a<nX ps→ddX ps a=false→∃ x,(ordX ps sd)[x]? = some a:=fun {a} h1 h2=>List.getElem?_of_mem (ordX_iff.2 ⟨h1,h2⟩)
 have txt:∀ {a x:Nat},(ordX ps sd)[x]? = some a→(txN ps sd)[x]? = some (lnX ps a).text:=fun {a x} h=>by unfold txN;rw [List.getElem?_map,h];rfl
 have idx:∀ {a:Nat},a<nX ps→ddX ps a=false→∃ i,(aliveN ps)[i]? = some (slOf (lnX ps a))∧(liv (nX ps) (ddX ps))[i]? = some a:=fun {a} h1 h2=>by
  obtain ⟨i,hi⟩:=List.getElem?_of_mem (mem_liv.2 ⟨h1,h2⟩)
  exact ⟨i,by rw [hA,List.getElem?_map,hi];rfl,hi⟩
 have one:∀ {a b:Nat},a<nX ps→ddX ps a=false→b<nX ps→ddX ps b=false→(lnX ps a).text=(lnX ps b).text→a=b:=fun {a b} h1 h2 h3 h4 e=>by
  obtain ⟨i,hi,hi'⟩:=idx h1 h2
  obtain ⟨j,hj,hj'⟩:=idx h3 h4
  by_cases hij:i=j
  ·subst hij
   rw [hi'] at hj'
   exact Option.some.inj hj'
  ·exact absurd e (hd i j _ _ hi hj hij)
 have back:∀ {a k:Nat},a<nX ps→ddX ps a=false→(txN ps sd)[k]? = some (lnX ps a).text→(ordX ps sd)[k]? = some a:=fun {a k} h1 h2 h=>by
  unfold txN at h
  rw [List.getElem?_map] at h
  cases e:(ordX ps sd)[k]? with
  | none=>rw [e] at h;cases h
  | some b =>
   rw [e] at h
   obtain ⟨h3,h4⟩:=ordX_iff.1 (List.mem_of_getElem? e)
   rw [one h3 h4 h1 h2 (Option.some.inj h)]
 refine ⟨fun l hl=>?_,fun l hl x hx k j hk hj=>?_⟩
 ·obtain ⟨a,h1,h2,rfl⟩:=mem l hl
  obtain ⟨x,hx⟩:=pos h1 h2
  exact ⟨x,txt hx⟩
 ·obtain ⟨a,h1,h2,rfl⟩:=mem l hl
  obtain ⟨b,h3,h4,rfl⟩:=mem x hx
  have ka:=back h1 h2 hk
  have jb:=back h3 h4 hj
  refine ⟨[UInt8.ofNat (markX ps orx a)],[UInt8.ofNat (markX ps orx b)],by unfold mkN;rw [List.getElem?_map,ka];rfl,by unfold mkN;rw [List.getElem?_map,jb];rfl,?_⟩
  have free:∀ {c:Nat},markX ps orx c=33∨markX ps orx c=64→[UInt8.ofNat (markX ps orx c)]=[64]∨[UInt8.ofNat (markX ps orx c)]=[33]:=fun {c} h=>by
   rcases h with e | e<;>rw [e]
   ·exact .inr rfl
   ·exact .inl rfl
  have up:(slOf (lnX ps a)).up=(slOf (lnX ps b)).nm→(lnX ps a).up=(lnX ps b).ref:=fun e=>refS_inj (isLn_pos hinv h3) e
  have dn:(slOf (lnX ps a)).dn=(slOf (lnX ps b)).nm→(lnX ps a).down=(lnX ps b).ref:=fun e=>refS_inj (isLn_pos hinv h3) e
  by_cases hf:(markX ps orx a=33∨markX ps orx a=64)∧(markX ps orx b=33∨markX ps orx b=64)
  ·exact .inl ⟨free hf.2,free hf.1⟩
  ·right
   refine ⟨fun e=>?_,fun e=>?_⟩
   ·rcases up_order (orx:=orx) hs hinv.nodup ka jb (up e) with q | ⟨q1,q2⟩
    ·exact q
    ·exact absurd ⟨q2,q1⟩ hf
   ·rcases down_order (orx:=orx) hs hinv.nodup ka jb (dn e) with q | q
    ·exact q
    ·exact absurd q hf
end Go.Proofs.YtlaffgagmncgjabDoor
