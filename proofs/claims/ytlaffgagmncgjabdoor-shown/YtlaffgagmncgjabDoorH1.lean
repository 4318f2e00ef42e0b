import Derived.Test.YtlaffgagmncgjabDoorN1
namespace Go.Proofs.YtlaffgagmncgjabDoor
open Go Go.Pat Go.Proofs
structure LSt where
 (tx mr:List (List UInt8)) (inn:Bool) (n al:Nat)
def Way (s:LSt) (x:List UInt8) (s':LSt):Prop :=
 (x=[60]∧s.inn=false∧s'=⟨s.tx,s.mr,true,0,0⟩) ∨
 (x=[61]∧s.inn=true∧0<s.n∧s'=⟨s.tx,s.mr,true,0,s.al⟩) ∨
 (x=[62]∧s.inn=true∧0<s.n∧2≤s.al∧s'=⟨s.tx,s.mr,false,0,s.al⟩) ∨
 ∃ c t,x=c::t∧((c=32∧s.inn=false)∨(c=124∧s.inn=true)∨(c=64∧s.inn=true)∨c=33)∧s'=⟨s.tx++[t],s.mr++[[c]],s.inn,s.n+1,s.al+1⟩
def Ways:LSt→List (List UInt8)→LSt→Prop
 | s,[],s'=>s'=s
 | s,x::l,s'=>∃ s1,Way s x s1∧Ways s1 l s'
theorem Ways.app:∀ {l m:List (List UInt8)} {s s1 s2:LSt},Ways s l s1→Ways s1 m s2→Ways s (l++m) s2
 | [],m,s,s1,s2,h1,h2=>by cases h1;exact h2
 | x::l,m,s,s1,s2,⟨s0,h0,h1⟩,h2=>⟨s0,h0,Ways.app h1 h2⟩
theorem Ways.one {x:List UInt8} {s s1:LSt} (h:Way s x s1):Ways s [x] s1:=⟨s1,h,rfl⟩
def ItOk (x:IT):Prop:=∃ c t,x.t=c::t∧((x.st = -1∧c=32)∨(x.st ≠ -1∧(c=124∨c=64))∨c=33)
def Twos (I:List IT):Prop:=∀ k,k<I.length→stW I (k+1) ≠ -1→stW I k ≠ -1∨(k+1<I.length∧stW I (k+2) ≠ -1)
theorem ways_to {I:List IT} (hI:∀ x∈I,ItOk x) (h2:Twos I):∀ k,k≤I.length→∃ n al,Ways ⟨[],[],false,0,0⟩ (itTo I k) ⟨(I.take k).map fun x=>x.t.drop 1,(I.take k).map fun x=>x.t.take 1,decide (stW I k ≠ -1),n,al⟩∧(stW I k ≠ -1→0<n∧1≤al∧(al=1→stW I (k-1) = -1)):=by
 intro k
 induction k with
 | zero=>intro _;exact ⟨0,0,by simp [itTo,Ways];rfl,fun h=>absurd rfl h⟩
 | succ k ih =>
  intro hk
  obtain ⟨n,al,hw,hq⟩:=ih (by omega)
  have hg:I[k]? = some I[k]:=List.getElem?_eq_getElem (by omega)
  obtain ⟨c,t,ht,hc⟩:=hI I[k] (List.getElem_mem _)
  have hst:=stW_succ hg
  rw [itTo_succ,List.take_succ_eq_append_getElem (by omega),List.map_append,List.map_append]
  have hit:itW I k=sgW (signW (stW I k) (I[k]).st)++[c::t]:=by unfold itW;rw [hg];simp only [ht]
  rw [hit,hst]
  have e1:([I[k]].map fun x=>x.t.drop 1)=[t]:=by simp [ht]
  have e2:([I[k]].map fun x=>x.t.take 1)=[[c]]:=by simp [ht]
  rw [e1,e2]
  generalize (I.take k).map (fun x=>x.t.drop 1)=T at hw ⊢
  generalize (I.take k).map (fun x=>x.t.take 1)=M at hw ⊢
  have last:∀ (n al:Nat),Ways ⟨T,M,decide ((I[k]).st ≠ -1),n,al⟩ [c::t] ⟨T++[t],M++[[c]],decide ((I[k]).st ≠ -1),n+1,al+1⟩:=fun n al=>by
   refine Ways.one (.inr (.inr (.inr ⟨c,t,rfl,?_,rfl⟩)))
   rcases hc with ⟨h1,h2⟩ | ⟨h1,h2 | h2⟩ | h2
   ·exact .inl ⟨h2,by simp [h1]⟩
   ·exact .inr (.inl ⟨h2,by simp [h1]⟩)
   ·exact .inr (.inr (.inl ⟨h2,by simp [h1]⟩))
   ·exact .inr (.inr (.inr h2))
  have sub1:k+1-1=k:=by omega
  rw [sub1]
  by_cases ha:stW I k=(I[k]).st
  ·rw [show sgW (signW (stW I k) (I[k]).st)=[] by simp [signW,sgW,ha]]
   rw [ha] at hw
   refine ⟨n+1,al+1,hw.app (last n al),fun h=>?_⟩
   have:=hq (by rw [ha];exact h)
   exact ⟨by omega,by omega,fun e=>by omega⟩
  ·by_cases hb:stW I k = -1
   ·have hne:(I[k]).st ≠ -1:=fun e=>ha (hb.trans e.symm)
    have hne':¬ (-1=(I[k]).st):=fun e=>hne e.symm
    rw [show sgW (signW (stW I k) (I[k]).st)=[[60]] by simp [signW,sgW,hb,hne']]
    have h0:Ways ⟨T,M,decide (stW I k ≠ -1),n,al⟩ [[60]] ⟨T,M,decide ((I[k]).st ≠ -1),0,0⟩:=Ways.one (.inl ⟨rfl,by simp [hb],by simp [hne]⟩)
    exact ⟨1,1,hw.app (h0.app (last 0 0)),fun _=>⟨by omega,by omega,fun _=>hb⟩⟩
   ·obtain ⟨q1,q2,q3⟩:=hq hb
    by_cases hd:(I[k]).st = -1
    ·rw [show sgW (signW (stW I k) (I[k]).st)=[[62]] by simp [signW,sgW,hb,hd]]
     have hal:2≤al:=by
      have hk0:k≠0:=fun e=>hb (by rw [e];rfl)
      obtain ⟨m,rfl⟩:∃ m,k=m+1:=⟨k-1,by omega⟩
      rcases h2 m (by omega) hb with e | ⟨_,e⟩
      ·have:al≠1:=fun e'=>e (q3 e')
       omega
      ·rw [hst] at e;exact absurd hd e
     have h0:Ways ⟨T,M,decide (stW I k ≠ -1),n,al⟩ [[62]] ⟨T,M,decide ((I[k]).st ≠ -1),0,al⟩:=Ways.one (.inr (.inr (.inl ⟨rfl,by simp [hb],q1,hal,by simp [hd]⟩)))
     exact ⟨1,al+1,hw.app (h0.app (last 0 al)),fun h=>absurd hd h⟩
    ·rw [show sgW (signW (stW I k) (I[k]).st)=[[61]] by simp [signW,sgW,hb,hd,ha]]
     have h0:Ways ⟨T,M,decide (stW I k ≠ -1),n,al⟩ [[61]] ⟨T,M,decide ((I[k]).st ≠ -1),0,al⟩:=Ways.one (.inr (.inl ⟨rfl,by simp [hb],q1,by simp [hd]⟩))
     exact ⟨1,al+1,hw.app (h0.app (last 0 al)),fun _=>⟨by omega,by omega,fun e=>by omega⟩⟩
theorem ways_show {I:List IT} (hI:∀ x∈I,ItOk x) (h2:Twos I):∃ n al,Ways ⟨[],[],false,0,0⟩ (showW I) ⟨I.map fun x=>x.t.drop 1,I.map fun x=>x.t.take 1,false,n,al⟩:=by
 obtain ⟨n,al,hw,hq⟩:=ways_to hI h2 I.length (Nat.le_refl _)
 rw [List.take_length] at hw
 unfold showW endW
 by_cases hb:stW I I.length = -1
 ·rw [if_pos hb,List.append_nil]
  simp only [hb] at hw
  exact ⟨n,al,hw⟩
 ·rw [if_neg hb]
  obtain ⟨q1,q2,q3⟩:=hq hb
  have hk0:I.length≠0:=fun e=>hb (by rw [e];rfl)
  obtain ⟨m,hm⟩:∃ m,I.length=m+1:=⟨I.length-1,by omega⟩
  have hal:2≤al:=by
   rcases h2 m (by omega) (by rw [← hm];exact hb) with e | ⟨e,_⟩
   ·have:al≠1:=fun e'=>e (by have:=q3 e';rw [hm] at this;exact this)
    omega
   ·omega
  exact ⟨0,al,hw.app (Ways.one (.inr (.inr (.inl ⟨rfl,by simp [hb],q1,hal,rfl⟩))))⟩
section
variable {ps:List PatchD}
theorem fx_all {s y:Nat} (h:fxX ps s=true) (hy:y<nX ps) (hne:y≠s) (dy:ddX ps y=false):aheadW (ddX ps) (onS ps) y s=true∨aheadW (ddX ps) (onS ps) s y=true:=by
 unfold fxX setW at h
 rw [Bool.and_eq_true,List.all_eq_true] at h
 have:=h.2 y (List.mem_range.2 hy)
 simpa [hne,dy] using this
theorem fx_none {a x:Nat} (hx:x<nX ps) (hne:x≠a) (dx:ddX ps x=false) (h1:aheadW (ddX ps) (onS ps) x a=false) (h2:aheadW (ddX ps) (onS ps) a x=false):fxX ps a=false:=by
 cases h:fxX ps a
 ·rfl
 ·rcases fx_all h hx hne dx with e | e
  ·rw [h1] at e;cases e
  ·rw [h2] at e;cases e
theorem fx_ex {a:Nat} (da:ddX ps a=false) (fa:fxX ps a=false):∃ j,j<nX ps∧j≠a∧ddX ps j=false∧aheadW (ddX ps) (onS ps) j a=false∧aheadW (ddX ps) (onS ps) a j=false:=by
 unfold fxX setW at fa
 rw [da,Bool.not_false,Bool.true_and,List.all_eq_false] at fa
 obtain ⟨j,hj,h⟩:=fa
 simp only [Bool.or_eq_true,decide_eq_true_eq,not_or,Bool.not_eq_true] at h
 exact ⟨j,List.mem_range.1 hj,h.1.1,h.1.2,h.2.1,h.2.2⟩
theorem mate_side {x y s:Nat} (hx:x<nX ps) (hy:y<nX ps) (hs:s<nX ps) (dy:ddX ps y=false) (fy:fxX ps y=false) (h:aheadW (ddX ps) (onS ps) y x=false) (hf:fxX ps s=true) (ha:aheadW (ddX ps) (onS ps) s x=true):aheadW (ddX ps) (onS ps) s y=true:=by
 have hne:y≠s:=fun e=>by rw [e,hf] at fy;cases fy
 rcases fx_all hf hy hne dy with e | e
 ·rw [aheadW_trans hy hs hx e ha] at h;cases h
 ·exact e
theorem mate {a:Nat} (ha:a<nX ps) (da:ddX ps a=false) (fa:fxX ps a=false):∃ j,j<nX ps∧j≠a∧ddX ps j=false∧fxX ps j=false∧bkX ps j=bkX ps a:=by
 obtain ⟨j,hj,hne,dj,h1,h2⟩:=fx_ex da fa
 have fj:fxX ps j=false:=fx_none ha (fun e=>hne e.symm) da h2 h1
 refine ⟨j,hj,hne,dj,fj,?_⟩
 unfold bkX blockW
 congr 1
 refine List.filter_congr fun s hs=>?_
 have hs:=List.mem_range.1 hs
 cases hf:fxX ps s
 ·simp
 ·rw [Bool.and_true,Bool.and_true]
  have p1:=mate_side hj ha hs da fa h2 hf
  have p2:=mate_side ha hj hs dj fj h1 hf
  cases e1:aheadW (ddX ps) (onS ps) s j<;>cases e2:aheadW (ddX ps) (onS ps) s a<;>simp_all
theorem ring_loose {a:Nat} (h:ringW (nX ps) (ddX ps) (onS ps) a=true):fxX ps a=false:=by
 unfold ringW at h
 rw [List.any_eq_true] at h
 obtain ⟨j,hj,h⟩:=h
 simp only [Bool.and_eq_true,Bool.not_eq_true',decide_eq_false_iff_not] at h
 obtain ⟨⟨h1,h2⟩,h3,h4⟩:=h
 refine fx_none (List.mem_range.1 hj) h1 h2 ?_ ?_
 ·cases e:aheadW (ddX ps) (onS ps) j a
  ·rfl
  ·have:=(aheadW_iff.1 e).2.2.2;rw [h3] at this;cases this
 ·cases e:aheadW (ddX ps) (onS ps) a j
  ·rfl
  ·have:=(aheadW_iff.1 e).2.2.2;rw [h4] at this;cases this
theorem sd_iff {sd:Nat→Int} (hs:StrX ps sd) {a:Nat} (ha:a<nX ps) (da:ddX ps a=false):sd a = -1↔fxX ps a=true:=by
 constructor
 ·intro e
  cases h:fxX ps a
  ·obtain ⟨r,_,h2⟩:=hs.loose a ha da h
   omega
  ·rfl
 ·exact hs.fixed a ha da
theorem items_ok {sd:Nat→Int} {orx:Nat→Bool} (hs:StrX ps sd):∀ x∈itemsX ps sd orx,ItOk x:=by
 intro x hx
 unfold itemsX at hx
 obtain ⟨k,hk,rfl⟩:=List.mem_map.1 hx
 obtain ⟨hk,dk⟩:=ordX_iff.1 hk
 refine ⟨_,_,rfl,?_⟩
 have h1:=sd_iff hs hk dk
 dsimp only
 unfold markX
 by_cases ho:orx k=true
 ·rw [if_pos ho];exact .inr (.inr rfl)
 ·rw [if_neg ho]
  by_cases hr:ringW (nX ps) (ddX ps) (onS ps) k=true
  ·rw [if_pos hr]
   exact .inr (.inl ⟨fun e=>(by have:=h1.1 e;rw [ring_loose hr] at this;cases this),.inr rfl⟩)
  ·rw [if_neg hr]
   by_cases hf:fxX ps k=true
   ·rw [if_pos hf];exact .inl ⟨h1.2 hf,rfl⟩
   ·rw [if_neg hf];exact .inr (.inl ⟨fun e=>hf (h1.1 e),.inl rfl⟩)
theorem items_st {sd:Nat→Int} {orx:Nat→Bool} {k a:Nat} (h:(ordX ps sd)[k]? = some a):stW (itemsX ps sd orx) (k+1)=sd a:=by
 refine stW_succ (x:=⟨sd a,UInt8.ofNat (markX ps orx a)::(lnX ps a).text⟩) ?_
 unfold itemsX
 rw [List.getElem?_map,h];rfl
theorem items_two {sd:Nat→Int} {orx:Nat→Bool} (hs:StrX ps sd):Twos (itemsX ps sd orx):=by
 intro k hk hst
 have hl:(itemsX ps sd orx).length=(ordX ps sd).length:=by simp [itemsX]
 rw [hl] at hk ⊢
 have hg:(ordX ps sd)[k]? = some (ordX ps sd)[k]:=List.getElem?_eq_getElem hk
 generalize (ordX ps sd)[k]=a at hg
 rw [items_st hg] at hst
 obtain ⟨ha,da⟩:=ordX_iff.1 (List.mem_of_getElem? hg)
 have fa:fxX ps a=false:=by
  cases e:fxX ps a
  ·rfl
  ·exact absurd ((sd_iff hs ha da).2 e) hst
 obtain ⟨j,hj,hne,dj,fj,hbk⟩:=mate ha da fa
 obtain ⟨q,hq⟩:=List.getElem?_of_mem (ordX_iff.2 ⟨hj,dj⟩:j∈ordX ps sd)
 have hql:=(List.getElem?_eq_some_iff.1 hq).1
 have srt:∀ {x y u v:Nat},x<y→(ordX ps sd)[x]? = some u→(ordX ps sd)[y]? = some v→firstW (fxX ps) (bkX ps) (rkX ps) sd u v=true:=fun {x y u v} hxy hu hv=>by
  obtain ⟨lu,eu⟩:=List.getElem?_eq_some_iff.1 hu
  obtain ⟨lv,ev⟩:=List.getElem?_eq_some_iff.1 hv
  rw [← eu,← ev]
  exact List.pairwise_iff_getElem.1 (ordX_sort ps sd) x y lu lv hxy
 have mid:∀ {x y u v b m:Nat},x<m→m<y→(ordX ps sd)[x]? = some u→(ordX ps sd)[m]? = some b→(ordX ps sd)[y]? = some v→bkX ps u=bkX ps v→fxX ps v=false→fxX ps b=false:=fun {x y u v b m} h1 h2 hu hb hv e ev=>by
  have f1:=firstW_iff.1 (srt h1 hu hb)
  have f2:=firstW_iff.1 (srt h2 hb hv)
  rw [ev] at f2
  cases hfb:fxX ps b
  ·rfl
  ·rw [hfb] at f2
   simp at f2
   omega
 have loose:∀ {b m:Nat},(ordX ps sd)[m]? = some b→fxX ps b=false→stW (itemsX ps sd orx) (m+1) ≠ -1:=fun {b m} hb fb e=>by
  rw [items_st hb] at e
  obtain ⟨lb,db⟩:=ordX_iff.1 (List.mem_of_getElem? hb)
  rw [(sd_iff hs lb db).1 e] at fb
  cases fb
 have hqk:q≠k:=fun e=>by subst e;rw [hg] at hq;exact hne (Option.some.inj hq).symm
 by_cases hlt:k<q
 ·right
  refine ⟨by omega,?_⟩
  obtain ⟨b,hg1⟩:∃ b,(ordX ps sd)[k+1]? = some b:=⟨_,List.getElem?_eq_getElem (by omega)⟩
  refine loose hg1 ?_
  by_cases e:k+1=q
  ·rw [e] at hg1
   rw [hq] at hg1
   rw [← Option.some.inj hg1];exact fj
  ·exact mid (Nat.lt_succ_self k) (by omega) hg hg1 hq hbk.symm fj
 ·left
  obtain ⟨m,rfl⟩:∃ m,k=m+1:=⟨k-1,by omega⟩
  obtain ⟨b,hg1⟩:∃ b,(ordX ps sd)[m]? = some b:=⟨_,List.getElem?_eq_getElem (by omega)⟩
  refine loose hg1 ?_
  by_cases e:m=q
  ·rw [← e] at hq
   rw [hq] at hg1
   rw [← Option.some.inj hg1];exact fj
  ·exact mid (show q<m by omega) (Nat.lt_succ_self m) hq hg1 hg hbk fa
end
section
variable {ps:List PatchD} {sd:Nat→Int}
theorem ord_lt {a b x y:Nat} (hx:(ordX ps sd)[x]? = some a) (hy:(ordX ps sd)[y]? = some b) (h:firstW (fxX ps) (bkX ps) (rkX ps) sd a b=true):x<y:=by
 obtain ⟨lx,ex⟩:=List.getElem?_eq_some_iff.1 hx
 obtain ⟨ly,ey⟩:=List.getElem?_eq_some_iff.1 hy
 have o:=firstW_lin (fxX ps) (bkX ps) (rkX ps) sd
 rcases Nat.lt_trichotomy x y with e | e | e
 ·exact e
 ·subst e
  rw [hx] at hy
  rw [Option.some.inj hy,o.irr] at h
  cases h
 ·have:=List.pairwise_iff_getElem.1 (ordX_sort ps sd) y x ly lx e
  rw [ex,ey] at this
  have:=o.tr _ _ _ h this
  rw [o.irr] at this
  cases this
theorem ord_eq {a x y:Nat} (hx:(ordX ps sd)[x]? = some a) (hy:(ordX ps sd)[y]? = some a):x=y:=by
 obtain ⟨lx,ex⟩:=List.getElem?_eq_some_iff.1 hx
 obtain ⟨ly,ey⟩:=List.getElem?_eq_some_iff.1 hy
 have o:=firstW_lin (fxX ps) (bkX ps) (rkX ps) sd
 rcases Nat.lt_trichotomy x y with e | e | e
 ·have:=List.pairwise_iff_getElem.1 (ordX_sort ps sd) x y lx ly e
  rw [ex,ey,o.irr] at this
  cases this
 ·exact e
 ·have:=List.pairwise_iff_getElem.1 (ordX_sort ps sd) y x ly lx e
  rw [ex,ey,o.irr] at this
  cases this
theorem ring_of {a b:Nat} (hb:b<nX ps) (db:ddX ps b=false) (hne:b≠a) (h1:getB (onS ps) a b=true) (h2:getB (onS ps) b a=true):ringW (nX ps) (ddX ps) (onS ps) a=true:=by
 unfold ringW
 rw [List.any_eq_true]
 exact ⟨b,List.mem_range.2 hb,by simp [hne,db,h1,h2]⟩
theorem ring_mark {orx:Nat→Bool} {a:Nat} (h:ringW (nX ps) (ddX ps) (onS ps) a=true):markX ps orx a=33∨markX ps orx a=64:=by
 unfold markX
 by_cases ho:orx a=true
 ·rw [if_pos ho];exact .inl rfl
 ·rw [if_neg ho,if_pos h];exact .inr rfl
theorem on_order (hs:StrX ps sd) {orx:Nat→Bool} {a b x y:Nat} (hx:(ordX ps sd)[x]? = some a) (hy:(ordX ps sd)[y]? = some b) (h:getB (onS ps) a b=true):x≤y∨((markX ps orx a=33∨markX ps orx a=64)∧(markX ps orx b=33∨markX ps orx b=64)):=by
 obtain ⟨ha,da⟩:=ordX_iff.1 (List.mem_of_getElem? hx)
 obtain ⟨hb,db⟩:=ordX_iff.1 (List.mem_of_getElem? hy)
 by_cases e:a=b
 ·subst e
  exact .inl (Nat.le_of_eq (ord_eq hx hy))
 cases h2:getB (onS ps) b a
 ·exact .inl (Nat.le_of_lt (ord_lt hx hy (ahead_first hs ha hb (aheadW_iff.2 ⟨da,db,h,h2⟩))))
 ·exact .inr ⟨ring_mark (ring_of hb db (fun e'=>e e'.symm) h h2),ring_mark (ring_of ha da e h2 h)⟩
theorem up_order (hs:StrX ps sd) (hid:(ps.map PatchD.id).Nodup) {orx:Nat→Bool} {a b x y:Nat} (hx:(ordX ps sd)[x]? = some a) (hy:(ordX ps sd)[y]? = some b) (h:(lnX ps a).up=(lnX ps b).ref):y≤x∨((markX ps orx b=33∨markX ps orx b=64)∧(markX ps orx a=33∨markX ps orx a=64)):=by
 have ha:=(ordX_iff.1 (List.mem_of_getElem? hx)).1
 have hb:=(ordX_iff.1 (List.mem_of_getElem? hy)).1
 exact on_order hs hy hx ((leadR_at hid hb ha).1 (LeadR.said hid (isLn_at hb) (isLn_at ha) (.inl ⟨_,List.mem_of_getElem? (lnX_get ha),.inl ⟨h,rfl⟩⟩)))
theorem down_order (hs:StrX ps sd) (hid:(ps.map PatchD.id).Nodup) {orx:Nat→Bool} {a b x y:Nat} (hx:(ordX ps sd)[x]? = some a) (hy:(ordX ps sd)[y]? = some b) (h:(lnX ps a).down=(lnX ps b).ref):x≤y∨((markX ps orx a=33∨markX ps orx a=64)∧(markX ps orx b=33∨markX ps orx b=64)):=by
 have ha:=(ordX_iff.1 (List.mem_of_getElem? hx)).1
 have hb:=(ordX_iff.1 (List.mem_of_getElem? hy)).1
 exact on_order hs hx hy ((leadR_at hid ha hb).1 (LeadR.said hid (isLn_at ha) (isLn_at hb) (.inl ⟨_,List.mem_of_getElem? (lnX_get ha),.inr ⟨rfl,h⟩⟩)))
end
end Go.Proofs.YtlaffgagmncgjabDoor
