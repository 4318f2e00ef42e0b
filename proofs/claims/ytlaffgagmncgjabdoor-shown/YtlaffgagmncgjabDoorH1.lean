import Derived.Test.YtlaffgagmncgjabDoorN1
import Derived.Test.YtlaffgagmncgjabDoorK2
set_option maxRecDepth 20000
set_option maxHeartbeats 12800000
namespace Go.Proofs.YtlaffgagmncgjabDoor
open Go Go.Pat Go.Proofs
structure LSt where
 (tx mr:List (List UInt8)) (inn:Bool) (n al:Nat)
def Way (s:LSt) (x:List UInt8) (s':LSt):Prop :=
 (x=[60]∧s.inn=false∧s'=⟨s.tx,s.mr,true,0,0⟩) ∨
 (x=[61]∧s.inn=true∧0<s.n∧s'=⟨s.tx,s.mr,true,0,s.al⟩) ∨
 (x=[62]∧s.inn=true∧0<s.n∧2≤s.al∧s'=⟨s.tx,s.mr,false,0,s.al⟩) ∨
 ∃ c t,x=c::t∧((c=32∧s.inn=false)∨(c=124∧s.inn=true)∨(c=64∧s.inn=true)∨c=33)∧s'=⟨s.tx++[t],s.mr++[[c]],s.inn,s.n+1,s.al+1⟩
def Ways:LSt→List (List UInt8)→LSt→Prop
 | s,[],s'=>s'=s
 | s,x::l,s'=>∃ s1,Way s x s1∧Ways s1 l s'
theorem Ways.app:∀ {l m:List (List UInt8)} {s s1 s2:LSt},Ways s l s1→Ways s1 m s2→Ways s (l++m) s2
 | [],m,s,s1,s2,h1,h2=>by cases h1;exact h2
 | x::l,m,s,s1,s2,⟨s0,h0,h1⟩,h2=>⟨s0,h0,Ways.app h1 h2⟩
theorem Ways.one {x:List UInt8} {s s1:LSt} (h:Way s x s1):Ways s [x] s1:=⟨s1,h,rfl⟩
def ItOk (x:IT):Prop:=∃ c t,x.t=c::t∧((x.st = -1∧c=32)∨(x.st ≠ -1∧(c=124∨c=64))∨c=33)
def Twos (I:List IT):Prop:=∀ k,k<I.length→stW I (k+1) ≠ -1→stW I k ≠ -1∨(k+1<I.length∧stW I (k+2) ≠ -1)
theorem ways_to {I:List IT} (hI:∀ x∈I,ItOk x) (h2:Twos I):∀ k,k≤I.length→∃ n al,Ways ⟨[],[],false,0,0⟩ (itTo I k) ⟨(I.take k).map fun x=>x.t.drop 1,(I.take k).map fun x=>x.t.take 1,decide (stW I k ≠ -1),n,al⟩∧(stW I k ≠ -1→0<n∧1≤al∧(al=1→stW I (k-1) = -1)):=by
 intro k
 induction k with
 | zero=>intro _;exact ⟨0,0,by simp [itTo,Ways];rfl,fun h=>absurd rfl h⟩
 | succ k ih =>
  intro hk
  obtain ⟨n,al,hw,hq⟩:=ih (by omega)
  have hg:I[k]? = some I[k]:=List.getElem?_eq_getElem (by omega)
  obtain ⟨c,t,ht,hc⟩:=hI I[k] (List.getElem_mem _)
  have hst:=stW_succ hg
  rw [itTo_succ,List.take_succ_eq_append_getElem (by omega),List.map_append,List.map_append]
  have hit:itW I k=sgW (signW (stW I k) (I[k]).st)++[c::t]:=by unfold itW;rw [hg];simp only [ht]
  rw [hit,hst]
  have e1:([I[k]].map fun x=>x.t.drop 1)=[t]:=by simp [ht]
  have e2:([I[k]].map fun x=>x.t.take 1)=[[c]]:=by simp [ht]
  rw [e1,e2]
  generalize (I.take k).map (fun x=>x.t.drop 1)=T at hw ⊢
  generalize (I.take k).map (fun x=>x.t.take 1)=M at hw ⊢
  have last:∀ (n al:Nat),Ways ⟨T,M,decide ((I[k]).st ≠ -1),n,al⟩ [c::t] ⟨T++[t],M++[[c]],decide ((I[k]).st ≠ -1),n+1,al+1⟩:=fun n al=>by
   refine Ways.one (.inr (.inr (.inr ⟨c,t,rfl,?_,rfl⟩)))
   rcases hc with ⟨h1,h2⟩ | ⟨h1,h2 | h2⟩ | h2
   ·exact .inl ⟨h2,by simp [h1]⟩
   ·exact .inr (.inl ⟨h2,by simp [h1]⟩)
   ·exact .inr (.inr (.inl ⟨h2,by simp [h1]⟩))
   ·exact .inr (.inr (.inr h2))
  have sub1:k+1-1=k:=by omega
  rw [sub1]
  by_cases ha:stW I k=(I[k]).st
  ·rw [show sgW (signW (stW I k) (I[k]).st)=[] by simp [signW,sgW,ha]]
   rw [ha] at hw
   refine ⟨n+1,al+1,hw.app (last n al),fun h=>?_⟩
   have:=hq (by rw [ha];exact h)
   exact ⟨by omega,by omega,fun e=>by omega⟩
  ·by_cases hb:stW I k = -1
   ·have hne:(I[k]).st ≠ -1:=fun e=>ha (hb.trans e.symm)
    have hne':¬ (-1=(I[k]).st):=fun e=>hne e.symm
    rw [show sgW (signW (stW I k) (I[k]).st)=[[60]] by simp [signW,sgW,hb,hne']]
    have h0:Ways ⟨T,M,decide (stW I k ≠ -1),n,al⟩ [[60]] ⟨T,M,decide ((I[k]).st ≠ -1),0,0⟩:=Ways.one (.inl ⟨rfl,by simp [hb],by simp [hne]⟩)
    exact ⟨1,1,hw.app (h0.app (last 0 0)),fun _=>⟨by omega,by omega,fun _=>hb⟩⟩
   ·obtain ⟨q1,q2,q3⟩:=hq hb
    by_cases hd:(I[k]).st = -1
    ·rw [show sgW (signW (stW I k) (I[k]).st)=[[62]] by simp [signW,sgW,hb,hd]]
     have hal:2≤al:=by
      have hk0:k≠0:=fun e=>hb (by rw [e];rfl)
      obtain ⟨m,rfl⟩:∃ m,k=m+1:=⟨k-1,by omega⟩
      rcases h2 m (by omega) hb with e | ⟨_,e⟩
      ·have:al≠1:=fun e'=>e (q3 e')
       omega
      ·rw [hst] at e;exact absurd hd e
     have h0:Ways ⟨T,M,decide (stW I k ≠ -1),n,al⟩ [[62]] ⟨T,M,decide ((I[k]).st ≠ -1),0,al⟩:=Ways.one (.inr (.inr (.inl ⟨rfl,by simp [hb],q1,hal,by simp [hd]⟩)))
     exact ⟨1,al+1,hw.app (h0.app (last 0 al)),fun h=>absurd hd h⟩
    ·rw [show sgW (signW (stW I k) (I[k]).st)=[[61]] by simp [signW,sgW,hb,hd,ha]]
     have h0:Ways ⟨T,M,decide (stW I k ≠ -1),n,al⟩ [[61]] ⟨T,M,decide ((I[k]).st ≠ -1),0,al⟩:=Ways.one (.inr (.inl ⟨rfl,by simp [hb],q1,by simp [hd]⟩))
     exact ⟨1,al+1,hw.app (h0.app (last 0 al)),fun _=>⟨by omega,by omega,fun e=>by omega⟩⟩
theorem ways_show {I:List IT} (hI:∀ x∈I,ItOk x) (h2:Twos I):∃ n al,Ways ⟨[],[],false,0,0⟩ (showW I) ⟨I.map fun x=>x.t.drop 1,I.map fun x=>x.t.take 1,false,n,al⟩:=by
 obtain ⟨n,al,hw,hq⟩:=ways_to hI h2 I.length (Nat.le_refl _)
 rw [List.take_length] at hw
 unfold showW endW
 by_cases hb:stW I I.length = -1
 ·rw [if_pos hb,List.append_nil]
  simp only [hb] at hw
  exact ⟨n,al,hw⟩
 ·rw [if_neg hb]
  obtain ⟨q1,q2,q3⟩:=hq hb
  have hk0:I.length≠0:=fun e=>hb (by rw [e];rfl)
  obtain ⟨m,hm⟩:∃ m,I.length=m+1:=⟨I.length-1,by omega⟩
  have hal:2≤al:=by
   rcases h2 m (by omega) (by rw [← hm];exact hb) with e | ⟨e,_⟩
   ·have:al≠1:=fun e'=>e (by have:=q3 e';rw [hm] at this;exact this)
    omega
   ·omega
  exact ⟨0,al,hw.app (Ways.one (.inr (.inr (.inl ⟨rfl,by simp [hb],q1,hal,rfl⟩))))⟩
section
variable {ps:List PatchD}
theorem fx_all {s y:Nat} (h:fxX ps s=true) (hy:y<nX ps) (hne:y≠s) (dy:ddX ps y=false):aheadW (ddX ps) (onS ps) y s=true∨aheadW (ddX ps) (onS ps) s y=true:=by
 unfold fxX setW at h
 rw [Bool.and_eq_true,List.all_eq_true] at h
 have:=h.2 y (List.mem_range.2 hy)
 simpa [hne,dy] using this
theorem fx_none {a x:Nat} (hx:x<nX ps) (hne:x≠a) (dx:ddX ps x=false) (h1:aheadW (ddX ps) (onS ps) x a=false) (h2:aheadW (ddX ps) (onS ps) a x=false):fxX ps a=false:=by
 cases h:fxX ps a
 ·rfl
 ·rcases fx_all h hx hne dx with e | e
  ·rw [h1] at e;cases e
  ·rw [h2] at e;cases e
theorem fx_ex {a:Nat} (da:ddX ps a=false) (fa:fxX ps a=false):∃ j,j<nX ps∧j≠a∧ddX ps j=false∧aheadW (ddX ps) (onS ps) j a=false∧aheadW (ddX ps) (onS ps) a j=false:=by
 unfold fxX setW at fa
 rw [da,Bool.not_false,Bool.true_and,List.all_eq_false] at fa
 obtain ⟨j,hj,h⟩:=fa
 simp only [Bool.or_eq_true,decide_eq_true_eq,not_or,Bool.not_eq_true] at h
 exact ⟨j,List.mem_range.1 hj,h.1.1,h.1.2,h.2.1,h.2.2⟩
theorem mate_side {x y s:Nat} (hx:x<nX ps) (hy:y<nX ps) (hs:s<nX ps) (dy:ddX ps y=false) (fy:fxX ps y=false) (h:aheadW (ddX ps) (onS ps) y x=false) (hf:fxX ps s=true) (ha:aheadW (ddX ps) (onS ps) s x=true):aheadW (ddX ps) (onS ps) s y=true:=by
 have hne:y≠s:=fun e=>by rw [e,hf] at fy;cases fy
 rcases fx_all hf hy hne dy with e | e
 ·rw [aheadW_trans hy hs hx e ha] at h;cases h
 ·exact e
theorem mate {a:Nat} (ha:a<nX ps) (da:ddX ps a=false) (fa:fxX ps a=false):∃ j,j<nX ps∧j≠a∧ddX ps j=false∧fxX ps j=false∧bkX ps j=bkX ps a:=by
 obtain ⟨j,hj,hne,dj,h1,h2⟩:=fx_ex da fa
 have fj:fxX ps j=false:=fx_none ha (fun e=>hne e.symm) da h2 h1
 refine ⟨j,hj,hne,dj,fj,?_⟩
 unfold bkX blockW
 congr 1
 refine List.filter_congr fun s hs=>?_
 have hs:=List.mem_range.1 hs
 cases hf:fxX ps s
 ·simp
 ·rw [Bool.and_true,Bool.and_true]
  have p1:=mate_side hj ha hs da fa h2 hf
  have p2:=mate_side ha hj hs dj fj h1 hf
  cases e1:aheadW (ddX ps) (onS ps) s j<;>cases e2:aheadW (ddX ps) (onS ps) s a<;>simp_all
theorem ring_loose {a:Nat} (h:ringW (nX ps) (ddX ps) (onS ps) a=true):fxX ps a=false:=by
 unfold ringW at h
 rw [List.any_eq_true] at h
 obtain ⟨j,hj,h⟩:=h
 simp only [Bool.and_eq_true,Bool.not_eq_true',decide_eq_false_iff_not] at h
 obtain ⟨⟨h1,h2⟩,h3,h4⟩:=h
 refine fx_none (List.mem_range.1 hj) h1 h2 ?_ ?_
 ·cases e:aheadW (ddX ps) (onS ps) j a
  ·rfl
  ·have:=(aheadW_iff.1 e).2.2.2;rw [h3] at this;cases this
 ·cases e:aheadW (ddX ps) (onS ps) a j
  ·rfl
  ·have:=(aheadW_iff.1 e).2.2.2;rw [h4] at this;cases this
theorem sd_iff {sd:Nat→Int} (hs:StrX ps sd) {a:Nat} (ha:a<nX ps) (da:ddX ps a=false):sd a = -1↔fxX ps a=true:=by
 constructor
 ·intro e
  cases h:fxX ps a
  ·obtain ⟨r,_,h2⟩:=hs.loose a ha da h
   omega
  ·rfl
 ·exact hs.fixed a ha da
theorem items_ok {sd:Nat→Int} {orx:Nat→Bool} (hs:StrX ps sd):∀ x∈itemsX ps sd orx,ItOk x:=by
 intro x hx
 unfold itemsX at hx
 obtain ⟨k,hk,rfl⟩:=List.mem_map.1 hx
 obtain ⟨hk,dk⟩:=ordX_iff.1 hk
 refine ⟨_,_,rfl,?_⟩
 have h1:=sd_iff hs hk dk
 dsimp only
 unfold markX
 by_cases ho:orx k=true
 ·rw [if_pos ho];exact .inr (.inr rfl)
 ·rw [if_neg ho]
  by_cases hr:ringW (nX ps) (ddX ps) (onS ps) k=true
  ·rw [if_pos hr]
   exact .inr (.inl ⟨fun e=>(by have:=h1.1 e;rw [ring_loose hr] at this;cases this),.inr rfl⟩)
  ·rw [if_neg hr]
   by_cases hf:fxX ps k=true
   ·rw [if_pos hf];exact .inl ⟨h1.2 hf,rfl⟩
   ·rw [if_neg hf];exact .inr (.inl ⟨fun e=>hf (h1.1 e),.inl rfl⟩)
theorem items_st {sd:Nat→Int} {orx:Nat→Bool} {k a:Nat} (h:(ordX ps sd)[k]? = some a):stW (itemsX ps sd orx) (k+1)=sd a:=by
 refine stW_succ (x:=⟨sd a,UInt8.ofNat (markX ps orx a)::(lnX ps a).text⟩) ?_
 unfold itemsX
 rw [List.getElem?_map,h];rfl
theorem items_two {sd:Nat→Int} {orx:Nat→Bool} (hs:StrX ps sd):Twos (itemsX ps sd orx):=by
 intro k hk hst
 have hl:(itemsX ps sd orx).length=(ordX ps sd).length:=by simp [itemsX]
 rw [hl] at hk ⊢
 have hg:(ordX ps sd)[k]? = some (ordX ps sd)[k]:=List.getElem?_eq_getElem hk
 generalize (ordX ps sd)[k]=a at hg
 rw [items_st hg] at hst
 obtain ⟨ha,da⟩:=ordX_iff.1 (List.mem_of_getElem? hg)
 have fa:fxX ps a=false:=by
  cases e:fxX ps a
  ·rfl
  ·exact absurd ((sd_iff hs ha da).2 e) hst
 obtain ⟨j,hj,hne,dj,fj,hbk⟩:=mate ha da fa
 obtain ⟨q,hq⟩:=List.getElem?_of_mem (ordX_iff.2 ⟨hj,dj⟩:j∈ordX ps sd)
 have hql:=(List.getElem?_eq_some_iff.1 hq).1
 have srt:∀ {x y u v:Nat},x<y→(ordX ps sd)[x]? = some u→(ordX ps sd)[y]? = some v→firstW (fxX ps) (bkX ps) (rkX ps) sd u v=true:=fun {x y u v} hxy hu hv=>by
  obtain ⟨lu,eu⟩:=List.getElem?_eq_some_iff.1 hu
  obtain ⟨lv,ev⟩:=List.getElem?_eq_some_iff.1 hv
  rw [← eu,← ev]
  exact List.pairwise_iff_getElem.1 (ordX_sort ps sd) x y lu lv hxy
 have mid:∀ {x y u v b m:Nat},x<m→m<y→(ordX ps sd)[x]? = some u→(ordX ps sd)[m]? = some b→(ordX ps sd)[y]? = some v→bkX ps u=bkX ps v→fxX ps v=false→fxX ps b=false:=fun {x y u v b m} h1 h2 hu hb hv e ev=>by
  have f1:=firstW_iff.1 (srt h1 hu hb)
  have f2:=firstW_iff.1 (srt h2 hb hv)
  rw [ev] at f2
  cases hfb:fxX ps b
  ·rfl
  ·rw [hfb] at f2
   simp at f2
   omega
 have loose:∀ {b m:Nat},(ordX ps sd)[m]? = some b→fxX ps b=false→stW (itemsX ps sd orx) (m+1) ≠ -1:=fun {b m} hb fb e=>by
  rw [items_st hb] at e
  obtain ⟨lb,db⟩:=ordX_iff.1 (List.mem_of_getElem? hb)
  rw [(sd_iff hs lb db).1 e] at fb
  cases fb
 have hqk:q≠k:=fun e=>by subst e;rw [hg] at hq;exact hne (Option.some.inj hq).symm
 by_cases hlt:k<q
 ·right
  refine ⟨by omega,?_⟩
  obtain ⟨b,hg1⟩:∃ b,(ordX ps sd)[k+1]? = some b:=⟨_,List.getElem?_eq_getElem (by omega)⟩
  refine loose hg1 ?_
  by_cases e:k+1=q
  ·rw [e] at hg1
   rw [hq] at hg1
   rw [← Option.some.inj hg1];exact fj
  ·exact mid (Nat.lt_succ_self k) (by omega) hg hg1 hq hbk.symm fj
 ·left
  obtain ⟨m,rfl⟩:∃ m,k=m+1:=⟨k-1,by omega⟩
  obtain ⟨b,hg1⟩:∃ b,(ordX ps sd)[m]? = some b:=⟨_,List.getElem?_eq_getElem (by omega)⟩
  refine loose hg1 ?_
  by_cases e:m=q
  ·rw [← e] at hq
   rw [hq] at hg1
   rw [← Option.some.inj hg1];exact fj
  ·exact mid (show q<m by omega) (Nat.lt_succ_self m) hq hg1 hg hbk fa
end
section
variable {ps:List PatchD} {sd:Nat→Int}
theorem ord_lt {a b x y:Nat} (hx:(ordX ps sd)[x]? = some a) (hy:(ordX ps sd)[y]? = some b) (h:firstW (fxX ps) (bkX ps) (rkX ps) sd a b=true):x<y:=by
 obtain ⟨lx,ex⟩:=List.getElem?_eq_some_iff.1 hx
 obtain ⟨ly,ey⟩:=List.getElem?_eq_some_iff.1 hy
 have o:=firstW_lin (fxX ps) (bkX ps) (rkX ps) sd
 rcases Nat.lt_trichotomy x y with e | e | e
 ·exact e
 ·subst e
  rw [hx] at hy
  rw [Option.some.inj hy,o.irr] at h
  cases h
 ·have:=List.pairwise_iff_getElem.1 (ordX_sort ps sd) y x ly lx e
  rw [ex,ey] at this
  have:=o.tr _ _ _ h this
  rw [o.irr] at this
  cases this
theorem ord_eq {a x y:Nat} (hx:(ordX ps sd)[x]? = some a) (hy:(ordX ps sd)[y]? = some a):x=y:=by
 obtain ⟨lx,ex⟩:=List.getElem?_eq_some_iff.1 hx
 obtain ⟨ly,ey⟩:=List.getElem?_eq_some_iff.1 hy
 have o:=firstW_lin (fxX ps) (bkX ps) (rkX ps) sd
 rcases Nat.lt_trichotomy x y with e | e | e
 ·have:=List.pairwise_iff_getElem.1 (ordX_sort ps sd) x y lx ly e
  rw [ex,ey,o.irr] at this
  cases this
 ·exact e
 ·have:=List.pairwise_iff_getElem.1 (ordX_sort ps sd) y x ly lx e
  rw [ex,ey,o.irr] at this
  cases this
theorem ring_of {a b:Nat} (hb:b<nX ps) (db:ddX ps b=false) (hne:b≠a) (h1:getB (onS ps) a b=true) (h2:getB (onS ps) b a=true):ringW (nX ps) (ddX ps) (onS ps) a=true:=by
 unfold ringW
 rw [List.any_eq_true]
 exact ⟨b,List.mem_range.2 hb,by simp [hne,db,h1,h2]⟩
theorem ring_mark {orx:Nat→Bool} {a:Nat} (h:ringW (nX ps) (ddX ps) (onS ps) a=true):markX ps orx a=33∨markX ps orx a=64:=by
 unfold markX
 by_cases ho:orx a=true
 ·rw [if_pos ho];exact .inl rfl
 ·rw [if_neg ho,if_pos h];exact .inr rfl
theorem on_order (hs:StrX ps sd) {orx:Nat→Bool} {a b x y:Nat} (hx:(ordX ps sd)[x]? = some a) (hy:(ordX ps sd)[y]? = some b) (h:getB (onS ps) a b=true):x≤y∨((markX ps orx a=33∨markX ps orx a=64)∧(markX ps orx b=33∨markX ps orx b=64)):=by
 obtain ⟨ha,da⟩:=ordX_iff.1 (List.mem_of_getElem? hx)
 obtain ⟨hb,db⟩:=ordX_iff.1 (List.mem_of_getElem? hy)
 by_cases e:a=b
 ·subst e
  exact .inl (Nat.le_of_eq (ord_eq hx hy))
 cases h2:getB (onS ps) b a
 ·exact .inl (Nat.le_of_lt (ord_lt hx hy (ahead_first hs ha hb (aheadW_iff.2 ⟨da,db,h,h2⟩))))
 ·exact .inr ⟨ring_mark (ring_of hb db (fun e'=>e e'.symm) h h2),ring_mark (ring_of ha da e h2 h)⟩
theorem up_order (hs:StrX ps sd) (hid:(ps.map PatchD.id).Nodup) {orx:Nat→Bool} {a b x y:Nat} (hx:(ordX ps sd)[x]? = some a) (hy:(ordX ps sd)[y]? = some b) (h:(lnX ps a).up=(lnX ps b).ref):y≤x∨((markX ps orx b=33∨markX ps orx b=64)∧(markX ps orx a=33∨markX ps orx a=64)):=by
 have ha:=(ordX_iff.1 (List.mem_of_getElem? hx)).1
 have hb:=(ordX_iff.1 (List.mem_of_getElem? hy)).1
 exact on_order hs hy hx ((leadR_at hid hb ha).1 (LeadR.said hid (isLn_at hb) (isLn_at ha) (.inl ⟨_,List.mem_of_getElem? (lnX_get ha),.inl ⟨h,rfl⟩⟩)))
theorem down_order (hs:StrX ps sd) (hid:(ps.map PatchD.id).Nodup) {orx:Nat→Bool} {a b x y:Nat} (hx:(ordX ps sd)[x]? = some a) (hy:(ordX ps sd)[y]? = some b) (h:(lnX ps a).down=(lnX ps b).ref):x≤y∨((markX ps orx a=33∨markX ps orx a=64)∧(markX ps orx b=33∨markX ps orx b=64)):=by
 have ha:=(ordX_iff.1 (List.mem_of_getElem? hx)).1
 have hb:=(ordX_iff.1 (List.mem_of_getElem? hy)).1
 exact on_order hs hx hy ((leadR_at hid ha hb).1 (LeadR.said hid (isLn_at ha) (isLn_at hb) (.inl ⟨_,List.mem_of_getElem? (lnX_get ha),.inr ⟨rfl,h⟩⟩)))
end
end Go.Proofs.YtlaffgagmncgjabDoor
namespace Go.Proofs.YtlaffgagmncgjabDoor
open Go Go.Pat Go.Proofs
theorem hdec_not {n:Nat} {c:UInt8} (hc:c.toNat<48∨57<c.toNat):c∉decS n:=fun h=>by
 have:=(dec_val n n (Nat.le_refl _)).2 c h
 omega
theorem hdd_told {ps:List PatchD} {k:Nat} (h:k<nX ps):ddX ps k=toldB ps (lnX ps k).ref:=by
 unfold ddX
 rw [toldB_live (lnX_get h)];simp
theorem dec_inj {a b:Nat} (h:decS a=decS b):a=b:=by
 have h1:=(dec_val a a (Nat.le_refl _)).1
 have h2:=(dec_val b b (Nat.le_refl _)).1
 rw [h] at h1
 omega
theorem refS_pos {r:RefD} (h:0<r.p):refS r=decS r.p++46::decS r.i:=by unfold refS;rw [if_pos h];simp
theorem refS_inj {r s:RefD} (hs:0<s.p) (h:refS r=refS s):r=s:=by
 rw [refS_pos hs] at h
 by_cases hr:0<r.p
 ·rw [refS_pos hr] at h
  have h1:=splitL_app (c:=46) (decS r.i) (hdec_not (n:=r.p) (by decide))
  have h2:=splitL_app (c:=46) (decS s.i) (hdec_not (n:=s.p) (by decide))
  rw [h,h2] at h1
  rw [splitL_not (hdec_not (by decide)),splitL_not (hdec_not (by decide))] at h1
  simp only [List.cons.injEq,and_true] at h1
  have e1:=dec_inj h1.1
  have e2:=dec_inj h1.2
  cases r;cases s;simp_all
 ·have hm:(46:UInt8)∈refS r:=by rw [h];simp
  unfold refS at hm
  rw [if_neg hr] at hm
  split at hm<;>simp at hm
structure SL where
 (nm up dn tx:List UInt8)
structure SSt where
 (L:List SL) (D:List (List UInt8)) (o:Nat)
def slOf (l:LineD):SL:=⟨refS l.ref,refS l.up,refS l.down,l.text⟩
def SWay (id:Nat) (s:SSt) (x:List UInt8) (s':SSt):Prop :=
 (∃ w ws,splitL 32 x=w::ws∧w≠[100,101,108]∧w≠[97,100,100]∧s'=s) ∨
 (∃ r,splitL 32 x=[[100,101,108],r]∧s'=⟨s.L,s.D++[r],s.o⟩) ∨
 ∃ u d t ws,x=[97,100,100,32]++(u++32::(d++32::t))∧splitL 32 x=[97,100,100]::u::d::ws∧0<ws.length∧s'=⟨s.L++[⟨decS id++[46]++decS s.o,u,d,t⟩],s.D,s.o+1⟩
def SWays (id:Nat):SSt→List (List UInt8)→SSt→Prop
 | s,[],s'=>s'=s
 | s,x::l,s'=>∃ s1,SWay id s x s1∧SWays id s1 l s'
theorem SWays.app {id:Nat}:∀ {l m:List (List UInt8)} {s s1 s2:SSt},SWays id s l s1→SWays id s1 m s2→SWays id s (l++m) s2
 | [],m,s,s1,s2,h1,h2=>by cases h1;exact h2
 | x::l,m,s,s1,s2,⟨s0,h0,h1⟩,h2=>⟨s0,h0,SWays.app h1 h2⟩
theorem SWays.cut {id:Nat}:∀ {l m:List (List UInt8)} {s s2:SSt},SWays id s (l++m) s2→∃ s1,SWays id s l s1∧SWays id s1 m s2
 | [],m,s,s2,h=>⟨s,rfl,h⟩
 | x::l,m,s,s2,⟨s0,h0,h1⟩=>by
  obtain ⟨s1,h2,h3⟩:=SWays.cut h1
  exact ⟨s1,⟨s0,h0,h2⟩,h3⟩
def delsOf (l:List ChangeD):List (List UInt8):=(l.filter fun c=>decide (c.kind=2)).map fun c=>refS c.up
theorem delsOf_snoc (l:List ChangeD) (c:ChangeD):delsOf (l++[c])=delsOf l++(if c.kind=2 then [refS c.up] else []):=by
 unfold delsOf;rw [List.filter_append];by_cases h:c.kind=2<;>simp [h]
theorem says_change {id:Nat} (hid:0<id) {c:ChangeD} {x:List UInt8} (h:changeS x=some c) (s:SSt) :
  SWay id s x ⟨s.L++(if c.kind=1 then [slOf ⟨⟨id,s.o⟩,c.up,c.down,c.text⟩] else []),s.D++(if c.kind=2 then [refS c.up] else []),s.o+(if c.kind=1 then 1 else 0)⟩:=by
 rcases changeS_iff.1 h with ⟨w1,w2,t,up,down,rfl,e1,e2,_,rfl⟩ | ⟨w1,up,rfl,e1,rfl⟩ | ⟨w1,w2,up,down,rfl,e1,e2,rfl⟩
 ·have hsp:splitL 32 ([97,100,100,32]++(w1++32::(w2++32::t)))=[97,100,100]::w1::w2::splitL 32 t:=by
   rw [show ([97,100,100,32]++(w1++32::(w2++32::t)):List UInt8)=[97,100,100]++32::(w1++32::(w2++32::t)) by simp,
    splitL_app _ (by decide),splitL_app _ (place_not e1 rfl (by decide) (by decide)),splitL_app _ (place_not e2 rfl (by decide) (by decide))]
  refine .inr (.inr ⟨w1,w2,t,_,rfl,hsp,?_,?_⟩)
  ·cases hs:splitL 32 t with
   | nil=>exact absurd hs (splitL_ne _ _)
   | cons a b=>simp
  ·have r1:=line_ref (.inr (.inl rfl)) e1
   have r2:=line_ref (.inr (.inr rfl)) e2
   have r3:=refS_pos (r:=⟨id,s.o⟩) hid
   simp [slOf,r1,r2,r3]
 ·have hsp:splitL 32 ([100,101,108,32]++w1)=[[100,101,108],w1]:=by
   rw [show ([100,101,108,32]++w1:List UInt8)=[100,101,108]++32::w1 by simp,splitL_app _ (by decide),splitL_not (line_not e1 rfl (by decide))]
  refine .inr (.inl ⟨w1,hsp,?_⟩)
  have r1:=line_ref (.inl rfl) e1
  simp [r1]
 ·have hsp:splitL 32 ([116,105,101,32]++(w1++32::w2))=[116,105,101]::splitL 32 (w1++32::w2):=by
   rw [show ([116,105,101,32]++(w1++32::w2):List UInt8)=[116,105,101]++32::(w1++32::w2) by simp,splitL_app _ (by decide)]
  exact .inl ⟨_,_,hsp,by decide,by decide,by simp⟩
theorem says_changes {id:Nat} (hid:0<id) (L:List SL) (D:List (List UInt8)):∀ {ss:List (List UInt8)} {cs:List ChangeD},allSome changeS ss=some cs→∀ pre:List ChangeD,SWays id ⟨L++(linesUp id pre).map slOf,D++delsOf pre,ownN pre⟩ ss ⟨L++(linesUp id (pre++cs)).map slOf,D++delsOf (pre++cs),ownN (pre++cs)⟩:=by
 intro ss
 induction ss with
 | nil=>intro cs h pre;simp [allSome] at h;subst h;simp [SWays]
 | cons x ss ih =>
  intro cs h pre
  obtain ⟨c,cs,rfl,h1,h2⟩:=allSome_cons_inv h
  have hw:=says_change hid h1 ⟨L++(linesUp id pre).map slOf,D++delsOf pre,ownN pre⟩
  have hr:=ih h2 (pre++[c])
  rw [List.append_assoc,List.singleton_append] at hr
  refine ⟨_,hw,?_⟩
  have e1:(linesUp id (pre++[c])).map slOf=(linesUp id pre).map slOf++(if c.kind=1 then [slOf ⟨⟨id,ownN pre⟩,c.up,c.down,c.text⟩] else []):=by
   rw [linesUp_snoc,List.map_append];split<;>simp
  rw [e1,delsOf_snoc,ownN_snoc,← List.append_assoc,← List.append_assoc] at hr
  exact hr
theorem says_text {t:List UInt8} {p:PatchD} (h:parseS t=some p) (L:List SL) (D:List (List UInt8)):SWays p.id ⟨L,D,0⟩ (splitL 10 t) ⟨L++(linesOfS p).map slOf,D++delsOf p.changes,ownN p.changes⟩∧(splitL 10 t).length≤33:=by
 obtain ⟨_,h1,ws,ss,rfl,k1,k2,k3,k4,k5,k6,k7⟩:=parseS_iff.1 h
 have hid:0<p.id:=by
  have:=(nameS_some.1 k1).2
  omega
 have hws:∀ w∈ws,∀ x∈w,isDig x=true:=by
  intro w hw
  have:∀ (ws:List (List UInt8)) (ns:List Nat),allSome nameS ws=some ns→∀ w∈ws,∀ x∈w,isDig x=true:=by
   intro ws
   induction ws with
   | nil=>simp
   | cons v ws ih =>
    intro ns h w hw
    obtain ⟨b,bs,_,e1,e2⟩:=allSome_cons_inv h
    rcases List.mem_cons.1 hw with rfl | hw
    ·exact nameS_dig e1
    ·exact ih bs e2 w hw
  exact this ws _ k3 w hw
 have h1d:=nameS_dig k1
 have s0:splitL 10 ([112,97,116,99,104,32]++(h1++10::([110,101,101,100,115]++(ws.flatMap (32 :: ·)++10::ss.flatMap (· ++ [10])))))=([112,97,116,99,104,32]++h1)::([110,101,101,100,115]++ws.flatMap (32 :: ·))::(ss++[[]]):=by
  rw [← List.append_assoc,splitL_app,← List.append_assoc,splitL_app,splitL_flat k6]
  ·intro e
   simp only [List.mem_append,List.mem_flatMap,List.mem_cons] at e
   rcases e with e | ⟨w,hw,e⟩
   ·revert e;decide
   ·rcases e with e | e
    ·revert e;decide
    ·have:=hws w hw _ e;revert this;decide
  ·intro e
   rcases List.mem_append.1 e with e | e
   ·revert e;decide
   ·have:=h1d _ e;revert this;decide
 have s1:splitL 32 ([112,97,116,99,104,32]++h1)=[[112,97,116,99,104],h1]:=by
  rw [show ([112,97,116,99,104,32]++h1:List UInt8)=[112,97,116,99,104]++32::h1 by simp,splitL_app _ (by decide),splitL_not (not_dig h1d rfl)]
 have s2:splitL 32 ([110,101,101,100,115]++ws.flatMap (32 :: ·))=[110,101,101,100,115]::ws:=splitL_words (by decide) (fun s hs=>not_dig (hws s hs) rfl)
 rw [s0]
 refine ⟨⟨_,.inl ⟨_,_,s1,by decide,by decide,rfl⟩,_,.inl ⟨_,_,s2,by decide,by decide,rfl⟩,?_⟩,by simp;omega⟩
 have hc:=says_changes hid L D k7 []
 have e0:linesUp p.id []=[]:=rfl
 have e1:delsOf []=[]:=rfl
 have e2:ownN []=0:=rfl
 simp only [e0,e1,e2,List.map_nil,List.append_nil,List.nil_append] at hc
 exact hc.app ⟨_,.inl ⟨[],[],rfl,by decide,by decide,rfl⟩,rfl⟩
def deadN (ps:List PatchD):List (List UInt8):=ps.flatMap fun p=>delsOf p.changes
theorem isLn_pos {ps:List PatchD} (hinv:Inv ps) {k:Nat} (hk:k<nX ps):0<(lnX ps k).ref.p:=by
 have hm:=List.mem_of_getElem? (lnX_get hk)
 unfold linesS at hm
 obtain ⟨p,hp,hl⟩:=List.mem_flatMap.1 hm
 obtain ⟨t,ht,_⟩:=hinv.fine p hp
 obtain ⟨_,h1,ws,ss,rfl,k1,_⟩:=parseS_iff.1 ht
 have hid:0<p.id:=by
  have:=(nameS_some.1 k1).2
  omega
 unfold linesOfS linesUp at hl
 obtain ⟨x,_,e⟩:=List.mem_map.1 hl
 rw [← e]
 exact hid
theorem dead_iff {ps:List PatchD} {r:RefD} (hr:0<r.p):refS r∈deadN ps↔toldB ps r=true:=by
 unfold deadN delsOf toldB killsB
 simp only [List.mem_flatMap,List.mem_map,List.mem_filter,decide_eq_true_eq,List.any_eq_true,Bool.and_eq_true]
 constructor
 ·rintro ⟨p,hp,c,⟨hc,hk⟩,e⟩
  exact ⟨p,hp,c,hc,hk,eqb_iff.2 (refS_inj hr e)⟩
 ·rintro ⟨p,hp,c,hc,hk,e⟩
  exact ⟨p,hp,c,⟨hc,hk⟩,by rw [eqb_iff.1 e]⟩
theorem lines_range (ps:List PatchD):linesS ps=(List.range (nX ps)).map (lnX ps):=by
 apply List.ext_getElem?
 intro k
 by_cases hk:k<nX ps
 ·rw [lnX_get hk,List.getElem?_map,List.getElem?_range hk];rfl
 ·have h1:(linesS ps)[k]? = none:=List.getElem?_eq_none (by unfold nX at hk;omega)
  rw [h1,List.getElem?_eq_none (by simp;omega)]
def aliveN (ps:List PatchD):List SL:=((linesS ps).map slOf).filter fun l=>!decide (l.nm∈deadN ps)
theorem alive_eq {ps:List PatchD} (hinv:Inv ps):aliveN ps=(liv (nX ps) (ddX ps)).map fun k=>slOf (lnX ps k):=by
 unfold aliveN liv
 rw [lines_range,List.map_map,List.filter_map]
 congr 1
 refine List.filter_congr fun k hk=>?_
 have hk:=List.mem_range.1 hk
 have h1:(refS (lnX ps k).ref∈deadN ps)↔ddX ps k=true:=by
  rw [dead_iff (isLn_pos hinv hk),hdd_told hk]
 dsimp only [Function.comp,slOf]
 cases hd:ddX ps k
 ·rw [hd] at h1;simp [h1]
 ·rw [hd] at h1;simp [h1]
theorem ord_nodup (ps:List PatchD) (sd:Nat→Int):(ordX ps sd).Nodup:=by
 have o:=firstW_lin (fxX ps) (bkX ps) (rkX ps) sd
 refine (ordX_sort ps sd).imp fun {a b} h e=>?_
 rw [e,o.irr] at h
 cases h
theorem mem_liv {n:Nat} {dd:Nat→Bool} {k:Nat}:k∈liv n dd↔k<n∧dd k=false:=by
 unfold liv
 rw [List.mem_filter,List.mem_range,Bool.not_eq_true']
theorem liv_nodup (n:Nat) (dd:Nat→Bool):(liv n dd).Nodup:=List.Nodup.sublist List.filter_sublist List.nodup_range
theorem same_count (ps:List PatchD) (sd:Nat→Int) (f:Nat→Bool):((ordX ps sd).filter f).length=((liv (nX ps) (ddX ps)).filter f).length:=by
 refine Nat.le_antisymm (nodup_len ((ord_nodup ps sd).sublist List.filter_sublist) fun x hx=>?_) (nodup_len ((liv_nodup _ _).sublist List.filter_sublist) fun x hx=>?_)
 ·obtain ⟨h1,h2⟩:=List.mem_filter.1 hx
  exact List.mem_filter.2 ⟨mem_liv.2 (ordX_iff.1 h1),h2⟩
 ·obtain ⟨h1,h2⟩:=List.mem_filter.1 hx
  exact List.mem_filter.2 ⟨ordX_iff.2 (mem_liv.1 h1),h2⟩
theorem ord_len (ps:List PatchD) (sd:Nat→Int):(ordX ps sd).length=(liv (nX ps) (ddX ps)).length:=by
 have:=same_count ps sd fun _=>true
 rw [List.filter_eq_self.2 (by simp),List.filter_eq_self.2 (by simp)] at this
 exact this
theorem free_ex {T S:List (List UInt8)} {m:Nat} {U:List Nat} {t:List UInt8} (hc:∀ t,(T.filter fun x=>decide (x=t)).length=(S.filter fun x=>decide (x=t)).length) (hU:(U.map fun k=>T.getD k [])=S.take m) (hm:S[m]? = some t):∃ k,T[k]? = some t∧k∉U:=by
 apply Classical.byContradiction
 intro hno
 have hall:∀ k,T[k]? = some t→k∈U:=fun k hk=>Classical.byContradiction fun e=>hno ⟨k,hk,e⟩
 have hT:T=(List.range T.length).map fun k=>T.getD k []:=by
  apply List.ext_getElem?
  intro k
  by_cases hk:k<T.length
  ·rw [List.getElem?_map,List.getElem?_range hk]
   simp [List.getD_eq_getElem?_getD,List.getElem?_eq_getElem hk]
  ·rw [List.getElem?_eq_none (by omega),List.getElem?_eq_none (by simp;omega)]
 have e1:(T.filter fun x=>decide (x=t)).length=((List.range T.length).filter fun k=>decide (T.getD k []=t)).length:=by
  conv=>lhs;rw [hT]
  rw [List.filter_map,List.length_map]
  rfl
 have e2:((List.range T.length).filter fun k=>decide (T.getD k []=t)).length≤(U.filter fun k=>decide (T.getD k []=t)).length:=by
  refine nodup_len (List.nodup_range.sublist List.filter_sublist) fun k hk=>?_
  obtain ⟨h1,h2⟩:=List.mem_filter.1 hk
  have h1:=List.mem_range.1 h1
  refine List.mem_filter.2 ⟨hall k ?_,h2⟩
  rw [List.getElem?_eq_getElem h1]
  have:=of_decide_eq_true h2
  simpa [List.getD_eq_getElem?_getD,List.getElem?_eq_getElem h1] using this
 have e3:(U.filter fun k=>decide (T.getD k []=t)).length=((S.take m).filter fun x=>decide (x=t)).length:=by
  rw [← hU,List.filter_map,List.length_map]
  rfl
 have e4:((S.take m).filter fun x=>decide (x=t)).length+1≤(S.filter fun x=>decide (x=t)).length:=by
  obtain ⟨hl,e⟩:=List.getElem?_eq_some_iff.1 hm
  have h1:((S.take (m+1)).filter fun x=>decide (x=t)).length≤(S.filter fun x=>decide (x=t)).length:=((List.take_sublist _ _).filter _).length_le
  rw [List.take_succ_eq_append_getElem hl,List.filter_append,e] at h1
  simpa using h1
 have:=hc t
 omega
def txN (ps:List PatchD) (sd:Nat→Int):List (List UInt8):=(ordX ps sd).map fun k=>(lnX ps k).text
def mkN (ps:List PatchD) (sd:Nat→Int) (orx:Nat→Bool):List (List UInt8):=(ordX ps sd).map fun k=>[UInt8.ofNat (markX ps orx k)]
theorem ways_items {ps:List PatchD} {sd:Nat→Int} {orx:Nat→Bool} (hs:StrX ps sd):∃ n al,Ways ⟨[],[],false,0,0⟩ (showW (itemsX ps sd orx)) ⟨txN ps sd,mkN ps sd orx,false,n,al⟩:=by
 have h:=ways_show (items_ok (orx:=orx) hs) (items_two hs)
 have e1:((itemsX ps sd orx).map fun x=>x.t.drop 1)=txN ps sd:=by simp [itemsX,txN]
 have e2:((itemsX ps sd orx).map fun x=>x.t.take 1)=mkN ps sd orx:=by simp [itemsX,mkN]
 rw [e1,e2] at h
 exact h
theorem tx_count {ps:List PatchD} (hinv:Inv ps) (sd:Nat→Int) (t:List UInt8):((txN ps sd).filter fun x=>decide (x=t)).length=(((aliveN ps).map SL.tx).filter fun x=>decide (x=t)).length:=by
 unfold txN
 rw [alive_eq hinv,List.map_map,List.filter_map,List.length_map,List.filter_map,List.length_map]
 exact same_count ps sd _
theorem tx_len {ps:List PatchD} (hinv:Inv ps) (sd:Nat→Int):(txN ps sd).length=(aliveN ps).length:=by
 rw [alive_eq hinv];simp [txN,ord_len]
theorem blank_iff {ps:List PatchD} {sd:Nat→Int} {orx:Nat→Bool}:blankX ps orx (ordX ps sd)=decide (∀ x∈mkN ps sd orx,x=[32]):=by
 rw [Bool.eq_iff_iff,decide_eq_true_iff]
 unfold blankX mkN
 rw [List.all_eq_true]
 have mk4:∀ k,markX ps orx k=33∨markX ps orx k=64∨markX ps orx k=32∨markX ps orx k=124:=fun k=>by
  unfold markX
  split
  ·simp
  ·split
   ·simp
   ·split<;>simp
 constructor
 ·intro h x hx
  obtain ⟨k,hk,rfl⟩:=List.mem_map.1 hx
  rw [of_decide_eq_true (h k hk)]
  rfl
 ·intro h k hk
  have:=h _ (List.mem_map.2 ⟨k,hk,rfl⟩)
  rcases mk4 k with e | e | e | e<;>rw [e] at this ⊢<;>revert this<;>decide
structure Put (A:List SL) (T M:List (List UInt8)):Prop where
 at_:∀ l∈A,∃ k:Nat,T[k]? = some l.tx
 ok:∀ l∈A,∀ x∈A,∀ k j:Nat,T[k]? = some l.tx→T[j]? = some x.tx→∃ mk mj,M[k]? = some mk∧M[j]? = some mj∧((mj=[64]∨mj=[33])∧(mk=[64]∨mk=[33])∨((l.up=x.nm→j≤k)∧(l.dn=x.nm→k≤j)))
theorem put_ok {ps:List PatchD} (hinv:Inv ps) {sd:Nat→Int} {orx:Nat→Bool} (hs:StrX ps sd) (hd:∀ (i j:Nat) (x y:SL),(aliveN ps)[i]? = some x→(aliveN ps)[j]? = some y→i≠j→x.tx≠y.tx):Put (aliveN ps) (txN ps sd) (mkN ps sd orx):=by
 have hA:=alive_eq hinv
 have mem:∀ l∈aliveN ps,∃ a,a<nX ps∧ddX ps a=false∧l=slOf (lnX ps a):=fun l hl=>by
  rw [hA] at hl
  obtain ⟨a,ha,rfl⟩:=List.mem_map.1 hl
  exact ⟨a,(mem_liv.1 ha).1,(mem_liv.1 ha).2,rfl⟩
 have pos:∀ {a:Nat},a<nX ps→ddX ps a=false→∃ x,(ordX ps sd)[x]? = some a:=fun {a} h1 h2=>List.getElem?_of_mem (ordX_iff.2 ⟨h1,h2⟩)
 have txt:∀ {a x:Nat},(ordX ps sd)[x]? = some a→(txN ps sd)[x]? = some (lnX ps a).text:=fun {a x} h=>by unfold txN;rw [List.getElem?_map,h];rfl
 have idx:∀ {a:Nat},a<nX ps→ddX ps a=false→∃ i,(aliveN ps)[i]? = some (slOf (lnX ps a))∧(liv (nX ps) (ddX ps))[i]? = some a:=fun {a} h1 h2=>by
  obtain ⟨i,hi⟩:=List.getElem?_of_mem (mem_liv.2 ⟨h1,h2⟩)
  exact ⟨i,by rw [hA,List.getElem?_map,hi];rfl,hi⟩
 have one:∀ {a b:Nat},a<nX ps→ddX ps a=false→b<nX ps→ddX ps b=false→(lnX ps a).text=(lnX ps b).text→a=b:=fun {a b} h1 h2 h3 h4 e=>by
  obtain ⟨i,hi,hi'⟩:=idx h1 h2
  obtain ⟨j,hj,hj'⟩:=idx h3 h4
  by_cases hij:i=j
  ·subst hij
   rw [hi'] at hj'
   exact Option.some.inj hj'
  ·exact absurd e (hd i j _ _ hi hj hij)
 have back:∀ {a k:Nat},a<nX ps→ddX ps a=false→(txN ps sd)[k]? = some (lnX ps a).text→(ordX ps sd)[k]? = some a:=fun {a k} h1 h2 h=>by
  unfold txN at h
  rw [List.getElem?_map] at h
  cases e:(ordX ps sd)[k]? with
  | none=>rw [e] at h;cases h
  | some b =>
   rw [e] at h
   obtain ⟨h3,h4⟩:=ordX_iff.1 (List.mem_of_getElem? e)
   rw [one h3 h4 h1 h2 (Option.some.inj h)]
 refine ⟨fun l hl=>?_,fun l hl x hx k j hk hj=>?_⟩
 ·obtain ⟨a,h1,h2,rfl⟩:=mem l hl
  obtain ⟨x,hx⟩:=pos h1 h2
  exact ⟨x,txt hx⟩
 ·obtain ⟨a,h1,h2,rfl⟩:=mem l hl
  obtain ⟨b,h3,h4,rfl⟩:=mem x hx
  have ka:=back h1 h2 hk
  have jb:=back h3 h4 hj
  refine ⟨[UInt8.ofNat (markX ps orx a)],[UInt8.ofNat (markX ps orx b)],by unfold mkN;rw [List.getElem?_map,ka];rfl,by unfold mkN;rw [List.getElem?_map,jb];rfl,?_⟩
  have free:∀ {c:Nat},markX ps orx c=33∨markX ps orx c=64→[UInt8.ofNat (markX ps orx c)]=[64]∨[UInt8.ofNat (markX ps orx c)]=[33]:=fun {c} h=>by
   rcases h with e | e<;>rw [e]
   ·exact .inr rfl
   ·exact .inl rfl
  have up:(slOf (lnX ps a)).up=(slOf (lnX ps b)).nm→(lnX ps a).up=(lnX ps b).ref:=fun e=>refS_inj (isLn_pos hinv h3) e
  have dn:(slOf (lnX ps a)).dn=(slOf (lnX ps b)).nm→(lnX ps a).down=(lnX ps b).ref:=fun e=>refS_inj (isLn_pos hinv h3) e
  by_cases hf:(markX ps orx a=33∨markX ps orx a=64)∧(markX ps orx b=33∨markX ps orx b=64)
  ·exact .inl ⟨free hf.2,free hf.1⟩
  ·right
   refine ⟨fun e=>?_,fun e=>?_⟩
   ·rcases up_order (orx:=orx) hs hinv.nodup ka jb (up e) with q | ⟨q1,q2⟩
    ·exact q
    ·exact absurd ⟨q2,q1⟩ hf
   ·rcases down_order (orx:=orx) hs hinv.nodup ka jb (dn e) with q | q
    ·exact q
    ·exact absurd q hf
end Go.Proofs.YtlaffgagmncgjabDoor
namespace Go.Proofs.YtlaffgagmncgjabDoor
open Go Go.Pat Go.Proofs
def SL.cells (l:SL):List Value:=[.string (str l.nm),.string (str l.up),.string (str l.dn),.string (str l.tx)]
theorem SL.one (l:SL):One l.cells:=by intro u hu;simp [SL.cells] at hu;rcases hu with rfl | rfl | rfl | rfl<;>rfl
theorem SL.len (l:SL):l.cells.length=4:=rfl
def slC (L:List SL):List Value:=L.flatMap SL.cells
theorem slC_append (L M:List SL):slC (L++M)=slC L++slC M:=by simp [slC]
theorem slC_one (l:SL):slC [l]=l.cells:=by simp [slC]
theorem hShow_ret {F:Nat→Prop} {a:Nat} {ps:List PatchD} {h:Heap} (hs:Sto F h a ps) (hF:∀ k,F k→k<h.size) :
  Ret Tryd.prog 32 #[.pointer (some ⟨a,0,none⟩)] h fun v h'=>Ext h h'∧∃ sd orx,NumX ps sd orx∧Own h' 9 1 v (showW (itemsX ps sd orx)).length (strs (showW (itemsX ps sd orx)))∧∀ k,v.ownBlock=some k→h.size≤k:=by
 obtain ⟨lv,l,h1,h2,h3,h4⟩:=hs
 subst h3
 exact xShow_ret a l lv h h1 h2 hF h4.inv
theorem hClean_ret {F:Nat→Prop} {a:Nat} {ps:List PatchD} {h:Heap} (hs:Sto F h a ps) (hF:∀ k,F k→k<h.size) :
  Ret Tryd.prog 33 #[.pointer (some ⟨a,0,none⟩)] h fun v h'=>Ext h h'∧∃ sd orx,NumX ps sd orx∧v = .bool (blankX ps orx (ordX ps sd)):=by
 obtain ⟨lv,l,h1,h2,h3,h4⟩:=hs
 subst h3
 exact xClean_ret a l lv h h1 h2 hF h4.inv
theorem hLog_ret {F:Nat→Prop} {a:Nat} {ps:List PatchD} {h:Heap} (hs:Sto F h a ps) :
  Ret Tryd.prog 19 #[.pointer (some ⟨a,0,none⟩)] h fun v h'=>Ext h h'∧Own h' 3 1 v (idsS ps).length (ints (idsS ps))∧Moved h (.slice none 0 0) v:=by
 obtain ⟨lv,l,h1,h2,h3,h4⟩:=hs
 subst h3
 have:=h4.inv.len
 exact xLog_ret a l lv h h1 h2 (by simp at this;omega)
theorem plain_hsplit:Plain Tryd.prog 53:=⟨_,Tryd.func53,by decide +kernel,by rfl⟩
theorem plain_hdigits:Plain Tryd.prog 54:=⟨_,Tryd.func54,by decide +kernel,by rfl⟩
theorem plain_hamong:Plain Tryd.prog 31:=⟨_,Tryd.func31,by decide +kernel,by rfl⟩
theorem plain_hsaid:Plain Tryd.prog 30:=⟨_,Tryd.func30,by decide +kernel,by rfl⟩
theorem plain_hnothing:Plain Tryd.prog 15:=⟨_,Tryd.func15,by decide +kernel,by rfl⟩
theorem plain_hinOrder:Plain Tryd.prog 34:=⟨_,Tryd.func34,by decide +kernel,by rfl⟩
theorem hsplit_ret (l:List UInt8) (c:UInt8) (h:Heap) (hl:l.length≤16777216):Ret Tryd.prog 53 #[.string (str l),.int .u8 (c.toNat:Int)] h fun v h' =>
  Ext h h'∧Own h' 9 1 v (splitL c l).length (strs (splitL c l))∧Moved h (.slice none 0 0) v:=by
 refine Ret.of_body Tryd.func53 rfl Tryd.ntmps53 rfl rfl ?_
 refine zgo ?_
 refine Runs.loop (X:=SX) (fun x=>[(0,.string (str l)),(1,.int .u8 (c.toNat:Int)),(5,x.v),(6,.int .i64 (x.fr:Int)),(7,.int .i64 (x.i:Int))])
  (fun x h'=>Ext h h'∧Own h' 9 1 x.v x.ps.length (strs x.ps)∧Moved h (.slice none 0 0) x.v∧x.fr≤x.i∧x.i≤l.length∧x.ps.length≤x.i∧splitL c l=x.ps++consPre ((l.take x.i).drop x.fr) (splitL c (l.drop x.i)))
  (fun x=>l.length-x.i) ⟨0,0,.slice none 0 0,[]⟩ ⟨rfl,rfl,rfl,rfl,rfl,trivial⟩ ⟨Fr.refl _ _,Own.nil _ _ _,by intro k hk;simp [Value.ownBlock] at hk,Nat.le_refl _,Nat.zero_le _,Nat.le_refl _,?_⟩ ?_
 ·simp only [List.take_zero,List.drop_nil,List.drop_zero,List.nil_append]
  cases hs:splitL c l with
  | nil=>exact absurd hs (splitL_ne c l)
  | cons q qs=>rfl
 rintro ⟨i,fr,v,ps⟩ h1 ⟨hx,hown,hmv,hfi,hil,hpi,hspec⟩ ih
 dsimp only at hx hown hmv hfi hil hpi hspec ih ⊢
 refine zgo ?_
 refine Runs.cond_dec rfl (fun hlt=>?_) (fun hge=>?_)
 ·have hlt':i<l.length:=by omega
  obtain ⟨x,hget⟩:∃ x,l[i]? = some x:=⟨l[i],List.getElem?_eq_getElem hlt'⟩
  refine zgo ?_
  refine Runs.cond_dec rfl (fun heq=>?_) (fun hne=>?_)
  ·refine zgo ?_
   refine zh (one_str _) hown ?_
   intro v' h' q1 q2 q3
   refine zgo ?_
   have hxc:x=c:=UInt8.toNat.inj (by omega)
   refine ih ⟨i+1,i+1,v',ps++[(l.take i).drop fr]⟩ _ _ (by dsimp only;omega) ⟨rfl,rfl,rfl,rfl,rfl,trivial⟩ ⟨hx.trans_new (q2.mono ?_),by simpa [strs] using q1,?_,Nat.le_refl _,hlt',by simp;omega,?_⟩
   ·intro k _ hk;right;have:=hmv k hk;simpa [Value.ownBlock] using this
   ·intro k hk
    right
    rcases q3 k hk with e | e
    ·have:=hmv k e;simpa [Value.ownBlock] using this
    ·have:=hx.size;omega
   ·rw [hspec,List.drop_eq_getElem_cons hlt']
    have:l[i]=c:=by rw [List.getElem?_eq_getElem hlt'] at hget;cases hget;exact hxc
    rw [this]
    have hd:List.drop (i+1) (List.take (i+1) l)=[]:=by simp
    simp only [splitL,if_true,consPre,List.append_nil,hd]
    cases hs:splitL c (List.drop (i+1) l) with
    | nil=>exact absurd hs (splitL_ne c _)
    | cons q qs=>simp
  ·refine zgo ?_
   refine ih ⟨i+1,fr,v,ps⟩ _ _ (by dsimp only;omega) ⟨rfl,rfl,rfl,rfl,rfl,trivial⟩ ⟨hx,hown,hmv,by dsimp only;omega,hlt',by dsimp only;omega,?_⟩
   have hxc:x≠c:=fun e=>hne (by rw [e])
   have hxe:l[i]=x:=by rw [List.getElem?_eq_getElem hlt'] at hget;cases hget;rfl
   rw [hspec,List.drop_eq_getElem_cons hlt',hxe,consPre_snoc hxc]
   congr 2
   rw [List.take_succ_eq_append_getElem hlt',hxe,List.drop_append_of_le_length (by simp;omega)]
 ·refine zgo ?_
  refine zh (one_str _) hown ?_
  intro v' h' q1 q2 q3
  refine zgo ?_
  have hi:i=l.length:=by omega
  subst hi
  have hfin:splitL c l=ps++[l.drop fr]:=by rw [hspec];simp [splitL,consPre]
  refine Runs.ret Tryd.func53 (ret1 Tryd.results53 rfl) ⟨hx.trans_new (q2.mono ?_),?_,?_⟩
  ·intro k _ hk;right;have:=hmv k hk;simpa [Value.ownBlock] using this
  ·rw [hfin];simpa [strs] using q1
  ·intro k hk
   right
   rcases q3 k hk with e | e
   ·have:=hmv k e;simpa [Value.ownBlock] using this
   ·have:=hx.size;omega
theorem hdigits_ret (n:Nat) (h:Heap) (hn:n<1000000):Ret Tryd.prog 54 #[.int .i64 (n:Int)] h fun v h'=>Ext h h'∧v = .string (str (decS n)):=by
 induction n using Nat.strongRecOn generalizing h with
 | _ n ihn =>
 refine Ret.of_body Tryd.func54 rfl Tryd.ntmps54 rfl rfl ?_
 refine zgo ?_
 refine WO.val (ov_rem rfl rfl rfl (by omega) (by omega)) rfl rfl rfl ?_
 refine WO.val (ov_add rfl rfl rfl (in_i64 (by omega) (by omega))) rfl rfl rfl ?_
 refine WO.val (ov_conv tab_ok rfl rfl rfl rfl (in_u8 (by omega) (by omega))) rfl rfl rfl ?_
 refine WO.ex rfl rfl rfl (ox_build1 tab_ok rfl rfl rfl rfl rfl rfl rfl rfl ?_)
 have hdig:(UInt8.ofNat (48+n % 10)).toNat=48+n % 10:=by rw [UInt8.toNat_ofNat'];omega
 refine WO.val (ov_bstr (l:=[UInt8.ofNat (48+n % 10)]) tab_ok rfl rfl rfl rfl rfl ?_) rfl rfl rfl ?_
 ·have hc:=cells_push_new (h:=h) [Value.int .u8 (48+(n:Int) % 10)] 5 (0,0)
  have e:(([UInt8.ofNat (48+n % 10)]:List UInt8).map fun (q:UInt8)=>Value.int .u8 (q.toNat:Int))=[Value.int .u8 (48+(n:Int) % 10)]:=by
   simp only [List.map_cons,List.map_nil,hdig]
   congr 2
  rw [e]
  exact hc
 generalize hh1:(h.push (.cells ([Value.int .u8 (48+(n:Int) % 10)]:List Value).toArray 5 (0,0)))=h1
 have hx1:Ext h h1:=by rw [← hh1];exact Fr.push _ _ _
 clear hh1
 refine zgo ?_
 refine Runs.cond_dec rfl (fun q1=>?_) (fun q1=>?_)
 ·refine zgo ?_
  refine Runs.ret Tryd.func54 (ret1 Tryd.results54 rfl) ⟨hx1,?_⟩
  rw [decS_small (by omega),Nat.mod_eq_of_lt (by omega)]
 ·have hlen:=decS_len 5 (n / 10) (by omega)
  refine zgo ?_
  refine WO.val (ov_quo rfl rfl rfl (by omega) (by omega) (in_i64 (by omega) (by omega))) rfl rfl rfl ?_
  refine WO.call rfl rfl rfl rfl plain_hdigits rfl (ihn (n / 10) (by omega) _ (by omega)) fun v h2 ⟨hx2,hv2⟩=>?_
  subst hv2
  refine zgo ?_
  refine Runs.ret Tryd.func54 (ret1 Tryd.results54 rfl) ⟨hx1.trans hx2,?_⟩
  rw [decS_big (n:=n) (by omega)]
def amongS (l:List (List UInt8)) (x:List UInt8) (z:Int):Prop:=(∃ k:Nat,l[k]? = some x∧(∀ j,j<k→l[j]? ≠ some x)∧z=(k:Int))∨(x∉l∧z = -1)
theorem hamong_ret (l:List (List UInt8)) (x:List UInt8) (v:Value) (h:Heap) (hl:l.length≤16777216) (hr:Rd h 1 v l.length (strs l)):Ret Tryd.prog 31 #[v,.string (str x)] h fun r h' =>
  h'=h∧∃ z,amongS l x z∧r = .int .i64 z:=by
 obtain ⟨ad,cap,hv⟩:=hr.form
 subst hv
 refine Ret.of_body Tryd.func31 rfl Tryd.ntmps31 rfl rfl ?_
 refine zgo ?_
 refine Runs.loop (X:=Nat) (fun i=>[(0,.slice ad l.length cap),(1,.string (str x)),(7,.int .i64 (l.length:Int)),(8,.int .i64 (i:Int))])
  (fun i h'=>h=h'∧i≤l.length∧∀ j,j<i→l[j]? ≠ some x) (fun i=>l.length-i) 0 ⟨rfl,rfl,rfl,rfl,trivial⟩ ⟨rfl,Nat.zero_le _,fun j hj=>by omega⟩ ?_
 rintro i _ ⟨rfl,hi,hnot⟩ ih
 refine zgo ?_
 refine Runs.cond_dec rfl (fun hlt=>?_) (fun hge=>?_)
 ·have hlt':i<l.length:=by omega
  obtain ⟨y,hget⟩:∃ y,l[i]? = some y:=⟨l[i],List.getElem?_eq_getElem hlt'⟩
  obtain ⟨b,p,cap',hv,hcap,hcell⟩:=hr.cell (strs_get hget)
  cases hv
  refine zgo ?_
  refine Runs.cond_dec rfl (fun heq=>?_) (fun hne=>?_)
  ·refine zgo ?_
   exact Runs.ret Tryd.func31 (ret1 Tryd.results31 rfl) ⟨rfl,_,.inl ⟨i,by rw [hget,heq],hnot,rfl⟩,rfl⟩
  ·refine zgo ?_
   refine ih (i+1) _ _ (by omega) ⟨rfl,rfl,rfl,rfl,trivial⟩ ⟨rfl,by omega,fun j hj=>?_⟩
   by_cases e:j=i
   ·subst e
    rw [hget]
    exact fun e=>hne (Option.some.inj e)
   ·exact hnot j (by omega)
 ·refine zgo ?_
  refine Runs.ret Tryd.func31 (ret1 Tryd.results31 rfl) ⟨rfl,_,.inr ⟨fun hm=>?_,rfl⟩,rfl⟩
  obtain ⟨j,hj⟩:=List.getElem?_of_mem hm
  have:=(List.getElem?_eq_some_iff.1 hj).1
  exact hnot j (by omega) hj
end Go.Proofs.YtlaffgagmncgjabDoor
namespace Go.Proofs.YtlaffgagmncgjabDoor
open Go Go.Pat Go.Proofs
structure SaJ (h0 h':Heap) (L:List SL) (D:List (List UInt8)) (lv dv:Value):Prop where
 ext:Ext h0 h'
 l:Own h' 55 4 lv L.length (slC L)
 d:Own h' 9 1 dv D.length (strs D)
 ln:∀ q,lv.ownBlock=some q→h0.size≤q
 dn:∀ q,dv.ownBlock=some q→h0.size≤q
 ne:∀ q,lv.ownBlock=some q→dv.ownBlock=some q→False
theorem SaJ.on {h0 h1 h2:Heap} {L:List SL} {D:List (List UInt8)} {lv dv:Value} (w:SaJ h0 h1 L D lv dv) (x:Ext h1 h2):SaJ h0 h2 L D lv dv:=⟨w.ext.trans x,w.l.fr x (by simp),w.d.fr x (by simp),w.ln,w.dn,w.ne⟩
theorem SaJ.pushD {h0 h1 h2:Heap} {L:List SL} {D:List (List UInt8)} {lv dv dv':Value} {x:List UInt8} (w:SaJ h0 h1 L D lv dv) (o:Own h2 9 1 dv' (D.length+1) (strs D++[.string (str x)])) (f:Fr (fun q=>dv.ownBlock=some q) h1 h2) (nw:Moved h1 dv dv'):SaJ h0 h2 L (D++[x]) lv dv':=by
 have hz:=w.ext.size
 refine ⟨w.ext.trans_new (f.mono fun q _ e=>.inr (w.dn q e)),w.l.fr f fun q hq e=>w.ne q hq e,?_,w.ln,fun q hq=>?_,fun q hq hq'=>?_⟩
 ·rw [strs_append,List.length_append];exact o
 ·rcases nw q hq with e | e
  ·exact w.dn q e
  ·omega
 ·rcases nw q hq' with e | e
  ·exact w.ne q hq e
  ·have:=w.l.lt q hq;omega
theorem SaJ.pushL {h0 h1 h2:Heap} {L:List SL} {D:List (List UInt8)} {lv dv lv':Value} {x:SL} (w:SaJ h0 h1 L D lv dv) (o:Own h2 55 4 lv' (L.length+1) (slC L++x.cells)) (f:Fr (fun q=>lv.ownBlock=some q) h1 h2) (nw:Moved h1 lv lv'):SaJ h0 h2 (L++[x]) D lv' dv:=by
 have hz:=w.ext.size
 refine ⟨w.ext.trans_new (f.mono fun q _ e=>.inr (w.ln q e)),?_,w.d.fr f fun q hq e=>w.ne q e hq,fun q hq=>?_,w.dn,fun q hq hq'=>?_⟩
 ·rw [slC_append,slC_one,List.length_append];exact o
 ·rcases nw q hq with e | e
  ·exact w.ln q e
  ·omega
 ·rcases nw q hq with e | e
  ·exact w.ne q e hq'
  ·have:=w.d.lt q hq';omega
structure SaX where
 (i:Nat) (lv dv:Value)
structure SbX where
 (k o:Nat) (lv dv:Value) (L:List SL) (D:List (List UInt8))
theorem swayl {id:Nat}:∀ {l:List (List UInt8)} {s s':SSt},SWays id s l s'→s.L.length+s.D.length+s.o≤s'.L.length+s'.D.length+s'.o
 | [],s,s',h=>by cases h;exact Nat.le_refl _
 | x::l,s,s',⟨s1,h1,h2⟩=>by
  have:=swayl h2
  rcases h1 with ⟨_,_,_,_,_,rfl⟩ | ⟨_,_,rfl⟩ | ⟨_,_,_,_,_,_,_,rfl⟩
  ·exact this
  ·simp at this;omega
  ·simp at this;omega
theorem dels_len {p:PatchD}:(delsOf p.changes).length≤p.changes.length:=by unfold delsOf;rw [List.length_map];exact List.length_filter_le _ _
theorem hsaid_ret {F:Nat→Prop} {a:Nat} {ps:List PatchD} {h:Heap} (ht:Tab10 h) (hs:Sto F h a ps) :
  Ret Tryd.prog 30 #[.pointer (some ⟨a,0,none⟩)] h fun v h'=>∃ lv dv,v = .tuple #[lv,dv]∧SaJ h h' ((linesS ps).map slOf) (deadN ps) lv dv:=by
 refine Ret.of_body Tryd.func30 rfl Tryd.ntmps30 rfl rfl ?_
 have hset:=hs.set
 have hinv:=hset.inv
 have hpl:=hinv.len
 have hnl:=hinv.lines
 refine zgo ?_
 refine WO.call rfl rfl rfl rfl plain_xLog rfl (hLog_ret hs) fun v1 h1 ⟨hx1,ho1,hm1⟩=>?_
 have hil:(idsS ps).length=ps.length:=by simp [idsS]
 rw [hil] at ho1
 obtain ⟨ad,cap,hv1⟩:=ho1.rd.form
 subst hv1
 refine zgo ?_
 refine Runs.loop (X:=SaX) (fun u=>[(0,.pointer (some ⟨a,0,none⟩)),(4,u.lv),(5,u.dv),(16,.slice ad ps.length cap),(17,.int .i64 (ps.length:Int)),(18,.int .i64 (u.i:Int))])
  (fun u h'=>u.i≤ps.length∧SaJ h1 h' ((linesS (ps.take u.i)).map slOf) (deadN (ps.take u.i)) u.lv u.dv) (fun u=>ps.length-u.i) ⟨0,.slice none 0 0,.slice none 0 0⟩ ⟨rfl,rfl,rfl,rfl,rfl,rfl,trivial⟩
  ⟨Nat.zero_le _,Fr.refl _ _,Own.nil _ _ _,Own.nil _ _ _,fun q hq=>by simp [Value.ownBlock] at hq,fun q hq=>by simp [Value.ownBlock] at hq,fun q hq=>by simp [Value.ownBlock] at hq⟩ ?_
 rintro ⟨i,lv,dv⟩ h2 ⟨hi,w2⟩ ih
 dsimp only at hi w2 ih ⊢
 refine zgo ?_
 refine Runs.cond_dec rfl (fun hlt=>?_) (fun hge=>?_)
 rotate_left
 ·have hi':i=ps.length:=by omega
  subst hi'
  rw [List.take_length] at w2
  refine zgo ?_
  have hz1:=hx1.size
  exact Runs.ret Tryd.func30 (ret2 Tryd.results30 rfl rfl) ⟨lv,dv,rfl,hx1.trans w2.ext,w2.l,w2.d,fun q hq=>Nat.le_trans hz1 (w2.ln q hq),fun q hq=>Nat.le_trans hz1 (w2.dn q hq),w2.ne⟩
 have hlt':i<ps.length:=by omega
 have hgp:ps[i]? = some ps[i]:=List.getElem?_eq_getElem hlt'
 have hpm:ps[i]∈ps:=List.getElem_mem hlt'
 have hsn:ps.take (i+1)=ps.take i++[ps[i]]:=List.take_succ_eq_append_getElem hlt'
 generalize ps[i]=p at *
 have hgi:(idsS ps)[i]? = some p.id:=by simp [idsS,hgp]
 obtain ⟨b0,p0,cap0,hv0,_,hcell⟩:=(ho1.rd.ext w2.ext).cell (ints_get hgi)
 cases hv0
 obtain ⟨t0,ht0,_⟩:=hinv.fine p hpm
 have htx:=parse_text ht0
 rw [← htx] at ht0
 clear htx
 have hpok:=hinv.ok hpm
 have hx12:=hx1.trans w2.ext
 have hs2:=hs.ext hx12
 refine zgo ?_
 refine WO.call rfl rfl rfl rfl plain_xText rfl (kText_ret (ht.fr hx12 (by simp)) hs2 (p.id:Int)) fun v3 h3 ⟨hx3,t,e,hv3,htx⟩=>?_
 subst hv3
 obtain ⟨rfl,rfl⟩:t=textS p∧e=0:=by
  rcases htx with ⟨p',hp',e1,e2,e3⟩ | ⟨hno,_⟩
  ·have e1':p'.id=p.id:=by omega
   rw [ids_inj hinv.nodup hp' hpm e1'] at e2
   exact ⟨e2,e3⟩
  ·exact absurd rfl (hno p hpm)
 clear htx
 obtain ⟨hways,hrl⟩:=says_text ht0 ((linesS (ps.take i)).map slOf) (deadN (ps.take i))
 have htl:(textS p).length≤1400:=by
  obtain ⟨hl,_⟩:=parseS_iff.1 ht0
  exact hl
 have hrowl:=splitL_len 10 (textS p)
 have w3:=w2.on hx3
 refine zgo ?_
 refine WO.call rfl rfl rfl rfl plain_hsplit rfl (hsplit_ret (textS p) 10 _ (by omega)) fun v4 h4 ⟨hx4,ho4,hm4⟩=>?_
 have w4:=w3.on hx4
 generalize hrows:splitL 10 (textS p)=rows at *
 obtain ⟨ar,cr,hv4⟩:=ho4.rd.form
 subst hv4
 have hownp:ownN p.changes≤30:=by have:=ownN_le p.changes;have:=hpok.len;omega
 have hlA:(linesS (ps.take i)).length+(linesOfS p).length≤90:=by
  have e:(linesS (ps.take (i+1))).length≤(linesS ps).length:=by
   have:linesS ps=linesS (ps.take (i+1))++linesS (ps.drop (i+1)):=by
    unfold linesS
    rw [← List.flatMap_append,List.take_append_drop]
   rw [this,List.length_append];omega
  rw [hsn] at e
  simp [linesS] at e hnl ⊢
  omega
 have hdA:(deadN (ps.take i)).length+(delsOf p.changes).length≤1000:=by
  have one:∀ q∈ps,(delsOf q.changes).length≤30:=fun q hq=>Nat.le_trans dels_len (hinv.ok hq).len
  have tot:∀ l:List PatchD,(∀ q∈l,(delsOf q.changes).length≤30)→(deadN l).length≤30*l.length:=by
   intro l
   induction l with
   | nil=>intro _;simp [deadN]
   | cons q l ih =>
    intro hq
    have h1:=ih fun x hx=>hq x (List.mem_cons_of_mem _ hx)
    have h2:=hq q (by simp)
    simp only [deadN,List.flatMap_cons,List.length_append,List.length_cons] at h1 ⊢
    omega
  have h1:=tot (ps.take i) fun q hq=>one q (List.mem_of_mem_take hq)
  have h2:=one p hpm
  rw [List.length_take] at h1
  omega
 have hfin:∀ {s:SSt} {l:List (List UInt8)},SWays p.id s l ⟨(linesS (ps.take i)).map slOf++(linesOfS p).map slOf,deadN (ps.take i)++delsOf p.changes,ownN p.changes⟩→s.L.length+s.D.length+s.o≤1200:=fun {s l} hw=>by
  have:=swayl hw
  simp at this
  omega
 have hrb:∀ q,(Value.slice ar rows.length cr).ownBlock=some q→h3.size≤q∧q<h4.size:=fun q hq=>by
  refine ⟨?_,ho4.lt q hq⟩
  rcases hm4 q hq with e | e
  ·simp [Value.ownBlock] at e
  ·exact e
 have hz3:=hx3.size
 have hz4:=hx4.size
 refine zgo ?_
 refine Runs.loop (X:=SbX) (fun u=>[(0,.pointer (some ⟨a,0,none⟩)),(4,u.lv),(5,u.dv),(7,.int .i64 (p.id:Int)),(10,.int .i64 (u.o:Int)),(16,.slice (some ⟨b0,p0,none⟩) ps.length cap),(17,.int .i64 (ps.length:Int)),(18,.int .i64 (i:Int)),(29,.slice ar rows.length cr),(30,.int .i64 (rows.length:Int)),(31,.int .i64 (u.k:Int))])
  (fun u h'=>u.k≤rows.length∧Fr (fun q=>q<h3.size∨h4.size≤q) h4 h'∧SaJ h1 h' u.L u.D u.lv u.dv∧(∀ q,u.lv.ownBlock=some q→q<h3.size∨h4.size≤q)∧(∀ q,u.dv.ownBlock=some q→q<h3.size∨h4.size≤q)∧SWays p.id ⟨u.L,u.D,u.o⟩ (rows.drop u.k) ⟨(linesS (ps.take i)).map slOf++(linesOfS p).map slOf,deadN (ps.take i)++delsOf p.changes,ownN p.changes⟩) (fun u=>rows.length-u.k) ⟨0,0,lv,dv,_,_⟩ ⟨rfl,rfl,rfl,rfl,rfl,rfl,rfl,rfl,rfl,rfl,rfl,trivial⟩
  ⟨Nat.zero_le _,Fr.refl _ _,w4,fun q hq=>.inl (by have:=w2.l.lt q hq;omega),fun q hq=>.inl (by have:=w2.d.lt q hq;omega),hways⟩ ?_
 rintro ⟨k,o,lv2,dv2,L,D⟩ h5 ⟨hk,hf5,w5,hl5,hd5,hw5⟩ ih2
 dsimp only at hk hf5 w5 hl5 hd5 hw5 ih2 ⊢
 have hbd:=hfin hw5
 dsimp only at hbd
 have hz5:=hf5.size
 refine zgo ?_
 refine Runs.cond_dec rfl (fun hlt2=>?_) (fun hge2=>?_)
 rotate_left
 ·have hk':rows.drop k=[]:=List.drop_eq_nil_of_le (by omega)
  rw [hk'] at hw5
  simp only [SWays,SSt.mk.injEq] at hw5
  obtain ⟨e1,e2,_⟩:=hw5
  rw [← e1,← e2] at w5
  refine zgo ?_
  refine ih ⟨i+1,lv2,dv2⟩ _ _ (by dsimp only;omega) ⟨rfl,rfl,rfl,rfl,rfl,rfl,trivial⟩ ⟨by dsimp only;omega,?_⟩
  dsimp only
  have e3:linesS (ps.take i++[p])=linesS (ps.take i)++linesOfS p:=by simp [linesS]
  have e4:deadN (ps.take i++[p])=deadN (ps.take i)++delsOf p.changes:=by simp [deadN]
  rw [hsn,e3,e4,List.map_append]
  exact w5
 clear ih
 have hlt3:k<rows.length:=by omega
 have hgr:rows[k]? = some rows[k]:=List.getElem?_eq_getElem hlt3
 have hxm:rows[k]∈rows:=List.getElem_mem hlt3
 have hdr:rows.drop k=rows[k]::rows.drop (k+1):=List.drop_eq_getElem_cons hlt3
 generalize rows[k]=x at *
 rw [hdr] at hw5
 obtain ⟨s1,hxw,hrest⟩:=hw5
 have hxl:x.length≤1400:=by
  have:=sum_mem_le (l:=rows.map fun p=>p.length+1) (x:=x.length+1) (List.mem_map.2 ⟨x,hxm,rfl⟩)
  omega
 have hr5:Rd h5 1 (.slice ar rows.length cr) rows.length (strs rows):=ho4.rd.fr hf5 (fun q hq e=>by have:=hrb q hq;omega)
 obtain ⟨br,pr,capr,hvr,_,hcr⟩:=hr5.cell (strs_get hgr)
 cases hvr
 refine zgo ?_
 refine WO.call rfl rfl rfl rfl plain_hsplit rfl (hsplit_ret x 32 _ (by omega)) fun v6 h6 ⟨hx6,ho6,hm6⟩=>?_
 have w6:=w5.on hx6
 have hz6:=hx6.size
 have hf6:=hf5.ex hx6
 have hwb:∀ q,v6.ownBlock=some q→h5.size≤q∧q<h6.size:=fun q hq=>by
  refine ⟨?_,ho6.lt q hq⟩
  rcases hm6 q hq with e | e
  ·simp [Value.ownBlock] at e
  ·exact e
 rcases hxw with ⟨w,ws,hsp,hne1,hne2,rfl⟩ | ⟨r,hsp,rfl⟩ | ⟨u,d,t,ws,hxe,hsp,hwl,rfl⟩
 ·rw [hsp] at ho6
  obtain ⟨b6,p6,cap6,hv6,_,hcs⟩:=ho6.rd.pos (by simp)
  subst hv6
  have c0:=hcs 0 _ (strs_get (x:=w) rfl)
  have hd1:decide (w=[100,101,108])=false:=by simp [hne1]
  have hd2:decide (w=[97,100,100])=false:=by simp [hne2]
  refine zgo ?_
  rw [hd1]
  refine zgo ?_
  rw [hd2]
  refine zgo ?_
  exact ih2 ⟨k+1,o,lv2,dv2,L,D⟩ _ _ (by dsimp only;omega) ⟨rfl,rfl,rfl,rfl,rfl,rfl,rfl,rfl,rfl,rfl,rfl,trivial⟩ ⟨by dsimp only;omega,hf6,w6,hl5,hd5,hrest⟩
 ·rw [hsp] at ho6
  obtain ⟨b6,p6,cap6,hv6,_,hcs⟩:=ho6.rd.pos (by simp)
  subst hv6
  have c0:=hcs 0 _ (strs_get (x:=[100,101,108]) rfl)
  have c1:=hcs 1 _ (strs_get (x:=r) rfl)
  have hb6:=hwb b6 rfl
  refine zgo ?_
  refine zh (one_str _) w6.d ?_
  intro dv3 h7 r1 r2 r3
  have hz7:=r2.size
  have hbne:¬ dv2.ownBlock=some b6:=fun e=>by have:=w5.d.lt b6 e;omega
  replace c0:=r2.cell hbne c0
  clear c1 hcs
  refine zgo ?_
  exact ih2 ⟨k+1,o,lv2,dv3,L,D++[r]⟩ _ _ (by dsimp only;omega) ⟨rfl,rfl,rfl,rfl,rfl,rfl,rfl,rfl,rfl,rfl,rfl,trivial⟩ ⟨by dsimp only;omega,hf6.trans (r2.mono fun q _ e=>hd5 q e),w6.pushD r1 r2 r3,hl5,fun q hq=>by
   rcases r3 q hq with e | e
   ·exact hd5 q e
   ·exact .inr (by omega),hrest⟩
 ·rw [hsp] at ho6
  obtain ⟨b6,p6,cap6,hv6,_,hcs⟩:=ho6.rd.pos (by simp)
  subst hv6
  have c0:=hcs 0 _ (strs_get (x:=[97,100,100]) rfl)
  have c1:=hcs 1 _ (strs_get (x:=u) rfl)
  have c2:=hcs 2 _ (strs_get (x:=d) rfl)
  have hb6:=hwb b6 rfl
  have hxlen:x.length=4+u.length+1+d.length+1+t.length:=by rw [hxe];simp;omega
  have hdrop:x.drop (4+u.length+1+d.length+1)=t:=by
   rw [hxe,show ([97,100,100,32]++(u++32::(d++32::t)):List UInt8)=([97,100,100,32]++u++[32]++d++[32])++t by simp]
   exact List.drop_left' (by simp;omega)
  have hd3:decide ((3:Int)<((([97,100,100]::u::d::ws:List (List UInt8)).length:Nat):Int))=true:=by simp;omega
  refine zgo ?_
  rw [hd3]
  refine zgo ?_
  refine Runs.still mixed (by kernel_rfl) ?_
  refine zws ?_
  refine WS.val (ov_sslice_lo (i:=4+u.length+1+d.length+1) tab_ok rfl rfl rfl rfl (natOf_of (by omega)) (by omega)) rfl rfl rfl ?_
  refine zws ?_
  rw [hdrop]
  refine zgo ?_
  have hbne:¬ lv2.ownBlock=some b6:=fun e=>by have:=w5.l.lt b6 e;omega
  have hS0:Fr (fun q=>lv2.ownBlock=some q) h6 h6:=Fr.refl _ _
  refine Runs.drawn (m:=18) (fun h'=>Fr (fun q=>lv2.ownBlock=some q) h6 h') (fun _=>false) mixed rfl ?_
  refine zp 0 hS0 ?_
  refine zp 1 hS0 ?_
  refine zp 4 hS0 ?_
  refine zp 7 hS0 ?_
  refine WF.take 8 rfl (fun _ _=>ov_indexAddr tab_ok rfl rfl rfl rfl rfl rfl (by simp)) hS0 rfl rfl rfl (by kernel_rfl) ?_
  refine zl 9 (fun _ hS=>(hS.cell hbne c1)) hS0 ?_
  refine zp 10 hS0 ?_
  refine WF.take 11 rfl (fun _ _=>ov_indexAddr tab_ok rfl rfl rfl rfl rfl rfl (by simp)) hS0 rfl rfl rfl (by kernel_rfl) ?_
  refine zl 12 (fun _ hS=>(hS.cell hbne c2)) hS0 ?_
  refine zp 13 hS0 ?_
  have hdl1:=decS_len 4 p.id (by have:=hpok.id;omega)
  have hdl2:=decS_len 4 o (by omega)
  refine WF.call 2 (by kernel_rfl) rfl rfl rfl rfl rfl plain_hdigits rfl (hdigits_ret p.id _ (by have:=hpok.id;omega)) fun v7 h7 ⟨hx7,hv7⟩=>⟨.inr hx7.up,?_⟩
  subst hv7
  refine WF.take 3 rfl (fun _ _=>ov_sadd rfl rfl rfl (by simp;omega)) hx7.up rfl rfl rfl (by kernel_rfl) ?_
  refine WF.call 5 (by kernel_rfl) rfl rfl rfl rfl rfl plain_hdigits rfl (hdigits_ret o _ (by omega)) fun v8 h8 ⟨hx8,hv8⟩=>⟨.inr (hx7.trans hx8).up,?_⟩
  subst hv8
  have hx68:=hx7.trans hx8
  have w8:=w6.on hx68
  have hz8:=hx68.size
  refine WF.take 6 rfl (fun _ _=>ov_sadd rfl rfl rfl (by simp;omega)) hx68.up rfl rfl rfl (by kernel_rfl) ?_
  refine zp 14 hx68.up ?_
  refine WF.push 15 16 tab_ok (by kernel_rfl) (by kernel_rfl) rfl rfl rfl rfl rfl rfl rfl rfl rfl rfl rfl rfl rfl rfl rfl rfl rfl rfl rfl (by simp) (SL.one ⟨decS p.id++[46]++decS o,u,d,t⟩) w8.l (by omega) (fun h' hf=>hx68.up.trans hf) ?_
  intro lv3 h9 r1 r2 r3
  have hz9:=r2.size
  refine zx 17 ((hx68.up.trans r2)) ?_
  refine WF.done (by kernel_rfl) ?_
  refine zgo ?_
  exact ih2 ⟨k+1,o+1,lv3,dv2,L++[⟨decS p.id++[46]++decS o,u,d,t⟩],D⟩ _ _ (by dsimp only;omega) ⟨rfl,rfl,rfl,rfl,rfl,rfl,rfl,rfl,rfl,rfl,rfl,trivial⟩ ⟨by dsimp only;omega,(hf6.ex hx68).trans (r2.mono fun q _ e=>hl5 q e),w8.pushL (x:=⟨decS p.id++[46]++decS o,u,d,t⟩) r1 r2 r3,fun q hq=>by
   rcases r3 q hq with e | e
   ·exact hl5 q e
   ·exact .inr (by omega),hd5,hrest⟩
end Go.Proofs.YtlaffgagmncgjabDoor
namespace Go.Proofs.YtlaffgagmncgjabDoor
open Go Go.Pat Go.Proofs
theorem hinOrder_ret {A:List SL} {T M:List (List UInt8)} (hp:Put A T M) (hA:A.length≤1000) (hT:T.length≤1000) (av tv mv:Value) (h:Heap) (ha:Rd h 4 av A.length (slC A)) (htv:Rd h 1 tv T.length (strs T)) (hmv:Rd h 1 mv M.length (strs M)) :
  Ret Tryd.prog 34 #[av,tv,mv] h fun v h'=>Ext h h'∧v = .bool true:=by
 refine Ret.of_body Tryd.func34 rfl Tryd.ntmps34 rfl rfl ?_
 obtain ⟨aa,ca,ea⟩:=ha.form
 obtain ⟨at',ct,et⟩:=htv.form
 obtain ⟨am,cm,em⟩:=hmv.form
 subst ea et em
 refine zgo ?_
 refine Runs.loop (X:=Nat) (fun i=>[(0,.slice aa A.length ca),(1,.slice at' T.length ct),(2,.slice am M.length cm),(14,.slice aa A.length ca),(15,.int .i64 (A.length:Int)),(16,.int .i64 (i:Int))])
  (fun i h'=>i≤A.length∧Ext h h') (fun i=>A.length-i) 0 ⟨rfl,rfl,rfl,rfl,rfl,rfl,trivial⟩ ⟨Nat.zero_le _,Fr.refl _ _⟩ ?_
 rintro i h1 ⟨hi,hx1⟩ ih
 refine zgo ?_
 refine Runs.cond_dec rfl (fun hlt=>?_) (fun hge=>?_)
 rotate_left
 ·refine zgo ?_
  exact Runs.ret Tryd.func34 (ret1 Tryd.results34 rfl) ⟨hx1,rfl⟩
 have hlt':i<A.length:=by omega
 have hgl:A[i]? = some A[i]:=List.getElem?_eq_getElem hlt'
 have hlm:A[i]∈A:=List.getElem_mem hlt'
 generalize A[i]=l at *
 obtain ⟨b0,p0,cap0,hv0,_,hcs⟩:=(ha.ext hx1).pos (by omega)
 cases hv0
 have hc:Cells h1 b0 (p0+i*4) l.cells:=flat_get SL.len hcs hgl
 refine zgo ?_
 refine zv l.one fun h2 hb2 hx2 hs2=>?_
 have hx02:=hx1.trans hx2
 have l3:=hb2.cell (j:=3) rfl
 clear hcs hc
 refine zgo ?_
 refine WO.call rfl rfl rfl rfl plain_hamong rfl (hamong_ret T l.tx _ _ (by omega) (htv.ext hx02)) fun v3 h3 ⟨hh3,z3,hz3,hv3⟩=>?_
 subst hh3 hv3
 obtain ⟨k,hk,rfl⟩:∃ k:Nat,T[k]? = some l.tx∧z3=(k:Int):=by
  rcases hz3 with ⟨k,e1,_,e2⟩ | ⟨e1,_⟩
  ·exact ⟨k,e1,e2⟩
  ·obtain ⟨k,e⟩:=hp.at_ l hlm
   exact absurd (List.mem_of_getElem? e) e1
 clear hz3
 have hkT:=(List.getElem?_eq_some_iff.1 hk).1
 refine zgo ?_
 refine Runs.loop (X:=Nat) (fun j=>[(0,.slice (some ⟨b0,p0,none⟩) A.length ca),(1,.slice at' T.length ct),(2,.slice am M.length cm),(8,.pointer (some ⟨h1.size,0,none⟩)),(9,.int .i64 (k:Int)),(14,.slice (some ⟨b0,p0,none⟩) A.length ca),(15,.int .i64 (A.length:Int)),(16,.int .i64 (i:Int)),(24,.slice (some ⟨b0,p0,none⟩) A.length ca),(25,.int .i64 (A.length:Int)),(26,.int .i64 (j:Int))])
  (fun j h'=>j≤A.length∧Ext h3 h') (fun j=>A.length-j) 0 ⟨rfl,rfl,rfl,rfl,rfl,rfl,rfl,rfl,rfl,rfl,rfl,trivial⟩ ⟨Nat.zero_le _,Fr.refl _ _⟩ ?_
 rintro j h4 ⟨hj,hx4⟩ ih2
 have hx04:=hx02.trans hx4
 refine zgo ?_
 refine Runs.cond_dec rfl (fun hlt2=>?_) (fun hge2=>?_)
 rotate_left
 ·refine zgo ?_
  exact ih (i+1) _ _ (by omega) ⟨rfl,rfl,rfl,rfl,rfl,rfl,trivial⟩ ⟨by omega,hx04⟩
 clear ih
 have hlt2':j<A.length:=by omega
 have hgx:A[j]? = some A[j]:=List.getElem?_eq_getElem hlt2'
 have hxm:A[j]∈A:=List.getElem_mem hlt2'
 generalize A[j]=x at *
 obtain ⟨b1,p1,cap1,hv1,_,hcs⟩:=(ha.ext hx04).pos (by omega)
 cases hv1
 have hc:Cells h4 b0 (p0+j*4) x.cells:=flat_get SL.len hcs hgx
 refine zgo ?_
 refine zv x.one fun h5 hb5 hx5 hs5=>?_
 have hx05:=hx04.trans hx5
 have x0:=hb5.cell (j:=0) rfl
 have x3:=hb5.cell (j:=3) rfl
 have hb25:=hb2.ext (hx4.trans hx5)
 have l1:=hb25.cell (j:=1) rfl
 have l2:=hb25.cell (j:=2) rfl
 clear hcs hc l3
 refine zgo ?_
 refine WO.call rfl rfl rfl rfl plain_hamong rfl (hamong_ret T x.tx _ _ (by omega) (htv.ext hx05)) fun v6 h6 ⟨hh6,z6,hz6,hv6⟩=>?_
 subst hh6 hv6
 obtain ⟨m,hm,rfl⟩:∃ k:Nat,T[k]? = some x.tx∧z6=(k:Int):=by
  rcases hz6 with ⟨k,e1,_,e2⟩ | ⟨e1,_⟩
  ·exact ⟨k,e1,e2⟩
  ·obtain ⟨k,e⟩:=hp.at_ x hxm
   exact absurd (List.mem_of_getElem? e) e1
 clear hz6
 have hmT:=(List.getElem?_eq_some_iff.1 hm).1
 obtain ⟨mk,mj,hmk,hmj,hor⟩:=hp.ok l hlm x hxm k m hk hm
 obtain ⟨b2,p2,cap2,hv2,_,hcj⟩:=(hmv.ext hx05).cell (strs_get hmj)
 cases hv2
 obtain ⟨b3,p3,cap3,hv3,_,hck⟩:=(hmv.ext hx05).cell (strs_get hmk)
 cases hv3
 have hkM:=(List.getElem?_eq_some_iff.1 hmk).1
 have hmM:=(List.getElem?_eq_some_iff.1 hmj).1
 refine zgo ?_
 refine WO.join (fun env' h'=>h6=h'∧∃ f:Bool,Sub [(0,.slice (some ⟨b0,p0,none⟩) A.length ca),(1,.slice at' T.length ct),(2,.slice (some ⟨b2,p2,none⟩) M.length cm),(8,.pointer (some ⟨h1.size,0,none⟩)),(9,.int .i64 (k:Int)),(11,.pointer (some ⟨h4.size,0,none⟩)),(12,.int .i64 (m:Int)),(13,.bool f),(14,.slice (some ⟨b0,p0,none⟩) A.length ca),(15,.int .i64 (A.length:Int)),(16,.int .i64 (i:Int)),(24,.slice (some ⟨b0,p0,none⟩) A.length ca),(25,.int .i64 (A.length:Int)),(26,.int .i64 (j:Int))] env'∧(((mj=[64]∨mj=[33])∧(mk=[64]∨mk=[33]))→f=true)) ?_ ?_
 ·refine WO.split 39 _ rfl (fun q1=>?_) (fun q1=>?_)
  ·refine zgo ?_
   refine WO.split 52 _ rfl (fun q2=>?_) (fun q2=>?_)
   ·refine zgo ?_
    exact ⟨rfl,_,⟨rfl,rfl,rfl,rfl,rfl,rfl,rfl,rfl,rfl,rfl,rfl,rfl,rfl,rfl,trivial⟩,fun _=>rfl⟩
   ·have q2:=of_decide_eq_false q2
    refine zgo ?_
    exact ⟨rfl,_,⟨rfl,rfl,rfl,rfl,rfl,rfl,rfl,rfl,rfl,rfl,rfl,rfl,rfl,rfl,trivial⟩,fun e=>by rw [decide_eq_true_iff];exact e.2.resolve_left q2⟩
  ·have q1:=of_decide_eq_false q1
   refine zgo ?_
   refine WO.split 46 _ rfl (fun q3=>?_) (fun q3=>?_)
   ·refine zgo ?_
    refine WO.split 52 _ rfl (fun q2=>?_) (fun q2=>?_)
    ·refine zgo ?_
     exact ⟨rfl,_,⟨rfl,rfl,rfl,rfl,rfl,rfl,rfl,rfl,rfl,rfl,rfl,rfl,rfl,rfl,trivial⟩,fun _=>rfl⟩
    ·have q2:=of_decide_eq_false q2
     refine zgo ?_
     exact ⟨rfl,_,⟨rfl,rfl,rfl,rfl,rfl,rfl,rfl,rfl,rfl,rfl,rfl,rfl,rfl,rfl,trivial⟩,fun e=>by rw [decide_eq_true_iff];exact e.2.resolve_left q2⟩
   ·have q3:=of_decide_eq_false q3
    refine zgo ?_
    exact ⟨rfl,_,⟨rfl,rfl,rfl,rfl,rfl,rfl,rfl,rfl,rfl,rfl,rfl,rfl,rfl,rfl,trivial⟩,fun e=>absurd (e.1.resolve_left q1) q3⟩
 rintro env' _ ⟨rfl,f,hsub,hf⟩
 refine Runs.sub hsub ?_
 clear hsub env' hcj hck
 have hf1:l.up=x.nm→k<m→f=true:=fun e1 e2=>by
  rcases hor with e | ⟨e,_⟩
  ·exact hf e
  ·have:=e e1;omega
 have hf2:l.dn=x.nm→m<k→f=true:=fun e1 e2=>by
  rcases hor with e | ⟨_,e⟩
  ·exact hf e
  ·have:=e e1;omega
 clear hor hf x3
 refine zgo ?_
 refine WO.join (fun env' h'=>h6=h'∧Sub [(0,.slice (some ⟨b0,p0,none⟩) A.length ca),(1,.slice at' T.length ct),(2,.slice (some ⟨b2,p2,none⟩) M.length cm),(8,.pointer (some ⟨h1.size,0,none⟩)),(9,.int .i64 (k:Int)),(14,.slice (some ⟨b0,p0,none⟩) A.length ca),(15,.int .i64 (A.length:Int)),(16,.int .i64 (i:Int)),(24,.slice (some ⟨b0,p0,none⟩) A.length ca),(25,.int .i64 (A.length:Int)),(26,.int .i64 (j:Int)),(89,.bool false)] env') ?_ ?_
 ·refine WO.split 65 _ rfl (fun q1=>?_) (fun q1=>?_)
  ·have q1:=of_decide_eq_true q1
   refine zgo ?_
   refine WO.split 70 _ rfl (fun q2=>?_) (fun q2=>?_)
   ·have q2:=of_decide_eq_true q2
    have hft:=hf1 q1 (by omega)
    subst hft
    refine zgo ?_
    refine WO.split 80 _ rfl (fun q3=>?_) (fun q3=>?_)
    ·refine zgo ?_
     refine WO.split 85 _ rfl (fun q4=>?_) (fun q4=>?_)
     ·refine zgo ?_
      exact ⟨rfl,rfl,rfl,rfl,rfl,rfl,rfl,rfl,rfl,rfl,rfl,rfl,rfl,trivial⟩
     ·refine zgo ?_
      exact ⟨rfl,rfl,rfl,rfl,rfl,rfl,rfl,rfl,rfl,rfl,rfl,rfl,rfl,trivial⟩
    ·refine zgo ?_
     exact ⟨rfl,rfl,rfl,rfl,rfl,rfl,rfl,rfl,rfl,rfl,rfl,rfl,rfl,trivial⟩
   ·refine zgo ?_
    refine WO.split 80 _ rfl (fun q3=>?_) (fun q3=>?_)
    ·have q3:=of_decide_eq_true q3
     refine zgo ?_
     refine WO.split 85 _ rfl (fun q4=>?_) (fun q4=>?_)
     ·have q4:=of_decide_eq_true q4
      have hft:=hf2 q3 (by omega)
      subst hft
      refine zgo ?_
      exact ⟨rfl,rfl,rfl,rfl,rfl,rfl,rfl,rfl,rfl,rfl,rfl,rfl,rfl,trivial⟩
     ·refine zgo ?_
      exact ⟨rfl,rfl,rfl,rfl,rfl,rfl,rfl,rfl,rfl,rfl,rfl,rfl,rfl,trivial⟩
    ·refine zgo ?_
     exact ⟨rfl,rfl,rfl,rfl,rfl,rfl,rfl,rfl,rfl,rfl,rfl,rfl,rfl,trivial⟩
  ·refine zgo ?_
   refine WO.split 80 _ rfl (fun q3=>?_) (fun q3=>?_)
   ·have q3:=of_decide_eq_true q3
    refine zgo ?_
    refine WO.split 85 _ rfl (fun q4=>?_) (fun q4=>?_)
    ·have q4:=of_decide_eq_true q4
     have hft:=hf2 q3 (by omega)
     subst hft
     refine zgo ?_
     exact ⟨rfl,rfl,rfl,rfl,rfl,rfl,rfl,rfl,rfl,rfl,rfl,rfl,rfl,trivial⟩
    ·refine zgo ?_
     exact ⟨rfl,rfl,rfl,rfl,rfl,rfl,rfl,rfl,rfl,rfl,rfl,rfl,rfl,trivial⟩
   ·refine zgo ?_
    exact ⟨rfl,rfl,rfl,rfl,rfl,rfl,rfl,rfl,rfl,rfl,rfl,rfl,rfl,trivial⟩
 rintro env' _ ⟨rfl,hsub⟩
 refine Runs.sub hsub ?_
 clear hsub env'
 refine zgo ?_
 exact ih2 (j+1) _ _ (by omega) ⟨rfl,rfl,rfl,rfl,rfl,rfl,rfl,rfl,rfl,rfl,rfl,trivial⟩ ⟨by omega,hx4.trans hx5⟩
end Go.Proofs.YtlaffgagmncgjabDoor
namespace Go.Proofs.YtlaffgagmncgjabDoor
open Go Go.Pat Go.Proofs
theorem blank_same {ps:List PatchD} {sd sd2:Nat→Int} {orx orx2:Nat→Bool} (h:NumX ps sd orx) (h2:NumX ps sd2 orx2):blankX ps orx2 (ordX ps sd2)=blankX ps orx (ordX ps sd):=by
 have ho:∀ k,k<nX ps→orx2 k=orx k:=fun k hk=>by rw [Bool.eq_iff_iff,h.orp k hk,h2.orp k hk]
 have hm:∀ k,k<nX ps→markX ps orx2 k=markX ps orx k:=fun k hk=>by unfold markX;rw [ho k hk]
 rw [Bool.eq_iff_iff]
 unfold blankX
 rw [List.all_eq_true,List.all_eq_true]
 constructor
 ·intro H k hk
  have hk':=ordX_iff.1 hk
  rw [← hm k hk'.1]
  exact H k (ordX_iff.2 hk')
 ·intro H k hk
  have hk':=ordX_iff.1 hk
  rw [hm k hk'.1]
  exact H k (ordX_iff.2 hk')
def plN (l:List (List UInt8)):Bool:=l.all fun x=>decide (x=[32])
theorem plN_blank {ps:List PatchD} {sd:Nat→Int} {orx:Nat→Bool}:blankX ps orx (ordX ps sd)=plN (mkN ps sd orx):=by
 rw [blank_iff,Bool.eq_iff_iff,decide_eq_true_iff]
 unfold plN
 rw [List.all_eq_true]
 exact ⟨fun h x hx=>decide_eq_true (h x hx),fun h x hx=>of_decide_eq_true (h x hx)⟩
theorem dead_len {ps:List PatchD} (hinv:Inv ps):(deadN ps).length≤1000:=by
 have one:∀ q∈ps,(delsOf q.changes).length≤30:=fun q hq=>Nat.le_trans dels_len (hinv.ok hq).len
 have tot:∀ l:List PatchD,(∀ q∈l,(delsOf q.changes).length≤30)→(deadN l).length≤30*l.length:=by
  intro l
  induction l with
  | nil=>intro _;simp [deadN]
  | cons q l ih =>
   intro hq
   have h1:=ih fun x hx=>hq x (List.mem_cons_of_mem _ hx)
   have h2:=hq q (by simp)
   simp only [deadN,List.flatMap_cons,List.length_append,List.length_cons] at h1 ⊢
   omega
 have h1:=tot ps one
 have:=hinv.len
 omega
def AlJ (h:Heap) (A:List SL) (v:Value) (h':Heap):Prop:=Ext h h'∧Own h' 55 4 v A.length (slC A)∧∀ q,v.ownBlock=some q→h.size≤q
theorem AlJ.push {h h1 h2:Heap} {A:List SL} {x:SL} {v1 v2:Value} (w:AlJ h A v1 h1) (o:Own h2 55 4 v2 (A.length+1) (slC A++x.cells)) (f:Fr (fun q=>v1.ownBlock=some q) h1 h2) (nw:Moved h1 v1 v2):AlJ h (A++[x]) v2 h2:=by
 obtain ⟨w1,w2,w3⟩:=w
 refine ⟨w1.trans_new (f.mono fun q _ e=>.inr (w3 q e)),?_,fun q hq=>?_⟩
 ·rw [slC_append,slC_one,List.length_append];exact o
 ·have:=w1.size
  rcases nw q hq with e | e
  ·exact w3 q e
  ·omega
theorem AlJ.on {h h1 h2:Heap} {A:List SL} {v:Value} (w:AlJ h A v h1) (x:Ext h1 h2):AlJ h A v h2:=⟨w.1.trans x,w.2.1.fr x (by simp),w.2.2⟩
structure TmJ (h0 h':Heap) (T M:List (List UInt8)) (tv mv:Value):Prop where
 ext:Ext h0 h'
 t:Own h' 9 1 tv T.length (strs T)
 m:Own h' 9 1 mv M.length (strs M)
 tn:∀ q,tv.ownBlock=some q→h0.size≤q
 mn:∀ q,mv.ownBlock=some q→h0.size≤q
 ne:∀ q,tv.ownBlock=some q→mv.ownBlock=some q→False
theorem TmJ.pushT {h0 h1 h2:Heap} {T M:List (List UInt8)} {tv mv tv':Value} {x:List UInt8} (w:TmJ h0 h1 T M tv mv) (o:Own h2 9 1 tv' (T.length+1) (strs T++[.string (str x)])) (f:Fr (fun q=>tv.ownBlock=some q) h1 h2) (nw:Moved h1 tv tv'):TmJ h0 h2 (T++[x]) M tv' mv:=by
 have hz:=w.ext.size
 refine ⟨w.ext.trans_new (f.mono fun q _ e=>.inr (w.tn q e)),?_,w.m.fr f fun q hq e=>w.ne q e hq,fun q hq=>?_,w.mn,fun q hq hq'=>?_⟩
 ·rw [strs_append,List.length_append];exact o
 ·rcases nw q hq with e | e
  ·exact w.tn q e
  ·omega
 ·rcases nw q hq with e | e
  ·exact w.ne q e hq'
  ·have:=w.m.lt q hq';omega
theorem TmJ.pushM {h0 h1 h2:Heap} {T M:List (List UInt8)} {tv mv mv':Value} {x:List UInt8} (w:TmJ h0 h1 T M tv mv) (o:Own h2 9 1 mv' (M.length+1) (strs M++[.string (str x)])) (f:Fr (fun q=>mv.ownBlock=some q) h1 h2) (nw:Moved h1 mv mv'):TmJ h0 h2 T (M++[x]) tv mv':=by
 have hz:=w.ext.size
 refine ⟨w.ext.trans_new (f.mono fun q _ e=>.inr (w.mn q e)),w.t.fr f fun q hq e=>w.ne q hq e,?_,w.tn,fun q hq=>?_,fun q hq hq'=>?_⟩
 ·rw [strs_append,List.length_append];exact o
 ·rcases nw q hq with e | e
  ·exact w.mn q e
  ·omega
 ·rcases nw q hq' with e | e
  ·exact w.ne q hq e
  ·have:=w.t.lt q hq;omega
structure AlX where
 (i:Nat) (v:Value)
structure LpX where
 (k:Nat) (tv mv:Value) (s:LSt)
structure UsX where
 (i:Nat) (tw:Bool) (us:List Bool) (U:List Nat)
structure UtX where
 (k:Nat) (tw:Bool) (z:Int)
structure TwX where
 (i:Nat) (tw:Bool)
theorem hnothing_ret {F:Nat→Prop} {a:Nat} {ps:List PatchD} {h:Heap} (ht:Tab10 h) (hs:Sto F h a ps) (hF:∀ k,F k→k<h.size) :
  Ret Tryd.prog 15 #[.pointer (some ⟨a,0,none⟩)] h fun v h'=>Ext h h'∧v = .bool true:=by
 refine Ret.of_body Tryd.func15 rfl Tryd.ntmps15 rfl rfl ?_
 have hinv:=hs.set.inv
 have hnl:=hinv.lines
 have hdl:=dead_len hinv
 refine zgo ?_
 refine WO.call rfl rfl rfl rfl plain_hsaid rfl (hsaid_ret ht hs) fun v1 h1 ⟨lv,dv,hv1,w1⟩=>?_
 subst hv1
 have hx1:=w1.ext
 have hls:=w1.l.rd
 have hds:=w1.d.rd
 have hAe:aliveN ps=((linesS ps).map slOf).filter fun l=>!decide (l.nm∈deadN ps):=rfl
 have hll:((linesS ps).map slOf).length≤90:=by simpa using hnl
 generalize (linesS ps).map slOf=L at *
 generalize deadN ps=D at *
 obtain ⟨al,cl,el⟩:=hls.form
 obtain ⟨ad,cd,ed⟩:=hds.form
 subst el ed
 clear w1
 refine zgo ?_
 refine Runs.loop (X:=AlX) (fun u=>[(0,.pointer (some ⟨a,0,none⟩)),(4,.slice ad D.length cd),(5,u.v),(30,.slice al L.length cl),(31,.int .i64 (L.length:Int)),(32,.int .i64 (u.i:Int))])
  (fun u h'=>u.i≤L.length∧AlJ h1 ((L.take u.i).filter fun l=>!decide (l.nm∈D)) u.v h') (fun u=>L.length-u.i) ⟨0,.slice none 0 0⟩ ⟨rfl,rfl,rfl,rfl,rfl,rfl,trivial⟩ ⟨Nat.zero_le _,Fr.refl _ _,Own.nil _ _ _,fun q hq=>by simp [Value.ownBlock] at hq⟩ ?_
 rintro ⟨i,v⟩ h2 ⟨hi,w2⟩ ih
 dsimp only at hi w2 ih ⊢
 have hfl:((L.take i).filter fun l=>!decide (l.nm∈D)).length≤90:=by
  have h1:=List.length_filter_le (fun l:SL=>!decide (l.nm∈D)) (L.take i)
  rw [List.length_take] at h1
  omega
 refine zgo ?_
 refine Runs.cond_dec rfl (fun hlt=>?_) (fun hge=>?_)
 ·have hlt':i<L.length:=by omega
  have hgl:L[i]? = some L[i]:=List.getElem?_eq_getElem hlt'
  have hsn:L.take (i+1)=L.take i++[L[i]]:=List.take_succ_eq_append_getElem hlt'
  generalize L[i]=l at *
  obtain ⟨b0,p0,cap0,hv0,_,hcs⟩:=(hls.ext w2.1).pos (by omega)
  cases hv0
  have hc:Cells h2 b0 (p0+i*4) l.cells:=flat_get SL.len hcs hgl
  refine zgo ?_
  refine zv l.one fun h3 hb3 hx3 hs3=>?_
  have w3:=w2.on hx3
  have l0:=hb3.cell (j:=0) rfl
  clear hcs hc
  refine zgo ?_
  refine WO.call rfl rfl rfl rfl plain_hamong rfl (hamong_ret D l.nm _ _ (by omega) (hds.ext w3.1)) fun v4 h4 ⟨hh4,z4,hz4,hv4⟩=>?_
  subst hh4 hv4
  rcases hz4 with ⟨k,e1,_,rfl⟩ | ⟨e1,rfl⟩
  ·refine zgo ?_
   refine ih ⟨i+1,v⟩ _ _ (by dsimp only;omega) ⟨rfl,rfl,rfl,rfl,rfl,rfl,trivial⟩ ⟨by dsimp only;omega,?_⟩
   dsimp only
   have hm:l.nm∈D:=List.mem_of_getElem? e1
   rw [hsn,List.filter_append]
   simp only [List.filter_cons,hm,decide_true,Bool.not_true,Bool.false_eq_true,if_false,List.filter_nil,List.append_nil]
   exact w3
  ·have hc3:Cells h4 h2.size 0 l.cells:=hb3.cells
   refine zgo ?_
   refine zh l.one w3.2.1 ?_
   intro v5 h5 r1 r2 r3
   refine zgo ?_
   refine ih ⟨i+1,v5⟩ _ _ (by dsimp only;omega) ⟨rfl,rfl,rfl,rfl,rfl,rfl,trivial⟩ ⟨by dsimp only;omega,?_⟩
   dsimp only
   rw [hsn,List.filter_append]
   simp only [List.filter_cons,e1,decide_false,Bool.not_false,if_true,List.filter_nil]
   exact w3.push (x:=l) r1 r2 r3
 have hi':i=L.length:=by omega
 subst hi'
 rw [List.take_length,← hAe] at w2 hfl
 clear ih hge hAe hll hls hds hdl
 have hTl:∀ sd,(txN ps sd).length=(aliveN ps).length:=tx_len hinv
 have hTc:=tx_count hinv
 have hPut:∀ {sd orx},StrX ps sd→(∀ (i j:Nat) (x y:SL),(aliveN ps)[i]? = some x→(aliveN ps)[j]? = some y→i≠j→x.tx≠y.tx)→Put (aliveN ps) (txN ps sd) (mkN ps sd orx):=fun {sd orx} h1 h2=>put_ok hinv h1 h2
 generalize aliveN ps=A at *
 have hx2:=hx1.trans w2.1
 have hs2:=hs.ext hx2
 have hF2:∀ q,F q→q<h2.size:=fun q hq=>by have:=hF q hq;have:=hx2.size;omega
 have ha2:=w2.2.1
 clear w2 hx1
 obtain ⟨aa,ca,ea⟩:=ha2.rd.form
 subst ea
 refine zgo ?_
 refine WO.call rfl rfl rfl rfl plain_xShow rfl (hShow_ret hs2 hF2) fun v3 h3 ⟨hx3,sd,orx,hnx,ho3,_⟩=>?_
 obtain ⟨n0,al0,hways⟩:=ways_items (orx:=orx) hnx.str
 have hSl:=show_len hinv hnx
 generalize showW (itemsX ps sd orx)=S at *
 obtain ⟨aS,cs,es⟩:=ho3.rd.form
 subst es
 refine zgo ?_
 refine Runs.loop (X:=LpX) (fun u=>[(0,.pointer (some ⟨a,0,none⟩)),(5,.slice aa A.length ca),(8,u.tv),(9,u.mv),(10,.bool u.s.inn),(11,.int .i64 (u.s.n:Int)),(12,.int .i64 (u.s.al:Int)),(47,.slice aS S.length cs),(48,.int .i64 (S.length:Int)),(49,.int .i64 (u.k:Int))])
  (fun u h'=>u.k≤S.length∧TmJ h3 h' u.s.tx u.s.mr u.tv u.mv∧(u.s.n≤u.k∧u.s.al≤u.k∧u.s.tx.length≤u.k∧u.s.mr.length≤u.k)∧Ways u.s (S.drop u.k) ⟨txN ps sd,mkN ps sd orx,false,n0,al0⟩) (fun u=>S.length-u.k) ⟨0,.slice none 0 0,.slice none 0 0,⟨[],[],false,0,0⟩⟩ ⟨rfl,rfl,rfl,rfl,rfl,rfl,rfl,rfl,rfl,rfl,trivial⟩
  ⟨Nat.zero_le _,⟨Fr.refl _ _,Own.nil _ _ _,Own.nil _ _ _,fun q hq=>by simp [Value.ownBlock] at hq,fun q hq=>by simp [Value.ownBlock] at hq,fun q hq=>by simp [Value.ownBlock] at hq⟩,⟨Nat.le_refl _,Nat.le_refl _,Nat.le_refl _,Nat.le_refl _⟩,hways⟩ ?_
 rintro ⟨k,tv,mv,⟨T,M,inn,n,al⟩⟩ h4 ⟨hk,w4,⟨hb1,hb2,hb3,hb4⟩,hwy⟩ ih
 dsimp only at hk w4 hb1 hb2 hb3 hb4 hwy ih ⊢
 refine zgo ?_
 refine Runs.cond_dec rfl (fun hlt=>?_) (fun hge=>?_)
 ·have hlt':k<S.length:=by omega
  have hgx:S[k]? = some S[k]:=List.getElem?_eq_getElem hlt'
  have hdr:S.drop k=S[k]::S.drop (k+1):=List.drop_eq_getElem_cons hlt'
  generalize S[k]=x at *
  rw [hdr] at hwy
  obtain ⟨s1,hway,hrest⟩:=hwy
  obtain ⟨b0,p0,cap0,hv0,_,hcell⟩:=(ho3.rd.ext w4.ext).cell (strs_get hgx)
  cases hv0
  rcases hway with ⟨rfl,q1,rfl⟩ | ⟨rfl,q1,q2,rfl⟩ | ⟨rfl,q1,q2,q3,rfl⟩ | ⟨c,t,rfl,hkind,rfl⟩
  ·dsimp only at q1 hrest
   subst q1
   refine zgo ?_
   exact ih ⟨k+1,tv,mv,⟨T,M,true,0,0⟩⟩ _ _ (by dsimp only;omega) ⟨rfl,rfl,rfl,rfl,rfl,rfl,rfl,rfl,rfl,rfl,trivial⟩ ⟨by dsimp only;omega,w4,⟨by dsimp only;omega,by dsimp only;omega,by dsimp only;omega,by dsimp only;omega⟩,hrest⟩
  ·dsimp only at q1 q2 hrest
   subst q1
   have hdn:decide ((0:Int)<(n:Int))=true:=by simp;omega
   refine zgo ?_
   rw [hdn]
   refine zgo ?_
   exact ih ⟨k+1,tv,mv,⟨T,M,true,0,al⟩⟩ _ _ (by dsimp only;omega) ⟨rfl,rfl,rfl,rfl,rfl,rfl,rfl,rfl,rfl,rfl,trivial⟩ ⟨by dsimp only;omega,w4,⟨by dsimp only;omega,by dsimp only;omega,by dsimp only;omega,by dsimp only;omega⟩,hrest⟩
  ·dsimp only at q1 q2 q3 hrest
   subst q1
   have hdn:decide ((0:Int)<(n:Int))=true:=by simp;omega
   have hda:decide ((al:Int)<2)=false:=by simp;omega
   refine zgo ?_
   rw [hdn]
   refine zgo ?_
   rw [hda]
   refine zgo ?_
   exact ih ⟨k+1,tv,mv,⟨T,M,false,0,al⟩⟩ _ _ (by dsimp only;omega) ⟨rfl,rfl,rfl,rfl,rfl,rfl,rfl,rfl,rfl,rfl,trivial⟩ ⟨by dsimp only;omega,w4,⟨by dsimp only;omega,by dsimp only;omega,by dsimp only;omega,by dsimp only;omega⟩,hrest⟩
  ·dsimp only at hkind hrest
   have hne:c≠60∧c≠61∧c≠62:=by
    rcases hkind with ⟨e,_⟩ | ⟨e,_⟩ | ⟨e,_⟩ | e<;>subst e<;>decide
   have hd0:decide (c::t=[60])=false:=by simp [hne.1]
   have hd1:decide (c::t=[61])=false:=by simp [hne.2.1]
   have hd2:decide (c::t=[62])=false:=by simp [hne.2.2]
   have hget:(c::t)[0]? = some c:=rfl
   refine zgo ?_
   rw [hd0]
   refine zgo ?_
   rw [hd1]
   refine zgo ?_
   rw [hd2]
   refine zgo ?_
   refine WO.join (fun env' h'=>h4=h'∧Sub [(0,.pointer (some ⟨a,0,none⟩)),(5,.slice aa A.length ca),(8,tv),(9,mv),(10,.bool inn),(11,.int .i64 (n:Int)),(12,.int .i64 (al:Int)),(14,.string (str (c::t))),(47,.slice (some ⟨b0,p0,none⟩) S.length cs),(48,.int .i64 (S.length:Int)),(49,.int .i64 (k:Int)),(82,.bool true)] env') ?_ ?_
   ·have hdl:decide ((0:Int)<((c::t).length:Int))=true:=by simp<;>omega
    rw [hdl]
    rcases hkind with ⟨e,e'⟩ | ⟨e,e'⟩ | ⟨e,e'⟩ | e
    ·subst e e'
     refine zgo ?_
     exact ⟨rfl,rfl,rfl,rfl,rfl,rfl,rfl,rfl,rfl,rfl,rfl,rfl,rfl,trivial⟩
    ·subst e e'
     refine zgo ?_
     exact ⟨rfl,rfl,rfl,rfl,rfl,rfl,rfl,rfl,rfl,rfl,rfl,rfl,rfl,trivial⟩
    ·subst e e'
     refine zgo ?_
     exact ⟨rfl,rfl,rfl,rfl,rfl,rfl,rfl,rfl,rfl,rfl,rfl,rfl,rfl,trivial⟩
    ·subst e
     refine zgo ?_
     exact ⟨rfl,rfl,rfl,rfl,rfl,rfl,rfl,rfl,rfl,rfl,rfl,rfl,rfl,trivial⟩
   rintro env' _ ⟨rfl,hsub⟩
   refine Runs.sub hsub ?_
   clear hsub env'
   have hlc:1≤(c::t).length:=by simp
   refine zgo ?_
   refine zh (one_str _) w4.t ?_
   intro tv5 h5 r1 r2 r3
   have w5:=w4.pushT (x:=t) r1 r2 r3
   refine zgo ?_
   refine WO.val (ov_sslice_hi (j:=1) tab_ok rfl rfl rfl rfl rfl hlc) rfl rfl rfl ?_
   refine zh (one_str _) w5.m ?_
   intro mv6 h6 s1 s2 s3
   have w6:=w5.pushM (x:=[c]) s1 s2 s3
   refine zgo ?_
   exact ih ⟨k+1,tv5,mv6,⟨T++[t],M++[[c]],inn,n+1,al+1⟩⟩ _ _ (by dsimp only;omega) ⟨rfl,rfl,rfl,rfl,rfl,rfl,rfl,rfl,rfl,rfl,trivial⟩ ⟨by dsimp only;omega,w6,⟨by dsimp only;omega,by dsimp only;omega,by dsimp only;simp;omega,by dsimp only;simp;omega⟩,hrest⟩
 have hk':S.drop k=[]:=List.drop_eq_nil_of_le (by omega)
 rw [hk'] at hwy
 simp only [Ways,LSt.mk.injEq] at hwy
 obtain ⟨e1,e2,e3,_,_⟩:=hwy
 subst e1 e2 e3
 clear ih hge hk' hways
 have hTA:=hTl sd
 have hTc':=hTc sd
 have hbl:=plN_blank (ps:=ps) (sd:=sd) (orx:=orx)
 have hput:=fun hd=>hPut (orx:=orx) hnx.str hd
 have hML:(mkN ps sd orx).length=(txN ps sd).length:=by simp [mkN,txN]
 clear hPut hTl hTc
 generalize txN ps sd=T at *
 generalize mkN ps sd orx=M at *
 obtain ⟨at',ct,et⟩:=w4.t.rd.form
 obtain ⟨am,cm,em⟩:=w4.m.rd.form
 subst et em
 have ha4:=ha2.rd.ext (hx3.trans w4.ext)
 have ht4:=w4.t.rd
 have hm4:=w4.m.rd
 have hx4:=hx2.trans (hx3.trans w4.ext)
 have hla4:∀ q,(Value.slice aa A.length ca).ownBlock=some q→q<h4.size:=(ha2.fr (hx3.trans w4.ext) (by simp)).lt
 have hlt4:=w4.t.lt
 have hlm4:=w4.m.lt
 have hs4:=hs2.ext (hx3.trans w4.ext)
 have hF4:∀ q,F q→q<h4.size:=fun q hq=>by have:=hF q hq;have:=hx4.size;omega
 clear w4 ho3 hs2 hF2 ha2 hx3 hx2
 refine zgo ?_
 refine Runs.cond_ndec rfl (fun q=>?_) (fun _=>?_)
 ·exfalso;omega
 refine zgo ?_
 refine Runs.loop (X:=Nat) (fun i=>[(0,.pointer (some ⟨a,0,none⟩)),(5,.slice aa A.length ca),(8,.slice at' T.length ct),(9,.slice am M.length cm),(15,.bool (plN (M.take i))),(140,.int .i64 (M.length:Int)),(141,.int .i64 (i:Int))])
  (fun i h'=>h4=h'∧i≤M.length) (fun i=>M.length-i) 0 ⟨rfl,rfl,rfl,rfl,rfl,rfl,rfl,trivial⟩ ⟨rfl,Nat.zero_le _⟩ ?_
 rintro i _ ⟨rfl,hi3⟩ ih
 refine zgo ?_
 refine Runs.cond_dec rfl (fun hlt=>?_) (fun hge=>?_)
 ·have hlt':i<M.length:=by omega
  have hgm:M[i]? = some M[i]:=List.getElem?_eq_getElem hlt'
  have hsn:plN (M.take (i+1))=(plN (M.take i)&&decide (M[i]=[32])):=by
   unfold plN
   rw [List.take_succ_eq_append_getElem hlt',List.all_append]
   simp
  generalize M[i]=x at *
  obtain ⟨b0,p0,cap0,hv0,_,hcell⟩:=hm4.cell (strs_get hgm)
  cases hv0
  generalize plN (M.take i)=r at *
  refine zgo ?_
  refine WO.join (fun env' h'=>h4=h'∧Sub [(0,.pointer (some ⟨a,0,none⟩)),(5,.slice aa A.length ca),(8,.slice at' T.length ct),(9,.slice (some ⟨b0,p0,none⟩) M.length cm),(15,.bool (plN (M.take (i+1)))),(140,.int .i64 (M.length:Int)),(141,.int .i64 (i:Int))] env') ?_ ?_
  ·refine WO.split 145 _ rfl (fun q1=>?_) (fun q1=>?_)
   ·refine zgo ?_
    exact ⟨rfl,rfl,rfl,rfl,rfl,by show some _=some _;rw [hsn,q1];rfl,rfl,rfl,trivial⟩
   ·refine zgo ?_
    exact ⟨rfl,rfl,rfl,rfl,rfl,by show some _=some _;rw [hsn,q1];rfl,rfl,rfl,trivial⟩
  rintro env' _ ⟨rfl,hsub⟩
  refine Runs.sub hsub ?_
  clear hsub env'
  refine zgo ?_
  exact ih (i+1) _ _ (by omega) ⟨rfl,rfl,rfl,rfl,rfl,rfl,rfl,trivial⟩ ⟨rfl,by omega⟩
 rw [List.take_of_length_le (show M.length≤i by omega)]
 clear ih hge hi3
 refine zgo ?_
 refine WO.call rfl rfl rfl rfl plain_xClean rfl (hClean_ret hs4 hF4) fun v5 h5 ⟨hx5,sd5,orx5,hn5,hv5⟩=>?_
 rw [blank_same hnx hn5,hbl] at hv5
 subst hv5
 have hmake:T.length≤1000000:=by omega
 have hx05:=hx4.trans hx5
 have hz45:=hx5.size
 have ha5:=ha4.ext hx5
 have ht5:=ht4.ext hx5
 have hm5:=hm4.ext hx5
 clear ha4 ht4 hm4 hs4 hF4 hx4 hbl hx5
 generalize plN M=r
 refine WO.val (ov_bneq tab_ok rfl rfl rfl rfl) rfl rfl rfl ?_
 have hrr:(!(r == r))=false:=by simp
 rw [hrr]
 refine zgo ?_
 refine WO.make tab_ok rfl rfl rfl rfl rfl rfl rfl rfl rfl rfl hmake fun h6 hb6 hx6 hs6=>?_
 rw [← bools_replicate] at hb6
 have hz5:=hx05.size
 clear hs6
 generalize hub:h5.size=ub at *
 have hal:∀ q,(Value.slice aa A.length ca).ownBlock=some q→¬ q=ub:=fun q hq e=>by have:=hla4 q hq;omega
 have htl:∀ q,(Value.slice at' T.length ct).ownBlock=some q→¬ q=ub:=fun q hq e=>by have:=hlt4 q hq;omega
 have hml:∀ q,(Value.slice am M.length cm).ownBlock=some q→¬ q=ub:=fun q hq e=>by have:=hlm4 q hq;omega
 have ha6:=ha5.ext hx6
 have ht6:=ht5.ext hx6
 have hm6:=hm5.ext hx6
 clear ha5 ht5 hm5 hla4 hlt4 hlm4
 refine zgo ?_
 refine Runs.loop (X:=UsX) (fun u=>[(0,.pointer (some ⟨a,0,none⟩)),(5,.slice aa A.length ca),(8,.slice at' T.length ct),(9,.slice am M.length cm),(17,.slice (some ⟨ub,0,none⟩) T.length T.length),(18,.bool u.tw),(160,.slice aa A.length ca),(161,.int .i64 (A.length:Int)),(162,.int .i64 (u.i:Int))])
  (fun u h'=>u.i≤A.length∧Fr (fun q=>q=ub) h6 h'∧Blk h' ub (bools u.us) 4∧u.us.length=T.length∧(∀ k,k<T.length→u.us[k]? = some (decide (k∈u.U)))∧(u.U.map fun k=>T.getD k [])=(A.map SL.tx).take u.i) (fun u=>A.length-u.i) ⟨0,false,List.replicate T.length false,[]⟩ ⟨rfl,rfl,rfl,rfl,rfl,rfl,rfl,rfl,rfl,trivial⟩
  ⟨Nat.zero_le _,Fr.refl _ _,hb6,by simp,fun k hk=>by simp [hk],by simp⟩ ?_
 rintro ⟨i,tw,us,U⟩ h7 ⟨hi4,hf7,hb7,hul,hu,hU⟩ ih
 dsimp only at hi4 hf7 hb7 hul hu hU ih ⊢
 have ha7:=ha6.fr hf7 hal
 have ht7:=ht6.fr hf7 htl
 refine zgo ?_
 refine Runs.cond_dec rfl (fun hlt=>?_) (fun hge=>?_)
 ·have hlt':i<A.length:=by omega
  have hgl:A[i]? = some A[i]:=List.getElem?_eq_getElem hlt'
  generalize A[i]=l at *
  have hgt:(A.map SL.tx)[i]? = some l.tx:=by rw [List.getElem?_map,hgl];rfl
  obtain ⟨qf,hqf,hqU⟩:=free_ex hTc' hU hgt
  obtain ⟨b0,p0,cap0,hv0,_,hcs⟩:=ha7.pos (by omega)
  cases hv0
  have hc:Cells h7 b0 (p0+i*4) l.cells:=flat_get SL.len hcs hgl
  refine zgo ?_
  refine zv l.one fun h8 hb8 hx8 hs8=>?_
  have l3:=hb8.cell (j:=3) rfl
  have ht8:=ht7.ext hx8
  have hu8:=hb7.ext hx8
  clear hcs hc
  refine zgo ?_
  refine Runs.loop (X:=UtX) (fun u=>[(0,.pointer (some ⟨a,0,none⟩)),(5,.slice (some ⟨b0,p0,none⟩) A.length ca),(8,.slice at' T.length ct),(9,.slice am M.length cm),(17,.slice (some ⟨ub,0,none⟩) T.length T.length),(18,.bool u.tw),(20,.pointer (some ⟨h7.size,0,none⟩)),(21,.int .i64 u.z),(160,.slice (some ⟨b0,p0,none⟩) A.length ca),(161,.int .i64 (A.length:Int)),(162,.int .i64 (i:Int)),(167,.int .i64 (T.length:Int)),(168,.int .i64 (u.k:Int))])
   (fun u h'=>h8=h'∧u.k≤T.length∧((u.z = -1∧∀ q,q<u.k→T[q]? = some l.tx→q∈U)∨∃ q:Nat,u.z=(q:Int)∧T[q]? = some l.tx∧q∉U)) (fun u=>T.length-u.k) ⟨0,tw,-1⟩ ⟨rfl,rfl,rfl,rfl,rfl,rfl,rfl,rfl,rfl,rfl,rfl,rfl,rfl,trivial⟩
   ⟨rfl,Nat.zero_le _,.inl ⟨rfl,fun q hq=>absurd hq (Nat.not_lt_zero _)⟩⟩ ?_
  rintro ⟨k,tw2,z⟩ _ ⟨rfl,hk5,hz⟩ ih2
  dsimp only at hk5 hz ih2 ⊢
  refine zgo ?_
  refine Runs.cond_dec rfl (fun hlt2=>?_) (fun hge2=>?_)
  ·have hlt2':k<T.length:=by omega
   have hgx:T[k]? = some T[k]:=List.getElem?_eq_getElem hlt2'
   generalize T[k]=x at *
   obtain ⟨b1,p1,cap1,hv1,_,hcell⟩:=ht8.cell (strs_get hgx)
   cases hv1
   have huc:cellAt h8 ub (0+k*1)=some (.bool (decide (k∈U))):=by
    have:=hu8.cell (bools_get (hu k hlt2'))
    simpa using this
   have hzb:-1≤z∧z≤1000:=by
    rcases hz with ⟨e,_⟩ | ⟨q,e,e2,_⟩
    ·omega
    ·have:=(List.getElem?_eq_some_iff.1 e2).1
     omega
   refine zgo ?_
   refine Runs.still mixed (by kernel_rfl) ?_
   refine zws ?_
   refine Runs.cond_dec rfl (fun heq=>?_) (fun hne=>?_)
   ·refine zgo ?_
    refine WO.join (fun env' h'=>h8=h'∧∃ tw3:Bool,Sub [(0,.pointer (some ⟨a,0,none⟩)),(5,.slice (some ⟨b0,p0,none⟩) A.length ca),(8,.slice (some ⟨b1,p1,none⟩) T.length ct),(9,.slice am M.length cm),(17,.slice (some ⟨ub,0,none⟩) T.length T.length),(18,.bool tw3),(20,.pointer (some ⟨h7.size,0,none⟩)),(21,.int .i64 z),(22,.int .i64 (k:Int)),(160,.slice (some ⟨b0,p0,none⟩) A.length ca),(161,.int .i64 (A.length:Int)),(162,.int .i64 (i:Int)),(167,.int .i64 (T.length:Int)),(168,.int .i64 (k:Int))] env') ?_ ?_
    ·refine WO.split 179 _ rfl (fun q1=>?_) (fun q1=>?_)
     ·refine zgo ?_
      exact ⟨rfl,_,rfl,rfl,rfl,rfl,rfl,rfl,rfl,rfl,rfl,rfl,rfl,rfl,rfl,rfl,trivial⟩
     ·refine zgo ?_
      exact ⟨rfl,_,rfl,rfl,rfl,rfl,rfl,rfl,rfl,rfl,rfl,rfl,rfl,rfl,rfl,rfl,trivial⟩
    rintro env' _ ⟨rfl,tw3,hsub⟩
    refine Runs.sub hsub ?_
    clear hsub env'
    refine zgo ?_
    refine Runs.cond_ndec rfl (fun hnU=>?_) (fun hinU=>?_)
    ·refine zgo ?_
     exact ih2 ⟨k+1,tw3,(k:Int)⟩ _ _ (by dsimp only;omega) ⟨rfl,rfl,rfl,rfl,rfl,rfl,rfl,rfl,rfl,rfl,rfl,rfl,rfl,trivial⟩ ⟨rfl,by dsimp only;omega,.inr ⟨k,rfl,by rw [hgx,heq],hnU⟩⟩
    ·refine zgo ?_
     refine ih2 ⟨k+1,tw3,z⟩ _ _ (by dsimp only;omega) ⟨rfl,rfl,rfl,rfl,rfl,rfl,rfl,rfl,rfl,rfl,rfl,rfl,rfl,trivial⟩ ⟨rfl,by dsimp only;omega,?_⟩
     dsimp only
     rcases hz with ⟨e1,e2⟩ | e1
     ·refine .inl ⟨e1,fun q hq hqt=>?_⟩
      by_cases e:q=k
      ·subst e;exact hinU
      ·exact e2 q (by omega) hqt
     ·exact .inr e1
   ·refine zgo ?_
    refine ih2 ⟨k+1,tw2,z⟩ _ _ (by dsimp only;omega) ⟨rfl,rfl,rfl,rfl,rfl,rfl,rfl,rfl,rfl,rfl,rfl,rfl,rfl,trivial⟩ ⟨rfl,by dsimp only;omega,?_⟩
    dsimp only
    rcases hz with ⟨e1,e2⟩ | e1
    ·refine .inl ⟨e1,fun q hq hqt=>?_⟩
     by_cases e:q=k
     ·subst e
      rw [hgx] at hqt
      exact absurd (Option.some.inj hqt) hne
     ·exact e2 q (by omega) hqt
    ·exact .inr e1
  obtain ⟨q,rfl,hqt,hqn⟩:∃ q:Nat,z=(q:Int)∧T[q]? = some l.tx∧q∉U:=by
   rcases hz with ⟨_,e2⟩ | e
   ·have:=(List.getElem?_eq_some_iff.1 hqf).1
    exact absurd (e2 qf (by omega) hqf) hqU
   ·exact e
  have hql:=(List.getElem?_eq_some_iff.1 hqt).1
  clear ih2 hz
  refine zgo ?_
  refine WO.put1 tab_ok rfl rfl rfl rfl rfl rfl rfl (one_bool _) hu8 (by simp [bools];omega) fun h9 hb9 hx9 hs9=>?_
  rw [Nat.zero_add,Nat.mul_one] at hb9
  have hset:(bools us).set q (.bool true)=bools (us.set q true):=by simp [bools,List.map_set]
  rw [hset] at hb9
  refine zgo ?_
  refine ih ⟨i+1,tw2,us.set q true,U++[q]⟩ _ _ (by dsimp only;omega) ⟨rfl,rfl,rfl,rfl,rfl,rfl,rfl,rfl,rfl,trivial⟩ ⟨by dsimp only;omega,(hf7.ex hx8).trans hx9,hb9,by dsimp only;simp [hul],fun k hk=>?_,?_⟩
  ·dsimp only
   rw [List.getElem?_set]
   by_cases e:q=k
   ·subst e
    simp [hul,hql]
   ·rw [if_neg e,hu k hk]
    simp [show ¬ k=q from fun e'=>e e'.symm]
  ·dsimp only
   have hget:T.getD q []=l.tx:=by simp [List.getD_eq_getElem?_getD,hqt]
   rw [List.map_append,hU,List.take_succ_eq_append_getElem (by simpa using hlt'),List.map_cons,List.map_nil,hget]
   congr 1
   have:=List.getElem?_eq_some_iff.1 hgt
   rw [this.2]
 have hm7:=hm6.fr hf7 hml
 have hx07:Ext h h7:=(hx05.trans hx6).trans_new (hf7.mono fun q _ e=>.inr (by omega))
 clear ih hge hb7 hul hu hU hf7 hb6 hx6 ha6 ht6 hm6 hTc'
 refine zgo ?_
 refine Runs.loop (X:=TwX) (fun u=>[(5,.slice aa A.length ca),(8,.slice at' T.length ct),(9,.slice am M.length cm),(18,.bool u.tw),(197,.int .i64 (A.length:Int)),(198,.int .i64 (u.i:Int))])
  (fun u h'=>h7=h'∧u.i≤A.length∧(u.tw=false→∀ (p q:Nat) (x y:SL),p<u.i→A[p]? = some x→A[q]? = some y→p≠q→x.tx≠y.tx)) (fun u=>A.length-u.i) ⟨0,tw⟩ ⟨rfl,rfl,rfl,rfl,rfl,rfl,trivial⟩ ⟨rfl,Nat.zero_le _,fun _ p q x y hp=>absurd hp (Nat.not_lt_zero _)⟩ ?_
 rintro ⟨i,tw4⟩ _ ⟨rfl,hi5,hd5⟩ ih
 dsimp only at hi5 hd5 ih ⊢
 refine zgo ?_
 refine Runs.cond_dec rfl (fun hlt=>?_) (fun hge=>?_)
 ·have hlt':i<A.length:=by omega
  have hgl:A[i]? = some A[i]:=List.getElem?_eq_getElem hlt'
  generalize A[i]=l at *
  obtain ⟨b0,p0,cap0,hv0,_,hcs⟩:=ha7.pos (by omega)
  cases hv0
  have ci:=flat_get SL.len hcs hgl 3 _ rfl
  refine zgo ?_
  refine Runs.loop (X:=TwX) (fun u=>[(5,.slice (some ⟨b0,p0,none⟩) A.length ca),(8,.slice at' T.length ct),(9,.slice am M.length cm),(18,.bool u.tw),(23,.int .i64 (i:Int)),(197,.int .i64 (A.length:Int)),(198,.int .i64 (i:Int)),(202,.int .i64 (A.length:Int)),(203,.int .i64 (u.i:Int))])
   (fun u h'=>h7=h'∧u.i≤A.length∧(u.tw=false→(∀ (p q:Nat) (x y:SL),p<i→A[p]? = some x→A[q]? = some y→p≠q→x.tx≠y.tx)∧∀ (q:Nat) (y:SL),q<u.i→A[q]? = some y→i≠q→l.tx≠y.tx)) (fun u=>A.length-u.i) ⟨0,tw4⟩ ⟨rfl,rfl,rfl,rfl,rfl,rfl,rfl,rfl,rfl,trivial⟩ ⟨rfl,Nat.zero_le _,fun e=>⟨hd5 e,fun q y hq=>absurd hq (Nat.not_lt_zero _)⟩⟩ ?_
  rintro ⟨j,tw5⟩ _ ⟨rfl,hj5,he5⟩ ih2
  dsimp only at hj5 he5 ih2 ⊢
  refine zgo ?_
  refine Runs.cond_dec rfl (fun hlt2=>?_) (fun hge2=>?_)
  rotate_left
  ·refine zgo ?_
   refine ih ⟨i+1,tw5⟩ _ _ (by dsimp only;omega) ⟨rfl,rfl,rfl,rfl,rfl,rfl,trivial⟩ ⟨rfl,by dsimp only;omega,fun e p q x y hp hx hy hpq=>?_⟩
   obtain ⟨g1,g2⟩:=he5 e
   by_cases epi:p=i
   ·subst epi
    rw [hgl] at hx
    have:=(List.getElem?_eq_some_iff.1 hy).1
    rw [← Option.some.inj hx]
    exact g2 q y (by omega) hy hpq
   ·exact g1 p q x y (by dsimp only at hp;omega) hx hy hpq
  clear ih
  have hlt2':j<A.length:=by omega
  have hgy:A[j]? = some A[j]:=List.getElem?_eq_getElem hlt2'
  generalize A[j]=y0 at *
  have cj:=flat_get SL.len hcs hgy 3 _ rfl
  clear hcs
  cases tw5
  ·obtain ⟨g1,g2⟩:=he5 rfl
   refine zgo ?_
   refine Runs.still mixed (by kernel_rfl) ?_
   refine zws ?_
   refine WS.split 211 _ rfl (fun q1=>?_) (fun q1=>?_)
   ·refine zws ?_
    refine zgo ?_
    refine ih2 ⟨j+1,decide (l.tx=y0.tx)⟩ _ _ (by dsimp only;omega) ⟨rfl,rfl,rfl,rfl,rfl,rfl,rfl,rfl,rfl,trivial⟩ ⟨rfl,by dsimp only;omega,fun e=>⟨g1,fun q y hq hy hne=>?_⟩⟩
    dsimp only at e hq
    by_cases eq:q=j
    ·subst eq
     rw [hgy] at hy
     rw [← Option.some.inj hy]
     exact of_decide_eq_false e
    ·exact g2 q y (by omega) hy hne
   ·have q1':(i:Int)=(j:Int):=by simpa using q1
    refine zws ?_
    refine zgo ?_
    refine ih2 ⟨j+1,false⟩ _ _ (by dsimp only;omega) ⟨rfl,rfl,rfl,rfl,rfl,rfl,rfl,rfl,rfl,trivial⟩ ⟨rfl,by dsimp only;omega,fun e=>⟨g1,fun q y hq hy hne=>?_⟩⟩
    dsimp only at hq
    exact g2 q y (by omega) hy hne
  ·refine zgo ?_
   refine Runs.still mixed (by kernel_rfl) ?_
   refine zws ?_
   refine zgo ?_
   exact ih2 ⟨j+1,true⟩ _ _ (by dsimp only;omega) ⟨rfl,rfl,rfl,rfl,rfl,rfl,rfl,rfl,rfl,trivial⟩ ⟨rfl,by dsimp only;omega,fun e=>by cases e⟩
 clear ih
 cases tw4
 ·have hp:=hput fun p q x y hx hy hne=>hd5 rfl p q x y (by have:=(List.getElem?_eq_some_iff.1 hx).1;omega) hx hy hne
  refine zgo ?_
  refine WO.call rfl rfl rfl rfl plain_hinOrder rfl (hinOrder_ret hp (by omega) (by omega) _ _ _ _ ha7 ht7 hm7) fun v8 h8 ⟨hx8,hv8⟩=>?_
  subst hv8
  refine zgo ?_
  exact Runs.ret Tryd.func15 (ret1 Tryd.results15 rfl) ⟨hx07.trans hx8,rfl⟩
 ·refine zgo ?_
  exact Runs.ret Tryd.func15 (ret1 Tryd.results15 rfl) ⟨hx07,rfl⟩
theorem plain_hShown:Plain Tryd.prog 7:=⟨_,Tryd.func7,by decide +kernel,by rfl⟩
theorem kShown_ret (l:List (List UInt8)) (v:Value) (h:Heap) (hv:Texts h v l) (ht:Tab10 h) :
  Ret Tryd.prog 7 #[v] h fun r h'=>Ext h h'∧r = .bool true:=by
 refine Ret.of_body Tryd.func7 rfl Tryd.ntmps7 rfl rfl ?_
 refine zgo ?_
 refine WO.call rfl rfl rfl rfl plain_ksmall rfl (ksmall_ret l v _ hv.rd hv.len hv.each) fun v1 h1 ⟨hh1,r1,hv1,hr1⟩=>?_
 replace hh1:=hh1.symm
 subst hh1 hv1
 cases r1
 ·refine zgo ?_
  exact Runs.ret Tryd.func7 (ret1 Tryd.results7 rfl) ⟨Fr.refl _ _,rfl⟩
 refine zgo ?_
 refine WO.call rfl rfl rfl rfl plain_kof rfl (kof_ret l v _ ht hv.rd (hr1 rfl)) fun v3 h3 ⟨hx3,hv3,F,ps,w3,hF3⟩=>?_
 subst hv3
 refine zgo ?_
 refine WO.call rfl rfl rfl rfl plain_hnothing rfl (hnothing_ret w3.tab w3.head w3.lt) fun v5 h5 ⟨hx5,hv5⟩=>?_
 subst hv5
 refine zgo ?_
 exact Runs.ret Tryd.func7 (ret1 Tryd.results7 rfl) ⟨hx3.trans hx5,rfl⟩
end Go.Proofs.YtlaffgagmncgjabDoor
