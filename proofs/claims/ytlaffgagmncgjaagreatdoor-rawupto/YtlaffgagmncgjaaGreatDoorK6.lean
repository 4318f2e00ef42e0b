import Derived.Test.YtlaffgagmncgjaaGreatDoorK2
namespace Go.Proofs.YtlaffgagmncgjaaGreatDoor
open Tryz Go Go.Pat Go.Proofs
theorem first_char {c:UInt8} {s w:List UInt8} {ws:List (List UInt8)} (h:splitL c s=w::ws) {x:UInt8} {r:List UInt8} (hw:w=x::r):∃ r',s=x::r':=by
 obtain ⟨_,h2⟩:=splitL_inv h
 rcases h2 with ⟨_,rfl⟩ | ⟨q,rfl,_⟩
 ·exact ⟨r,hw⟩
 ·rw [hw];exact ⟨r++c::q,rfl⟩
theorem change_first {s:List UInt8} {c:ChangeD} (h:changeS s=some c):∃ x r,s=x::r∧x≠112:=by
 unfold changeS at h
 split at h
 ·rename_i w0 ws hs
  split at h
  ·rename_i h1
   obtain ⟨r,e⟩:=first_char hs h1.1
   exact ⟨_,r,e,by decide⟩
  ·split at h
   ·rename_i h1
    obtain ⟨r,e⟩:=first_char hs h1.1
    exact ⟨_,r,e,by decide⟩
   ·split at h
    ·rename_i h1
     obtain ⟨r,e⟩:=first_char hs h1.1
     exact ⟨_,r,e,by decide⟩
    ·cases h
 ·cases h
theorem kallSome_mem {α β:Type} {f:α→Option β} {l:List α} {bs:List β} (h:allSome f l=some bs) {a:α} (ha:a∈l):∃ b,f a=some b:=by
 cases hf:f a with
 | some b=>exact ⟨b,rfl⟩
 | none=>rw [allSome_none f ha hf] at h;cases h
structure Lines (t l0:List UInt8) (ls:List (List UInt8)):Prop where
 eq:t=(l0::ls).flatMap (· ++ [10])
 no:∀ s∈l0::ls,(10:UInt8)∉s
 one:∀ s∈ls,∃ x r,s=x::r∧x≠112
theorem parse_lines {t:List UInt8} {p:PatchD} (h:parseS t=some p):∃ l0 ls,Lines t l0 ls∧l0.take 6=head6:=by
 unfold parseS at h
 split at h
 ·cases h
 split at h
 ·rename_i l0 l1 rest hs
  split at h
  ·cases h
  ·rename_i hr
   split at h
   ·rename_i h0 h1 hl0
    split at h
    ·rename_i n0 ns hl1
     split at h
     ·cases h
     ·rename_i hw
      split at h
      ·cases h
      ·rename_i id hid
       split at h
       ·cases h
       ·rename_i needs hneeds
        split at h
        ·cases h
        ·rename_i cs hcs
         cases h
         have hw0:h0=[112,97,116,99,104]:=Classical.byContradiction fun e=>hw (.inl e)
         have hwn:n0=[110,101,101,100,115]:=Classical.byContradiction fun e=>hw (.inr (.inl e))
         have hlast:rest.getLast? = some []:=Classical.byContradiction fun e=>hr (.inr (.inl e))
         have hrest:rest=rest.dropLast++[[]]:=by
          have hne:rest≠[]:=fun e=>by rw [e] at hlast;cases hlast
          have:=List.dropLast_concat_getLast hne
          rw [List.getLast?_eq_some_getLast hne] at hlast
          rw [Option.some.inj hlast] at this
          exact this.symm
         rw [hrest] at hs
         have hs2:splitL 10 t=(l0::l1::rest.dropLast)++[[]]:=hs
         obtain ⟨ht,hno⟩:=splitL_flat_inv hs2
         refine ⟨l0,l1::rest.dropLast,⟨ht,hno,fun s hsm=>?_⟩,?_⟩
         ·rcases List.mem_cons.1 hsm with e | e
          ·obtain ⟨r,er⟩:=first_char hl1 hwn
           exact ⟨_,r,by rw [e];exact er,by decide⟩
          ·obtain ⟨c,hc⟩:=kallSome_mem hcs e
           exact change_first hc
         ·obtain ⟨_,h2⟩:=splitL_inv hl0
          rcases h2 with ⟨e,_⟩ | ⟨r,e,_⟩
          ·cases e
          ·rw [e,hw0];rfl
    ·cases h
   ·cases h
 ·cases h
theorem lines_inside:∀ (ls:List (List UInt8)) (l0 rest:List UInt8),(∀ s∈l0::ls,(10:UInt8)∉s)→(∀ s∈ls,∃ x r,s=x::r∧x≠112)→∀ j,j+1<((l0::ls).flatMap (· ++ [10])).length→((l0::ls).flatMap (· ++ [10])++rest)[j]? = some 10→∃ x,((l0::ls).flatMap (· ++ [10])++rest)[j+1]? = some x∧x≠112
 | [],l0,rest,hno,_,j,hj,h10=>by
  exfalso
  simp only [List.flatMap_cons,List.flatMap_nil,List.append_nil,List.length_append,List.length_cons,List.length_nil] at hj h10
  rw [List.append_assoc,List.getElem?_append_left (by omega)] at h10
  exact hno l0 (by simp) (List.mem_of_getElem? h10)
 | l1::ls,l0,rest,hno,hone,j,hj,h10=>by
  have he:(l0::l1::ls).flatMap (· ++ [10])++rest=l0++10::((l1::ls).flatMap (· ++ [10])++rest):=by simp
  have hl:((l0::l1::ls).flatMap (· ++ [10])).length=l0.length+1+((l1::ls).flatMap (· ++ [10])).length:=by simp;omega
  rw [he] at h10 ⊢
  rcases Nat.lt_trichotomy j l0.length with h | h | h
  ·exfalso
   rw [List.getElem?_append_left h] at h10
   exact hno l0 (by simp) (List.mem_of_getElem? h10)
  ·subst h
   obtain ⟨x,r,e,hx⟩:=hone l1 (by simp)
   refine ⟨x,?_,hx⟩
   rw [List.getElem?_append_right (by omega),show l0.length+1-l0.length=1 by omega,e]
   rfl
  ·rw [List.getElem?_append_right (by omega),show j-l0.length=(j-l0.length-1)+1 by omega,List.getElem?_cons_succ] at h10
   rw [List.getElem?_append_right (by omega),show j+1-l0.length=(j-l0.length-1+1)+1 by omega,List.getElem?_cons_succ]
   exact lines_inside ls l1 rest (fun s hs=>hno s (List.mem_cons_of_mem _ hs)) (fun s hs=>hone s (List.mem_cons_of_mem _ hs)) _ (by omega) h10
theorem parse_head {t:List UInt8} {p:PatchD} (h:parseS t=some p):t.take 6=head6:=by
 obtain ⟨l0,ls,hl,h6⟩:=parse_lines h
 have h7:6≤l0.length:=by
  have:=congrArg List.length h6
  simp [head6] at this
  omega
 rw [hl.eq,List.flatMap_cons,List.append_assoc,List.take_append_of_le_length h7]
 exact h6
theorem text_end {t:List UInt8} {p:PatchD} (h:parseS t=some p) (rest:List UInt8) (hr:rest=[]∨rest.take 6=head6):cutN (t++rest)=t.length:=by
 obtain ⟨l0,ls,hl,_⟩:=parse_lines h
 have h6:=congrArg List.length (parse_head h)
 have hpos:6≤t.length:=by simp [head6] at h6;omega
 refine cutN_eq ⟨by omega,by simp,fun j h1 h2=>?_,?_⟩
 ·unfold cutAt
  rw [Bool.and_eq_false_iff]
  by_cases hc:(t++rest)[j-1]? = some 10
  ·right
   apply decide_eq_false
   intro e
   have:=lines_inside ls l0 rest hl.no hl.one (j-1) (by rw [← hl.eq];omega) (by rw [← hl.eq];exact hc)
   rw [← hl.eq,show j-1+1=j by omega] at this
   obtain ⟨x,hx,hne⟩:=this
   have h0:((t++rest).drop j).take 6=head6:=e
   have h9:=congrArg (·[0]?) h0
   simp only [List.getElem?_take_of_lt (show 0<6 by omega),List.getElem?_drop,Nat.add_zero,hx] at h9
   exact hne (Option.some.inj h9)
  ·left
   exact decide_eq_false hc
 ·rcases hr with e | e
  ·left;simp [e]
  ·right
   unfold cutAt
   rw [Bool.and_eq_true]
   refine ⟨decide_eq_true ?_,decide_eq_true ?_⟩
   ·rw [List.getElem?_append_left (by omega),hl.eq]
    have:∀ (l0:List UInt8) (ls:List (List UInt8)),((l0::ls).flatMap (· ++ [10]))[((l0::ls).flatMap (· ++ [10])).length-1]? = some 10:=by
     intro l0 ls
     rw [← List.getLast?_eq_getElem?]
     induction ls generalizing l0 with
     | nil=>simp
     | cons a ls ih =>
      rw [List.flatMap_cons,List.getLast?_append]
      rw [ih a];rfl
    exact this l0 ls
   ·rw [List.drop_append_of_le_length (Nat.le_refl _),List.drop_length,List.nil_append]
    exact e
theorem cuts_texts {ps:List PatchD}:∀ (O:List PatchD),(∀ p∈O,∃ t,parseS t=some p)→cutsS (O.flatMap textS)=O.map textS
 | [],_=>by simp [cuts_nil]
 | p::O,h=>by
  obtain ⟨t,ht⟩:=h p (by simp)
  have ih:=cuts_texts (ps:=ps) O fun q hq=>h q (List.mem_cons_of_mem _ hq)
  have e:=parse_text ht
  have hr:O.flatMap textS=[]∨(O.flatMap textS).take 6=head6:=by
   cases O with
   | nil=>exact .inl rfl
   | cons q O =>
    right
    obtain ⟨t',ht'⟩:=h q (by simp)
    have h6:=parse_head ht'
    have hl:=congrArg List.length h6
    rw [List.flatMap_cons,parse_text ht',List.take_append_of_le_length (by simp [head6] at hl;omega)]
    exact h6
  have hc:=text_end ht _ hr
  have hl:=congrArg List.length (parse_head ht)
  have hne:textS p++O.flatMap textS≠[]:=fun e'=>by
   rw [e] at e'
   have h0:=(List.append_eq_nil_iff.1 e').1
   rw [h0] at hl
   simp [head6] at hl
  rw [List.flatMap_cons,cuts_cons hne,e,hc,List.take_left,List.drop_left,ih,List.map_cons,e]
theorem rise_sub:∀ {a b:List PatchD},Rise a→Rise b→(∀ p∈a,p∈b)→a.Sublist b
 | [],b,_,_,_=>List.nil_sublist b
 | x::a,[],_,_,h=>absurd (h x (by simp)) (by simp)
 | x::a,y::b,ha,hb,h=>by
  unfold Rise at ha hb
  simp only [List.map_cons,List.pairwise_cons] at ha hb
  have la:∀ z∈a,x.id<z.id:=fun z hz=>ha.1 z.id (List.mem_map.2 ⟨z,hz,rfl⟩)
  have lb:∀ z∈b,y.id<z.id:=fun z hz=>hb.1 z.id (List.mem_map.2 ⟨z,hz,rfl⟩)
  rcases List.mem_cons.1 (h x (by simp)) with e | e
  ·subst e
   refine (rise_sub ha.2 hb.2 fun z hz=>?_).cons_cons x
   rcases List.mem_cons.1 (h z (List.mem_cons_of_mem _ hz)) with e' | e'
   ·subst e';have:=la z hz;omega
   ·exact e'
  ·have hx:=lb x e
   refine (rise_sub (a:=x::a) (by unfold Rise;simp only [List.map_cons,List.pairwise_cons];exact ha) hb.2 fun z hz=>?_).cons y
   rcases List.mem_cons.1 hz with e' | e'
   ·rw [e'];exact e
   ·rcases List.mem_cons.1 (h z hz) with e2 | e2
    ·subst e2;have:=la z e';omega
    ·exact e2
theorem part_lets {ps bs:List PatchD} (h:Set1 ps) (hb:Set1 bs) (hsub:∀ p∈bs,p∈ps) {p:PatchD} (hp:p∈ps) (hout:p.id∉bs.map PatchD.id) (hn:∀ n∈p.needs,n∈bs.map PatchD.id):Lets bs (textS p) p:=by
 obtain ⟨t,ht,hf⟩:=h.inv.fine p hp
 have hw:=rise_with hb.rise hout
 have hs:=rise_sub hw h.rise fun x hx=>(withS_mem.1 hx).elim (fun e=>e ▸ hp) (hsub x)
 have keep:∀ r,has2 ps r→(r.p=0∨r.p=p.id∨r.p∈p.needs)→has2 (bs++[p]) r:=fun r hr hc=>by
  rcases hc with e | e | e
  ·exact .inl e
  ·exact has2_mono hr fun q hq eq=>by
    have:=ids_inj h.inv.nodup hq hp (by rw [← eq,e])
    rw [this];simp
  ·exact has2_mono hr fun q hq eq=>by
    obtain ⟨x,hx,ex⟩:=List.mem_map.1 (hn _ e)
    have:=ids_inj h.inv.nodup hq (hsub x hx) (by rw [← eq,ex])
    rw [this];simp [hx]
 refine ⟨by rw [parse_text ht];exact ht,hf,hout,hn,fun c hc=>?_,?_,?_⟩
 ·obtain ⟨r1,r2⟩:=ref_of hf hc
  obtain ⟨l1,l2⟩:=h.lin p hp c hc
  refine ⟨keep _ l1 r1,?_⟩
  rcases l2 with e | l2
  ·exact .inl e
  ·rcases r2 with e | r2
   ·exact .inl e
   ·exact .inr (keep _ l2 r2)
 ·have h1:=hs.length_le
  rw [withS_len] at h1
  have:=h.inv.len
  omega
 ·have h1:(linesS (withS p bs)).length≤(linesS ps).length:=by
   have key:∀ {a b:List PatchD},a.Sublist b→(linesS a).length≤(linesS b).length:=fun {a b} hab=>by
    induction hab with
    | slnil=>exact Nat.le_refl _
    | cons y _ ih=>simp only [linesS,List.flatMap_cons,List.length_append] at ih ⊢;omega
    | cons_cons y _ ih=>simp only [linesS,List.flatMap_cons,List.length_append] at ih ⊢;omega
   exact key hs
  have h2:=linesS_with p bs
  have:=h.inv.lines
  rw [← lines_snoc,List.length_append]
  omega
def bunO (ps:List PatchD):Nat→List PatchD
 | 0=>[]
 | k+1=>bunO ps k++(nextS ps (bunTo ps k).D).toList
theorem bun_text {ps:List PatchD} (hinv:Inv ps):∀ k,k≤ps.length→(bunTo ps k).T=(bunO ps k).flatMap textS∧(bunTo ps k).D=(bunO ps k).map PatchD.id∧∀ p∈bunO ps k,p∈ps:=by
 intro k
 induction k with
 | zero=>intro _;exact ⟨rfl,rfl,by simp [bunO]⟩
 | succ k ih =>
  intro hk
  obtain ⟨i1,i2,i3⟩:=ih (by omega)
  have hok:=bun_ok hinv k (by omega)
  obtain ⟨p,hp⟩:=next_ex hinv (D:=(bunTo ps k).D) (by rw [hok.len];omega)
  obtain ⟨h1,_,_⟩:=next_some hp
  rw [bun_step hp]
  unfold bunO
  rw [hp]
  refine ⟨?_,?_,fun q hq=>?_⟩
  ·dsimp only;rw [i1];simp
  ·dsimp only;rw [i2];simp
  ·rcases List.mem_append.1 hq with e | e
   ·exact i3 q e
   ·have:q=p:=by simpa using e
    rw [this];exact h1
theorem run_snoc:∀ {xs:List (List UInt8)} {ps qs:List PatchD} {x:List UInt8},runS ps xs=(0,qs)→runS ps (xs++[x])=if (applyS qs x).1=0 then (0,(applyS qs x).2) else ((applyS qs x).1,[])
 | [],ps,qs,x,h=>by
  cases h
  rfl
 | y::xs,ps,qs,x,h=>by
  rw [run_cons] at h
  rw [List.cons_append,run_cons]
  split
  ·rename_i h0
   rw [if_pos h0] at h
   exact run_snoc h
  ·rename_i h0
   rw [if_neg h0] at h
   exact absurd (congrArg Prod.fst h) h0
theorem load_bundle {ps:List PatchD} (h:Set1 ps):loadedS (bundleS ps)=(0,ps):=by
 have key:∀ k,k≤ps.length→∃ bs,Set1 bs∧(∀ p∈bs,p∈ps)∧(∀ n,n∈bs.map PatchD.id↔n∈(bunTo ps k).D)∧bs.length=k∧runS [] ((bunO ps k).map textS)=(0,bs):=by
  intro k
  induction k with
  | zero=>intro _;exact ⟨[],Set1.nil,by simp,by simp [bunTo],rfl,rfl⟩
  | succ k ih =>
   intro hk
   obtain ⟨bs,hb,hsub,hid,hlen,hrun⟩:=ih (by omega)
   have hok:=bun_ok h.inv k (by omega)
   obtain ⟨p,hp⟩:=next_ex h.inv (D:=(bunTo ps k).D) (by rw [hok.len];omega)
   obtain ⟨h1,h2,h3⟩:=next_some hp
   have hl:=part_lets h hb hsub h1 (fun hm=>h2 ((hid _).1 hm)) (fun n hn=>(hid n).2 (h3 n hn))
   refine ⟨withS p bs,set_lets hb hl,fun x hx=>(withS_mem.1 hx).elim (fun e=>e ▸ h1) (hsub x),fun n=>?_,by rw [withS_len];omega,?_⟩
   ·rw [bun_step hp]
    dsimp only
    rw [List.mem_append,← hid n]
    constructor
    ·intro hm
     obtain ⟨x,hx,e⟩:=List.mem_map.1 hm
     rcases withS_mem.1 hx with e' | e'
     ·subst e';exact .inr (by simp [e])
     ·exact .inl (List.mem_map.2 ⟨x,e',e⟩)
    ·rintro (hm | hm)
     ·obtain ⟨x,hx,e⟩:=List.mem_map.1 hm
      exact List.mem_map.2 ⟨x,withS_mem.2 (.inr hx),e⟩
     ·exact List.mem_map.2 ⟨p,withS_mem.2 (.inl rfl),by simp at hm;exact hm.symm⟩
   ·unfold bunO
    rw [hp]
    show runS [] ((bunO ps k++[p]).map textS)=_
    rw [List.map_append,List.map_cons,List.map_nil,run_snoc hrun,lets_apply hl]
    rfl
 obtain ⟨bs,hb,hsub,_,hlen,hrun⟩:=key ps.length (Nat.le_refl _)
 have hbs:bs=ps:=by
  have:=(rise_sub hb.rise h.rise hsub).eq_of_length (by omega)
  exact this
 subst hbs
 obtain ⟨e1,_,e3⟩:=bun_text h.inv bs.length (Nat.le_refl _)
 have htl:=(bun_ok h.inv bs.length (Nat.le_refl _)).tl
 have h20:=h.inv.len
 have hload:loadS (bundleS bs)=(0,bs):=by
  unfold loadS
  rw [if_neg (by unfold bundleS;omega)]
  unfold bundleS
  rw [e1,cuts_texts (ps:=bs) _ fun p hp=>by
   obtain ⟨t,ht,_⟩:=h.inv.fine p (e3 p hp)
   exact ⟨t,ht⟩]
  exact hrun
 unfold loadedS
 rw [hload,if_neg (fun e=>e.2 rfl)]
end Go.Proofs.YtlaffgagmncgjaaGreatDoor
