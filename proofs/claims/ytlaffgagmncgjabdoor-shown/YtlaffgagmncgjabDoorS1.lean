import Derived.Test.YtlaffgagmncgjabDoorRdr
import Derived.Test.YtlaffgagmncgjabDoorT11
import Derived.Test.YtlaffgagmncgjabDoorP8
import Derived.Test.YtlaffgagmncgjabDoorT24
import Derived.Test.YtlaffgagmncgjabDoorT13
set_option maxRecDepth 20000
set_option maxHeartbeats 3200000
namespace Go.Proofs.YtlaffgagmncgjabDoor
open Go Go.Pat Go.Proofs
theorem numAcc_dec:∀ {r:List UInt8} {acc n:Nat},0<acc→numAcc acc r=some n→decS n=decS acc++r:=by
 intro r
 induction r with
 | nil=>intro acc n _ h;simp [numAcc] at h;subst h;simp
 | cons c r ih =>
  intro acc n ha h
  unfold numAcc at h
  split at h
  ·cases h
  ·rename_i hc
   have:=ih (by omega) h
   rw [this,decS_big (n:=10*acc+(c.toNat-48)) (by omega)]
   have e1:(10*acc+(c.toNat-48)) / 10=acc:=by omega
   have e2:48+(10*acc+(c.toNat-48)) % 10=c.toNat:=by omega
   rw [e1,e2]
   simp
theorem number_dec {w:List UInt8} {n:Nat} (h:numberS w=some n):decS n=w:=by
 unfold numberS at h
 split at h
 ·cases h
 ·rename_i hw
  cases w with
  | nil=>simp at hw
  | cons c r =>
   unfold numAcc at h
   split at h
   ·cases h
   ·rename_i hc
    have hd:decS (10*0+(c.toNat-48))=[c]:=by
     rw [decS_small (by omega)]
     have:48+(10*0+(c.toNat-48))=c.toNat:=by omega
     rw [this];simp
    cases r with
    | nil=>simp [numAcc] at h;subst h;simpa using hd
    | cons c2 r2 =>
     have hne:c≠48:=fun e=>by subst e;simp at hw
     have hpos:0<10*0+(c.toNat-48):=by
      have:c.toNat≠48:=fun e=>hne (by
       have h2:=congrArg UInt8.ofNat e
       simpa using h2)
      omega
     rw [numAcc_dec hpos h,hd];rfl
theorem name_dec {w:List UInt8} {n:Nat} (h:nameS w=some n):decS n=w:=by
 unfold nameS at h
 split at h
 ·rename_i m hm
  split at h
  ·cases h
  ·cases h;exact number_dec hm
 ·cases h
theorem line_ref {w edge:List UInt8} {r:RefD} (he:edge=[]∨edge=[94]∨edge=[36]) (h:lineS w edge=some r):refS r=w:=by
 unfold lineS at h
 split at h
 ·rename_i hw
  obtain ⟨h1,h2⟩:=hw
  subst h2
  rcases he with e | e | e
  ·exact absurd e h1
  ·subst e;simp at h;subst h;rfl
  ·subst e;simp at h;subst h;rfl
 ·split at h
  ·rename_i a b hs
   split at h
   ·rename_i p i ha hb
    split at h
    ·rename_i hp
     cases h
     obtain ⟨e,_,_⟩:=splitL_words_inv hs
     unfold refS
     rw [if_pos hp,number_dec ha,number_dec hb,e]
     simp
    ·cases h
   ·cases h
  ·cases h
theorem change_text {s:List UInt8} {c:ChangeD} (h:changeS s=some c):chS c=s++[10]:=by
 unfold changeS at h
 split at h
 ·rename_i w0 ws hs
  obtain ⟨e,hq1,hq0⟩:=splitL_words_inv hs
  clear hq0 hq1
  split at h
  ·rename_i hw
   split at h
   ·rename_i w1 w2 r
    split at h
    ·rename_i up down h1 h2
     split at h
     ·cases h
      have e1:=line_ref (.inr (.inl rfl)) h1
      have e2:=line_ref (.inr (.inr rfl)) h2
      obtain ⟨hw0,hlen⟩:=hw
      cases r with
      | nil=>simp at hlen
      | cons x xs =>
       have hs':s=([97,100,100]++32::(w1++32::(w2++[32])))++(x++xs.flatMap (32 :: ·)):=by rw [e,hw0];simp
       have hd:s.drop (w0.length+w1.length+w2.length+3)=x++xs.flatMap (32 :: ·):=by
        rw [hs']
        refine List.drop_left' ?_
        rw [hw0];simp;omega
       unfold chS
       dsimp only
       rw [if_pos rfl,e1,e2,hd,hs']
       simp
     ·cases h
    ·cases h
   ·cases h
  ·split at h
   ·rename_i hw
    split at h
    ·rename_i w1
     split at h
     ·rename_i up h1
      cases h
      have e1:=line_ref (.inl rfl) h1
      unfold chS
      dsimp only
      rw [if_neg (by omega),if_pos rfl,e1,e,hw.1]
      simp
     ·cases h
    ·cases h
   ·split at h
    ·rename_i hw
     split at h
     ·rename_i w1 w2
      split at h
      ·rename_i up down h1 h2
       cases h
       have e1:=line_ref (.inl rfl) h1
       have e2:=line_ref (.inl rfl) h2
       unfold chS
       dsimp only
       rw [if_neg (by omega),if_neg (by omega),e1,e2,e,hw.1]
       simp
      ·cases h
     ·cases h
    ·cases h
 ·cases h
theorem allSome_flat {α β:Type} {f:α→Option β} {g:β→List UInt8} {g':α→List UInt8} (hfg:∀ a b,f a=some b→g b=g' a):∀ {l:List α} {bs:List β},allSome f l=some bs→bs.flatMap g=l.flatMap g':=by
 intro l
 induction l with
 | nil=>intro bs h;simp [allSome] at h;subst h;rfl
 | cons a l ih =>
  intro bs h
  cases hb:f a with
  | none=>simp [allSome,hb] at h
  | some b =>
   cases hr:allSome f l with
   | none=>simp [allSome,hb,hr] at h
   | some r =>
    simp [allSome,hb,hr] at h
    subst h
    rw [List.flatMap_cons,List.flatMap_cons,hfg a b hb,ih hr]
theorem parse_text {t:List UInt8} {p:PatchD} (h:parseS t=some p):textS p=t:=by
 unfold parseS at h
 split at h
 ·cases h
 split at h
 ·rename_i l0 l1 rest hs
  split at h
  ·cases h
  ·rename_i hr
   split at h
   ·rename_i h0 h1 hl0
    split at h
    ·rename_i n0 ns hl1
     split at h
     ·cases h
     ·rename_i hw
      split at h
      ·cases h
      ·rename_i id hid
       split at h
       ·cases h
       ·rename_i needs hneeds
        split at h
        ·cases h
        ·rename_i cs hcs
         cases h
         have hw0:h0=[112,97,116,99,104]:=Classical.byContradiction fun e=>hw (.inl e)
         have hwn:n0=[110,101,101,100,115]:=Classical.byContradiction fun e=>hw (.inr (.inl e))
         have hlast:rest.getLast? = some []:=Classical.byContradiction fun e=>hr (.inr (.inl e))
         have hrest:rest=rest.dropLast++[[]]:=by
          have hne:rest≠[]:=fun e=>by rw [e] at hlast;cases hlast
          have:=List.dropLast_concat_getLast hne
          rw [List.getLast?_eq_some_getLast hne] at hlast
          rw [Option.some.inj hlast] at this
          exact this.symm
         rw [hrest] at hs
         have hs2:splitL 10 t=(l0::l1::rest.dropLast)++[[]]:=hs
         obtain ⟨ht,_⟩:=splitL_flat_inv hs2
         obtain ⟨e0,_,_⟩:=splitL_words_inv hl0
         obtain ⟨e1,_,_⟩:=splitL_words_inv hl1
         have hch:cs.flatMap chS=rest.dropLast.flatMap (· ++ [10]):=allSome_flat (fun a b hab=>change_text hab) hcs
         have hnd:needsS needs=ns.flatMap (32 :: ·):=by
          unfold needsS
          exact allSome_flat (g:=fun n=>[32]++decS n) (fun a b hab=>by rw [name_dec hab];rfl) hneeds
         unfold textS headS
         dsimp only
         rw [hch,hnd,name_dec hid,ht,e0,e1,hw0,hwn]
         simp
    ·cases h
   ·cases h
 ·cases h
theorem text_inj {t t':List UInt8} {p q:PatchD} (hp:parseS t=some p) (hq:parseS t'=some q) (h:textS p=textS q):p=q:=by
 rw [parse_text hp,parse_text hq] at h
 subst h
 rw [hp] at hq
 exact Option.some.inj hq
def findS (ps:List PatchD) (n:Nat):Option PatchD:=ps.find? fun q=>decide (q.id=n)
def clash1 (A:List PatchD) (p:PatchD):Bool:=match findS A p.id with
 | some o=>!decide (textS o=textS p)
 | none=>false
def clashS (A B:List PatchD):Bool:=B.any (clash1 A)
def joinS (A B:List PatchD):List PatchD:=B.foldl (fun u p=>if (findS A p.id).isSome=true then u else withS p u) A
def pullS (A B:List PatchD):Nat × List PatchD:=if clashS A B=true then (4,A) else if 20<(joinS A B).length∨90<(linesS (joinS A B)).length then (7,A) else (0,joinS A B)
theorem findS_some {ps:List PatchD} {n:Nat} {o:PatchD} (h:findS ps n=some o):o∈ps∧o.id=n:=by
 unfold findS at h
 exact ⟨List.mem_of_find?_eq_some h,by have:=List.find?_some h;simpa using this⟩
theorem findS_none {ps:List PatchD} {n:Nat}:findS ps n=none↔n∉ps.map PatchD.id:=by
 unfold findS
 rw [List.find?_eq_none]
 simp only [decide_eq_true_eq,List.mem_map,not_exists,not_and]
theorem findS_of {ps:List PatchD} (hn:(ps.map PatchD.id).Nodup) {o:PatchD} (ho:o∈ps):findS ps o.id=some o:=find_eq hn ho rfl
theorem join_go {A:List PatchD} {q:PatchD}:∀ (B u:List PatchD),q∈B.foldl (fun u p=>if (findS A p.id).isSome=true then u else withS p u) u↔q∈u∨(q∈B∧findS A q.id=none):=by
 intro B
 induction B with
 | nil=>intro u;simp
 | cons p B ih =>
  intro u
  rw [List.foldl_cons,ih]
  cases h:findS A p.id with
  | some o =>
   simp only [Option.isSome_some,if_true,List.mem_cons]
   constructor
   ·rintro (e | ⟨e1,e2⟩)
    ·exact .inl e
    ·exact .inr ⟨.inr e1,e2⟩
   ·rintro (e | ⟨e1 | e1,e2⟩)
    ·exact .inl e
    ·rw [e1,h] at e2;cases e2
    ·exact .inr ⟨e1,e2⟩
  | none =>
   simp only [Option.isSome_none,Bool.false_eq_true,if_false,List.mem_cons,withS_mem]
   constructor
   ·rintro ((e | e) | ⟨e1,e2⟩)
    ·subst e;exact .inr ⟨.inl rfl,h⟩
    ·exact .inl e
    ·exact .inr ⟨.inr e1,e2⟩
   ·rintro (e | ⟨e1 | e1,e2⟩)
    ·exact .inl (.inr e)
    ·exact .inl (.inl e1)
    ·exact .inr ⟨e1,e2⟩
theorem join_mem {A B:List PatchD} {q:PatchD}:q∈joinS A B↔q∈A∨(q∈B∧findS A q.id=none):=join_go B A
theorem join_snoc (A B:List PatchD) (p:PatchD):joinS A (B++[p])=if (findS A p.id).isSome=true then joinS A B else withS p (joinS A B):=by
 unfold joinS;rw [List.foldl_append];rfl
theorem withS_len (p:PatchD) (ps:List PatchD):(withS p ps).length=ps.length+1:=by
 induction ps with
 | nil=>rfl
 | cons a ps ih=>unfold withS;split<;>simp [ih]
theorem withS_ids {p:PatchD} {ps:List PatchD} (hn:(ps.map PatchD.id).Nodup) (hp:p.id∉ps.map PatchD.id):((withS p ps).map PatchD.id).Nodup:=by
 induction ps with
 | nil=>simp [withS]
 | cons a ps ih =>
  simp only [List.map_cons,List.nodup_cons,List.mem_cons,not_or] at hn hp
  unfold withS
  split
  ·simp only [List.map_cons,List.nodup_cons,List.mem_cons,not_or]
   exact ⟨hp,hn⟩
  ·simp only [List.map_cons,List.nodup_cons]
   refine ⟨fun hm=>?_,ih hn.2 hp.2⟩
   obtain ⟨x,hx,e⟩:=List.mem_map.1 hm
   rcases withS_mem.1 hx with e' | e'
   ·subst e';exact hp.1 e
   ·exact hn.1 (List.mem_map.2 ⟨x,e',e⟩)
theorem join_nodup {A:List PatchD}:∀ (B u:List PatchD),(u.map PatchD.id).Nodup→(B.map PatchD.id).Nodup→(∀ p∈B,findS A p.id=none→p.id∉u.map PatchD.id)→((B.foldl (fun u p=>if (findS A p.id).isSome=true then u else withS p u) u).map PatchD.id).Nodup:=by
 intro B
 induction B with
 | nil=>intro u h _ _;exact h
 | cons p B ih =>
  intro u hu hB hd
  simp only [List.map_cons,List.nodup_cons] at hB
  rw [List.foldl_cons]
  cases h:findS A p.id with
  | some o =>
   simp only [Option.isSome_some,if_true]
   exact ih u hu hB.2 fun q hq=>hd q (List.mem_cons_of_mem _ hq)
  | none =>
   simp only [Option.isSome_none,Bool.false_eq_true,if_false]
   refine ih _ (withS_ids hu (hd p (by simp) h)) hB.2 fun q hq hqn hm=>?_
   obtain ⟨x,hx,e⟩:=List.mem_map.1 hm
   rcases withS_mem.1 hx with e' | e'
   ·subst e';exact hB.1 (List.mem_map.2 ⟨q,hq,e.symm⟩)
   ·exact hd q (List.mem_cons_of_mem _ hq) hqn (List.mem_map.2 ⟨x,e',e⟩)
theorem join_len (A:List PatchD):∀ (B u:List PatchD),(B.foldl (fun u p=>if (findS A p.id).isSome=true then u else withS p u) u).length≤u.length+B.length:=by
 intro B
 induction B with
 | nil=>intro u;simp
 | cons p B ih =>
  intro u
  rw [List.foldl_cons]
  have:=ih (if (findS A p.id).isSome=true then u else withS p u)
  have h2:(if (findS A p.id).isSome=true then u else withS p u).length≤u.length+1:=by split;omega;rw [withS_len];omega
  simp only [List.length_cons];omega
theorem joinS_nodup {A B:List PatchD} (hA:(A.map PatchD.id).Nodup) (hB:(B.map PatchD.id).Nodup):((joinS A B).map PatchD.id).Nodup :=
 join_nodup B A hA hB fun _ _ h=>findS_none.1 h
theorem rise_go {A:List PatchD}:∀ (B u:List PatchD),Rise u→(B.map PatchD.id).Nodup→(∀ p∈B,findS A p.id=none→p.id∉u.map PatchD.id)→Rise (B.foldl (fun u p=>if (findS A p.id).isSome=true then u else withS p u) u)
 | [],_,h,_,_=>h
 | p::B,u,h,hn,hf=>by
  simp only [List.map_cons,List.nodup_cons] at hn
  rw [List.foldl_cons]
  split
  ·exact rise_go B u h hn.2 fun q hq e=>hf q (List.mem_cons_of_mem _ hq) e
  ·rename_i hns
   have hno:findS A p.id=none:=by simpa using hns
   refine rise_go B _ (rise_with h (hf p (by simp) hno)) hn.2 fun q hq e hm=>?_
   obtain ⟨x,hx,ex⟩:=List.mem_map.1 hm
   rcases withS_mem.1 hx with e' | e'
   ·subst e';exact hn.1 (List.mem_map.2 ⟨q,hq,ex.symm⟩)
   ·exact hf q (List.mem_cons_of_mem _ hq) e (List.mem_map.2 ⟨x,e',ex⟩)
theorem rise_join {A B:List PatchD} (hA:Rise A) (hB:(B.map PatchD.id).Nodup):Rise (joinS A B):=rise_go B A hA hB fun _ _ h=>findS_none.1 h
theorem inv_pull {A B:List PatchD} (hA:Inv A) (hB:Inv B):Inv (pullS A B).2:=by
 unfold pullS
 split
 ·exact hA
 ·rename_i hc
  split
  ·exact hA
  ·rename_i hf
   have hnd:=joinS_nodup hA.nodup hB.nodup
   have hno:∀ p∈B,clash1 A p=false:=fun p hp=>by
    cases h:clash1 A p
    ·rfl
    ·exact absurd (List.any_eq_true.2 ⟨p,hp,h⟩) hc
   have hBA:∀ p∈B,p∈joinS A B:=fun p hp=>by
    cases h:findS A p.id with
    | none=>exact join_mem.2 (.inr ⟨hp,h⟩)
    | some o =>
     have h1:=hno p hp
     unfold clash1 at h1
     rw [h] at h1
     have h2:textS o=textS p:=by simpa using h1
     obtain ⟨ho,_⟩:=findS_some h
     obtain ⟨t,ht,_⟩:=hA.fine o ho
     obtain ⟨t',ht',_⟩:=hB.fine p hp
     have:=text_inj ht ht' h2
     subst this
     exact join_mem.2 (.inl ho)
   have hAA:∀ p∈A,p∈joinS A B:=fun p hp=>join_mem.2 (.inl hp)
   dsimp only
   refine ⟨fun p hp=>?_,hnd,by omega,fun p hp n hn=>?_,by omega,fun p hp hpa=>?_,rise_join hA.rise hB.nodup⟩
   ·rcases join_mem.1 hp with e | e
    ·exact hA.fine p e
    ·exact hB.fine p e.1
   ·rcases join_mem.1 hp with e | e
    ·obtain ⟨q,hq,e'⟩:=List.mem_map.1 (hA.needs p e n hn)
     exact List.mem_map.2 ⟨q,hAA q hq,e'⟩
    ·obtain ⟨q,hq,e'⟩:=List.mem_map.1 (hB.needs p e.1 n hn)
     exact List.mem_map.2 ⟨q,hBA q hq,e'⟩
   ·obtain ⟨n,hn,hr⟩:=hpa
    rcases join_mem.1 hp with e | e
    ·exact hA.acyc p e ⟨n,hn,(reach_stay hnd hAA hA.needs (hA.needs p e n hn) hr).2⟩
    ·exact hB.acyc p e.1 ⟨n,hn,(reach_stay hnd hBA hB.needs (hB.needs p e.1 n hn) hr).2⟩
theorem plain_clashes:Plain Tryd.prog 50:=⟨_,Tryd.func50,by decide +kernel,by rfl⟩
theorem plain_joined:Plain Tryd.prog 51:=⟨_,Tryd.func51,by decide +kernel,by rfl⟩
theorem plain_xPull:Plain Tryd.prog 29:=⟨_,Tryd.func29,by decide +kernel,by rfl⟩
theorem fdS_find (l:List PD3) (n:Nat):findS (l.map PD3.p) n=(fdS l (n:Int)).map PD3.p:=by
 unfold findS
 exact fdS_map l n
def joinX (l m:List PD3):List PD3:=m.foldl (fun u y=>if (fdS l (y.p.id:Int)).isSome=true then u else withX y u) l
theorem joinX_snoc (l m:List PD3) (y:PD3):joinX l (m++[y])=if (fdS l (y.p.id:Int)).isSome=true then joinX l m else withX y (joinX l m):=by
 unfold joinX;rw [List.foldl_append];rfl
theorem joinX_len (l:List PD3):∀ (m u:List PD3),(m.foldl (fun u y=>if (fdS l (y.p.id:Int)).isSome=true then u else withX y u) u).length≤u.length+m.length:=by
 intro m
 induction m with
 | nil=>intro u;simp
 | cons p m ih =>
  intro u
  rw [List.foldl_cons]
  have:=ih (if (fdS l (p.p.id:Int)).isSome=true then u else withX p u)
  have h2:(if (fdS l (p.p.id:Int)).isSome=true then u else withX p u).length≤u.length+1:=by split;omega;rw [withX_length];omega
  simp only [List.length_cons];omega
theorem joinX_eq (l:List PD3):∀ (m u:List PD3),(m.map fun y=>y.p.id).Nodup→((u.map PD3.p).map PatchD.id).Nodup→(∀ y∈m,fdS l (y.p.id:Int)=none→y.p.id∉(u.map PD3.p).map PatchD.id) →
  (m.foldl (fun u y=>if (fdS l (y.p.id:Int)).isSome=true then u else withX y u) u).map PD3.p=(m.map PD3.p).foldl (fun u p=>if (findS (l.map PD3.p) p.id).isSome=true then u else withS p u) (u.map PD3.p):=by
 intro m
 induction m with
 | nil=>intro u _ _ _;rfl
 | cons y m ih =>
  intro u hm hu hd
  simp only [List.map_cons,List.nodup_cons] at hm
  rw [List.foldl_cons,List.map_cons,List.foldl_cons,fdS_find]
  cases h:fdS l (y.p.id:Int) with
  | some o =>
   simp only [Option.isSome_some,Option.map_some,if_true]
   exact ih u hm.2 hu fun q hq=>hd q (List.mem_cons_of_mem _ hq)
  | none =>
   simp only [Option.isSome_none,Option.map_none,Bool.false_eq_true,if_false]
   have hny:=hd y (by simp) h
   rw [← withX_eq y u hny]
   refine ih _ hm.2 (by rw [withX_eq y u hny];exact withS_ids hu hny) fun q hq hqn hmem=>?_
   rw [withX_eq y u hny] at hmem
   obtain ⟨x,hx,e⟩:=List.mem_map.1 hmem
   rcases withS_mem.1 hx with e' | e'
   ·subst e';exact hm.1 (List.mem_map.2 ⟨q,hq,e.symm⟩)
   ·exact hd q (List.mem_cons_of_mem _ hq) hqn (List.mem_map.2 ⟨x,e',e⟩)
theorem joinX_map {l m:List PD3} (hl:((l.map PD3.p).map PatchD.id).Nodup) (hm:((m.map PD3.p).map PatchD.id).Nodup):(joinX l m).map PD3.p=joinS (l.map PD3.p) (m.map PD3.p):=by
 refine joinX_eq l m l (by simpa [List.map_map,Function.comp_def] using hm) hl fun y hy h=>?_
 have:=fdS_find l y.p.id
 rw [h] at this
 exact findS_none.1 this
theorem clashes_ret {T:Heap→Prop} (hI:ItoaOK T) {F:Nat→Prop} (xb:Nat) (l m:List PD3) (lv mv:Value) (h:Heap) (ht:T h) (hb:Blk h xb [lv] 65) (hs:XS F h lv l) (hm:XS F h mv m) (hinv:Inv (l.map PD3.p)) (hinm:Inv (m.map PD3.p)) :
  Ret Tryd.prog 50 #[.pointer (some ⟨xb,0,none⟩),mv] h fun v h'=>Ext h h'∧v = .bool (clashS (l.map PD3.p) (m.map PD3.p)):=by
 refine Ret.of_body Tryd.func50 rfl Tryd.ntmps50 rfl rfl ?_
 obtain ⟨ad,cap,hv⟩:=hs.rd.form
 obtain ⟨adm,capm,hvm⟩:=hm.rd.form
 subst hv hvm
 have x0:=hb.cell (j:=0) rfl
 have hll:l.length≤1000:=by have:=hinv.len;simp at this;omega
 have hml:m.length≤1000:=by have:=hinm.len;simp at this;omega
 refine zgo ?_
 refine Runs.loop (X:=Nat) (fun i=>[(0,.pointer (some ⟨xb,0,none⟩)),(1,.slice adm m.length capm),(5,.int .i64 (i:Int))])
  (fun i h'=>Ext h h'∧i≤m.length∧∀ y∈m.take i,clash1 (l.map PD3.p) y.p=false) (fun i=>m.length-i) 0 ⟨rfl,rfl,rfl,trivial⟩ ⟨Fr.refl _ _,Nat.zero_le _,by simp⟩ ?_
 rintro i h1 ⟨hx1,hi,hall⟩ ih
 refine zgo ?_
 refine Runs.cond_dec rfl (fun hlt=>?_) (fun hge=>?_)
 rotate_left
 ·rw [List.take_of_length_le (by omega)] at hall
  refine zgo ?_
  refine Runs.ret Tryd.func50 (ret1 Tryd.results50 rfl) ⟨hx1,?_⟩
  congr 1;symm
  unfold clashS
  rw [List.any_map,List.any_eq_false]
  intro y hy;simp [hall y hy]
 have hlt':i<m.length:=by omega
 have hget:m[i]? = some m[i]:=List.getElem?_eq_getElem hlt'
 have hmem:m[i]∈m:=List.getElem_mem hlt'
 have hsn:m.take (i+1)=m.take i++[m[i]]:=List.take_succ_eq_append_getElem hlt'
 generalize m[i]=y at *
 have hypm:y.p∈m.map PD3.p:=List.mem_map.2 ⟨y,hmem,rfl⟩
 have next:clash1 (l.map PD3.p) y.p=false→∀ z∈m.take (i+1),clash1 (l.map PD3.p) z.p=false:=fun hc z hz=>by
  rw [hsn] at hz
  rcases List.mem_append.1 hz with e | e
  ·exact hall z e
  ·simp at e;subst e;exact hc
 obtain ⟨b0,p0,cap0,hv0,hyc,hyv⟩:=(hm.ext hx1).get hget
 cases hv0
 have y0:cellAt h1 b0 (p0+i*3+0)=some (.int .i64 (y.p.id:Int)):=hyc.head
 have x1:=hx1.xc x0
 have hs1:=hs.ext hx1
 have hfe:=fdS_find l y.p.id
 refine zgo ?_
 refine Runs.joinK (fun env' h'=>∃ u0 u1 u2 r vb,Sub [(0,.pointer (some ⟨xb,0,none⟩)),(1,.slice (some ⟨b0,p0,none⟩) m.length capm),(5,.int .i64 (i:Int)),(6,.pointer (some ⟨vb,0,none⟩)),(7,.bool r)] env'∧Ext h1 h'∧Blk h' vb [u0,u1,u2] 68∧foundU l (y.p.id:Int) u0 u1 u2 r) (fun _ hJ=>?_) ?_
 ·refine Runs.drawn (m:=16) (fun h'=>Ext h1 h') (fun _=>false) mixed rfl ?_
  refine zp 0 (Fr.refl _ _) ?_
  refine zp 1 (Fr.refl _ _) ?_
  refine zp 2 (Fr.refl _ _) ?_
  refine zl 3 (fun _ hS=>(Fr.xc hS x1)) (Fr.refl _ _) ?_
  refine zp 4 (Fr.refl _ _) ?_
  refine zp 5 (Fr.refl _ _) ?_
  refine WF.take 6 rfl (fun _ _=>ov_indexAddr tab_ok rfl rfl rfl rfl rfl rfl (by omega)) (Fr.refl _ _) rfl rfl rfl (by kernel_rfl) ?_
  refine zp 7 (Fr.refl _ _) ?_
  refine zl 8 (fun _ hS=>(Fr.xc hS y0)) (Fr.refl _ _) ?_
  refine WF.two 9 13 (by kernel_rfl) ?_ ?_
  ·refine WFI.call 9 rfl rfl rfl rfl rfl plain_Find rfl (Find_ret l _ (y.p.id:Int) _ hs1 hll) fun v2 h2 ⟨hx2,hf2⟩=>⟨.inr hx2,?_⟩
   obtain ⟨u0,u1,u2,r,hv2,hone,hU⟩:=found_form hs1 hf2
   subst hv2
   refine zp 10 hx2 ?_
   refine zp 11 hx2 ?_
   refine zp 12 hx2 ?_
   refine WF.var 13 14 tab_ok (by kernel_rfl) (by kernel_rfl) rfl rfl rfl rfl rfl rfl rfl rfl rfl rfl rfl rfl (by simp) rfl rfl hone rfl (fun h' hx'=>hx2.trans hx') fun h3 hb3 hx3 hs3=>?_
   have hx23:=hx2.trans hx3
   refine zp 15 hx23 ?_
   refine WF.done (by kernel_rfl) ?_
   exact hJ _ _ ⟨u0,u1,u2,r,_,⟨rfl,rfl,rfl,rfl,rfl,trivial⟩,hx23,hb3,hU⟩
  ·refine WFI.alloc 13 tab_ok rfl rfl rfl rfl rfl rfl rfl (fun _ e=>e) fun h2 hb2 hx2 hs2=>?_
   refine WF.call 9 (by kernel_rfl) rfl rfl rfl rfl rfl plain_Find rfl (Find_ret l _ (y.p.id:Int) _ (hs1.ext hx2) hll) fun v3 h3 ⟨hx3,hf3⟩=>⟨.inr (hx2.trans hx3),?_⟩
   obtain ⟨u0,u1,u2,r,hv3,hone,hU⟩:=found_form hs1 hf3
   subst hv3
   have hx23:=hx2.trans hx3
   refine zp 10 hx23 ?_
   refine zp 11 hx23 ?_
   refine zp 12 hx23 ?_
   refine WF.putS 14 tab_ok (by kernel_rfl) rfl rfl rfl rfl rfl rfl rfl rfl rfl hone (hb2.ext hx3) rfl (fun h' hf'=>Fr.wr hx23 hf' (Nat.le_refl _)) fun h4 hb4 hx4 hs4=>?_
   have hx24:Ext h1 h4:=Fr.wr hx23 hx4 (Nat.le_refl _)
   refine zp 15 hx24 ?_
   refine WF.done (by kernel_rfl) ?_
   exact hJ _ _ ⟨u0,u1,u2,r,_,⟨rfl,rfl,rfl,rfl,rfl,trivial⟩,hx24,hb4,hU⟩
 rintro env' h2 ⟨u0,u1,u2,r,vb,hsub,hx2,hb2,hU⟩
 refine Runs.sub hsub ?_
 clear hsub env'
 have hx02:=hx1.trans hx2
 have hR:Ext h2 h2:=Fr.refl _ _
 rcases hU with ⟨rfl,o,hfd,hom,hus⟩ | ⟨rfl,hfd⟩
 ·rw [hus] at hb2
  have k3:Cells h2 vb 0 o.cells:=hb2.cells
  have hyc2:=hx2.xcs hyc
  have hopm:o.p∈l.map PD3.p:=List.mem_map.2 ⟨o,hom,rfl⟩
  have hc1:clash1 (l.map PD3.p) y.p = !decide (textS o.p=textS y.p):=by unfold clash1;rw [hfe,hfd];rfl
  refine zgo ?_
  refine Runs.drawn (m:=11) (fun h'=>Ext h2 h') (fun _=>false) mixed rfl ?_
  refine zp 0 hR ?_
  refine zp 1 hR ?_
  refine zL 2 (fun _ hS=>(Fr.xcs hS k3)) hR ?_
  refine zp 4 hR ?_
  refine zp 5 hR ?_
  refine WF.take 6 rfl (fun _ _=>ov_indexAddr tab_ok rfl rfl rfl rfl rfl rfl (by omega)) hR rfl rfl rfl (by kernel_rfl) ?_
  refine zL 7 (fun _ hS=>(Fr.xcs hS hyc2)) hR ?_
  refine WF.call 3 (by kernel_rfl) rfl rfl rfl rfl rfl plain_Write rfl (Write_ret hI o _ (hI.1 _ _ ht hx02) ((hs.pv o hom).ext hx02) (hinv.ok hopm) (hinv.kind hopm)) fun v3 h3 ⟨hx3,hv3⟩=>⟨.inr hx3,?_⟩
  subst hv3
  refine WF.call 8 (by kernel_rfl) rfl rfl rfl rfl rfl plain_Write rfl (Write_ret hI y _ (hI.1 _ _ ht (hx02.trans hx3)) ((hm.pv y hmem).ext (hx02.trans hx3)) (hinm.ok hypm) (hinm.kind hypm)) fun v4 h4 ⟨hx4,hv4⟩=>⟨.inr (hx3.trans hx4),?_⟩
  subst hv4
  have hx24:=hx3.trans hx4
  refine zp 9 hx24 ?_
  refine zp 10 hx24 ?_
  refine WF.done (by kernel_rfl) ?_
  refine Runs.cond_ndec rfl (fun hne=>?_) (fun heq=>?_)
  ·refine zgo ?_
   refine Runs.ret Tryd.func50 (ret1 Tryd.results50 rfl) ⟨hx02.trans hx24,?_⟩
   congr 1;symm
   exact List.any_eq_true.2 ⟨y.p,hypm,by rw [hc1];simp [hne]⟩
  ·refine zgo ?_
   exact ih (i+1) _ _ (by omega) ⟨rfl,rfl,rfl,trivial⟩ ⟨hx02.trans hx24,hlt',next (by rw [hc1];simp [heq])⟩
 ·have hc1:clash1 (l.map PD3.p) y.p=false:=by unfold clash1;rw [hfe,hfd];rfl
  refine zgo ?_
  refine Runs.drawn (m:=11) (fun h'=>Ext h2 h') (fun _=>false) mixed rfl ?_
  refine zp 0 hR ?_
  refine zp 1 hR ?_
  refine zq 2 hR ?_
  refine zq 3 hR ?_
  refine zq 4 hR ?_
  refine zq 5 hR ?_
  refine zq 6 hR ?_
  refine zq 7 hR ?_
  refine zq 8 hR ?_
  refine zq 9 hR ?_
  refine zp 10 hR ?_
  refine WF.done (by kernel_rfl) ?_
  refine zgo ?_
  exact ih (i+1) _ _ (by omega) ⟨rfl,rfl,rfl,trivial⟩ ⟨hx02,hlt',next hc1⟩
structure JNX where
 (i:Nat) (v:Value)
theorem joined_ret {F:Nat→Prop} (xb:Nat) (l m:List PD3) (lv mv:Value) (h:Heap) (hb:Blk h xb [lv] 65) (hs:XS F h lv l) (hm:XS F h mv m) (hll:l.length≤20) (hml:m.length≤20) :
  Ret Tryd.prog 51 #[.pointer (some ⟨xb,0,none⟩),mv] h fun v h'=>Ext h h'∧XS (fun k=>F k∨New h h' k) h' v (joinX l m):=by
 refine Ret.of_body Tryd.func51 rfl Tryd.ntmps51 rfl rfl ?_
 obtain ⟨ad,cap,hv⟩:=hs.rd.form
 obtain ⟨adm,capm,hvm⟩:=hm.rd.form
 subst hv hvm
 have x0:=hb.cell (j:=0) rfl
 refine zgo ?_
 refine Runs.loop (X:=JNX) (fun u=>[(0,.pointer (some ⟨xb,0,none⟩)),(1,.slice adm m.length capm),(5,u.v),(6,.int .i64 (u.i:Int))])
  (fun u h'=>Ext h h'∧u.i≤m.length∧XS (fun k=>F k∨New h h' k) h' u.v (joinX l (m.take u.i))) (fun u=>m.length-u.i) ⟨0,.slice ad l.length cap⟩ ⟨rfl,rfl,rfl,rfl,trivial⟩ ⟨Fr.refl _ _,Nat.zero_le _,hs.mono fun _ e=>.inl e⟩ ?_
 rintro ⟨i,v⟩ h1 ⟨hx1,hi,hv1⟩ ih
 dsimp only at hx1 hi hv1 ih ⊢
 have hjl:=joinX_len l (m.take i) l
 have hjl2:(joinX l (m.take i)).length≤40:=by
  have:(m.take i).length≤20:=by simp;omega
  unfold joinX;omega
 refine zgo ?_
 refine Runs.cond_dec rfl (fun hlt=>?_) (fun hge=>?_)
 rotate_left
 ·rw [List.take_of_length_le (by omega)] at hv1
  refine zgo ?_
  exact Runs.ret Tryd.func51 (ret1 Tryd.results51 rfl) ⟨hx1,hv1⟩
 have hlt':i<m.length:=by omega
 have hget:m[i]? = some m[i]:=List.getElem?_eq_getElem hlt'
 have hmem:m[i]∈m:=List.getElem_mem hlt'
 have hsn:=joinX_snoc l (m.take i) m[i]
 rw [← List.take_succ_eq_append_getElem hlt'] at hsn
 generalize m[i]=y at *
 obtain ⟨b0,p0,cap0,hv0,hyc,hyv⟩:=(hm.ext hx1).get hget
 cases hv0
 have y0:cellAt h1 b0 (p0+i*3+0)=some (.int .i64 (y.p.id:Int)):=hyc.head
 have x1:=hx1.xc x0
 have hs1:=hs.ext hx1
 refine zgo ?_
 refine Runs.joinK (fun env' h'=>∃ r,Sub [(0,.pointer (some ⟨xb,0,none⟩)),(1,.slice (some ⟨b0,p0,none⟩) m.length capm),(5,v),(6,.int .i64 (i:Int)),(8,.bool r)] env'∧Ext h1 h'∧r=(fdS l (y.p.id:Int)).isSome) (fun _ hJ=>?_) ?_
 ·have fin:∀ u0 u1 u2 r,foundU l (y.p.id:Int) u0 u1 u2 r→r=(fdS l (y.p.id:Int)).isSome:=fun u0 u1 u2 r hU=>by
   rcases hU with ⟨rfl,o,hfd,_⟩ | ⟨rfl,hfd⟩<;>rw [hfd]<;>rfl
  refine Runs.drawn (m:=16) (fun h'=>Ext h1 h') (fun _=>false) mixed rfl ?_
  refine zp 0 (Fr.refl _ _) ?_
  refine zp 1 (Fr.refl _ _) ?_
  refine zp 2 (Fr.refl _ _) ?_
  refine zl 3 (fun _ hS=>(Fr.xc hS x1)) (Fr.refl _ _) ?_
  refine zp 4 (Fr.refl _ _) ?_
  refine zp 5 (Fr.refl _ _) ?_
  refine WF.take 6 rfl (fun _ _=>ov_indexAddr tab_ok rfl rfl rfl rfl rfl rfl (by omega)) (Fr.refl _ _) rfl rfl rfl (by kernel_rfl) ?_
  refine zp 7 (Fr.refl _ _) ?_
  refine zl 8 (fun _ hS=>(Fr.xc hS y0)) (Fr.refl _ _) ?_
  refine WF.two 9 13 (by kernel_rfl) ?_ ?_
  ·refine WFI.call 9 rfl rfl rfl rfl rfl plain_Find rfl (Find_ret l _ (y.p.id:Int) _ hs1 (by omega)) fun v2 h2 ⟨hx2,hf2⟩=>⟨.inr hx2,?_⟩
   obtain ⟨u0,u1,u2,r,hv2,hone,hU⟩:=found_form hs1 hf2
   subst hv2
   refine zp 10 hx2 ?_
   refine zp 11 hx2 ?_
   refine zp 12 hx2 ?_
   refine WF.var 13 14 tab_ok (by kernel_rfl) (by kernel_rfl) rfl rfl rfl rfl rfl rfl rfl rfl rfl rfl rfl rfl (by simp) rfl rfl hone rfl (fun h' hx'=>hx2.trans hx') fun h3 hb3 hx3 hs3=>?_
   have hx23:=hx2.trans hx3
   refine zp 15 hx23 ?_
   refine WF.done (by kernel_rfl) ?_
   exact hJ _ _ ⟨r,⟨rfl,rfl,rfl,rfl,rfl,trivial⟩,hx23,fin _ _ _ _ hU⟩
  ·refine WFI.alloc 13 tab_ok rfl rfl rfl rfl rfl rfl rfl (fun _ e=>e) fun h2 hb2 hx2 hs2=>?_
   refine WF.call 9 (by kernel_rfl) rfl rfl rfl rfl rfl plain_Find rfl (Find_ret l _ (y.p.id:Int) _ (hs1.ext hx2) (by omega)) fun v3 h3 ⟨hx3,hf3⟩=>⟨.inr (hx2.trans hx3),?_⟩
   obtain ⟨u0,u1,u2,r,hv3,hone,hU⟩:=found_form hs1 hf3
   subst hv3
   have hx23:=hx2.trans hx3
   refine zp 10 hx23 ?_
   refine zp 11 hx23 ?_
   refine zp 12 hx23 ?_
   refine WF.putS 14 tab_ok (by kernel_rfl) rfl rfl rfl rfl rfl rfl rfl rfl rfl hone (hb2.ext hx3) rfl (fun h' hf'=>Fr.wr hx23 hf' (Nat.le_refl _)) fun h4 hb4 hx4 hs4=>?_
   have hx24:Ext h1 h4:=Fr.wr hx23 hx4 (Nat.le_refl _)
   refine zp 15 hx24 ?_
   refine WF.done (by kernel_rfl) ?_
   exact hJ _ _ ⟨r,⟨rfl,rfl,rfl,rfl,rfl,trivial⟩,hx24,fin _ _ _ _ hU⟩
 rintro env' h2 ⟨r,hsub,hx2,hr⟩
 refine Runs.sub hsub ?_
 clear hsub env'
 have hx02:=hx1.trans hx2
 have hv2:XS (fun k=>F k∨New h h2 k) h2 v (joinX l (m.take i)):=(hv1.ext hx2).mono fun k e=>by
  rcases e with e | e
  ·exact .inl e
  ·exact .inr (e.up hx2)
 rw [← hr] at hsn
 cases r
 ·rw [if_neg (by simp)] at hsn
  have hyc2:=hx2.xcs hyc
  refine zgo ?_
  refine WO.call rfl rfl rfl rfl plain_With rfl (With_ret (F:=fun k=>F k∨New h h2 k) (joinX l (m.take i)) v y _ hv2 ((hyv.ext hx2).mono fun _ e=>.inl e) (by omega)) fun v3 h3 ⟨hx3,hs3⟩=>?_
  refine zgo ?_
  refine ih ⟨i+1,v3⟩ _ _ (by dsimp only;omega) ⟨rfl,rfl,rfl,rfl,trivial⟩ ⟨hx02.trans hx3,hlt',?_⟩
  dsimp only
  rw [hsn]
  refine hs3.mono fun k e=>?_
  rcases e with (e | e) | e
  ·exact .inl e
  ·exact .inr (e.up hx3)
  ·exact .inr (e.dn hx02)
 ·rw [if_pos rfl] at hsn
  refine zgo ?_
  exact ih ⟨i+1,v⟩ _ _ (by dsimp only;omega) ⟨rfl,rfl,rfl,rfl,trivial⟩ ⟨hx02,hlt',by dsimp only;rw [hsn];exact hv2⟩
theorem xPull_ret {T:Heap→Prop} (hI:ItoaOK T) {F:Nat→Prop} (xb ob:Nat) (l m:List PD3) (lv mv:Value) (h:Heap) (ht:T h) (hb:Blk h xb [lv] 65) (hob:Blk h ob [mv] 65) (hs:XS F h lv l) (hm:XS F h mv m) (hF:∀ k,F k→k≠xb) (hinv:Inv (l.map PD3.p)) (hinm:Inv (m.map PD3.p)) :
  Ret Tryd.prog 29 #[.pointer (some ⟨xb,0,none⟩),.pointer (some ⟨ob,0,none⟩)] h (AfterX F xb h (pullS (l.map PD3.p) (m.map PD3.p)).2 (pullS (l.map PD3.p) (m.map PD3.p)).1):=by
 refine Ret.of_body Tryd.func29 rfl Tryd.ntmps29 rfl rfl ?_
 have hll:l.length≤20:=by have:=hinv.len;simpa using this
 have hml:m.length≤20:=by have:=hinm.len;simpa using this
 have hlt:=hb.lt
 have o0:=hob.cell (j:=0) rfl
 have same:∀ (e:Nat) (v:Value) (h':Heap),pullS (l.map PD3.p) (m.map PD3.p)=(e,l.map PD3.p)→v = .int .i64 (e:Int)→Ext h h'→AfterX F xb h (pullS (l.map PD3.p) (m.map PD3.p)).2 (pullS (l.map PD3.p) (m.map PD3.p)).1 v h':=fun e v h' ha hv hx=>by
  rw [ha]
  exact ⟨hx.up,hv,lv,l,hb.ext hx,(hs.ext hx).mono fun _ e=>.inl e,rfl⟩
 refine zgo ?_
 refine WO.call rfl rfl rfl rfl plain_clashes rfl (clashes_ret hI xb l m lv mv _ ht hb hs hm hinv hinm) fun v1 h1 ⟨hx1,hv1⟩=>?_
 subst hv1
 cases hC:clashS (l.map PD3.p) (m.map PD3.p)
 rotate_left
 ·refine zgo ?_
  exact Runs.ret Tryd.func29 (ret1 Tryd.results29 rfl) (same 4 _ _ (by unfold pullS;rw [if_pos hC]) rfl hx1)
 have o1:=hx1.xc o0
 refine zgo ?_
 refine WO.call rfl rfl rfl rfl plain_joined rfl (joined_ret xb l m lv mv _ (hb.ext hx1) (hs.ext hx1) (hm.ext hx1) hll hml) fun v2 h2 ⟨hx2,hs2⟩=>?_
 have hx02:=hx1.trans hx2
 have hmap:=joinX_map hinv.nodup hinm.nodup
 have hjl:=joinX_len l m l
 have hjl2:(joinX l m).length≤40:=by unfold joinX;omega
 have hlen:(joinX l m).length=(joinS (l.map PD3.p) (m.map PD3.p)).length:=by rw [← hmap,List.length_map]
 have hown:ownsX (joinX l m)=(linesS (joinS (l.map PD3.p) (m.map PD3.p))).length:=by rw [← hmap,linesS_length]
 refine zgo ?_
 refine WO.call rfl rfl rfl rfl plain_fits rfl (fits_ret (joinX l m) v2 _ hs2 (by omega) (fun y hy=>?_)) fun v3 h3 ⟨hx3,hv3⟩=>?_
 ·have hym:y.p∈joinS (l.map PD3.p) (m.map PD3.p):=by rw [← hmap];exact List.mem_map.2 ⟨y,hy,rfl⟩
  rcases join_mem.1 hym with e | e
  ·have:=(hinv.ok e).len;omega
  ·have:=(hinm.ok e.1).len;omega
 subst hv3
 rw [hlen,hown]
 have hx03:=hx02.trans hx3
 cases hFt:decide ((joinS (l.map PD3.p) (m.map PD3.p)).length≤20)&&decide ((linesS (joinS (l.map PD3.p) (m.map PD3.p))).length≤90)
 ·have hbad:20<(joinS (l.map PD3.p) (m.map PD3.p)).length∨90<(linesS (joinS (l.map PD3.p) (m.map PD3.p))).length:=by
   simp only [Bool.and_eq_false_iff,decide_eq_false_iff_not] at hFt
   omega
  refine zgo ?_
  exact Runs.ret Tryd.func29 (ret1 Tryd.results29 rfl) (same 7 _ _ (by unfold pullS;rw [if_neg (by rw [hC];simp),if_pos hbad]) rfl hx03)
 have hgood:¬ (20<(joinS (l.map PD3.p) (m.map PD3.p)).length∨90<(linesS (joinS (l.map PD3.p) (m.map PD3.p))).length):=by
  simp only [Bool.and_eq_true,decide_eq_true_eq] at hFt
  omega
 have hp0:pullS (l.map PD3.p) (m.map PD3.p)=(0,joinS (l.map PD3.p) (m.map PD3.p)):=by unfold pullS;rw [if_neg (by rw [hC];simp),if_neg hgood]
 have hb3:=hb.ext hx03
 obtain ⟨ad2,cap2,hv2⟩:=hs2.rd.form
 subst hv2
 refine zgo ?_
 refine WO.put tab_ok rfl rfl rfl rfl rfl rfl rfl rfl (one_slice _ _ _) hb3 rfl fun h4 hb4 hx4 hs4=>?_
 refine zgo ?_
 refine Runs.ret Tryd.func29 (ret1 Tryd.results29 rfl) ?_
 rw [hp0]
 have hz:=hx1.size
 refine ⟨hx03.up.trans hx4,rfl,_,joinX l m,hb4,?_,hmap⟩
 refine ((hs2.ext hx3).fr hx4 fun k hk e=>?_).mono fun k e=>?_
 ·rcases hk with hk | hk
  ·exact hF k hk e
  ·have:=hk.1;omega
 ·rcases e with e | e
  ·exact .inl e
  ·exact .inr (((e.dn hx1).up hx3).up hx4)
structure MPX where
 (i ub:Nat) (ubs:List Nat)
end Go.Proofs.YtlaffgagmncgjabDoor
