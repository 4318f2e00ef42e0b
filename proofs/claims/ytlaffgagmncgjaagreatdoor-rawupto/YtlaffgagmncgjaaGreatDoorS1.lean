import Derived.Test.YtlaffgagmncgjaaGreatDoorRdr
import Derived.Test.YtlaffgagmncgjaaGreatDoorT11
import Derived.Test.YtlaffgagmncgjaaGreatDoorP8
import Derived.Test.YtlaffgagmncgjaaGreatDoorT24
import Derived.Test.YtlaffgagmncgjaaGreatDoorT13
namespace Go.Proofs.YtlaffgagmncgjaaGreatDoor
open Tryz Go Go.Pat Go.Proofs
theorem numAcc_dec:∀ {r:List UInt8} {acc n:Nat},0<acc→numAcc acc r=some n→decS n=decS acc++r:=by
 intro r
 induction r with
 | nil=>intro acc n _ h;simp [numAcc] at h;subst h;simp
 | cons c r ih =>
  intro acc n ha h
  unfold numAcc at h
  split at h
  ·cases h
  ·rename_i hc
   have:=ih (by omega) h
   rw [this,decS_big (n:=10*acc+(c.toNat-48)) (by omega)]
   have e1:(10*acc+(c.toNat-48)) / 10=acc:=by omega
   have e2:48+(10*acc+(c.toNat-48)) % 10=c.toNat:=by omega
   rw [e1,e2]
   simp
theorem number_dec {w:List UInt8} {n:Nat} (h:numberS w=some n):decS n=w:=by
 unfold numberS at h
 split at h
 ·cases h
 ·rename_i hw
  cases w with
  | nil=>simp at hw
  | cons c r =>
   unfold numAcc at h
   split at h
   ·cases h
   ·rename_i hc
    have hd:decS (10*0+(c.toNat-48))=[c]:=by
     rw [decS_small (by omega)]
     have:48+(10*0+(c.toNat-48))=c.toNat:=by omega
     rw [this];simp
    cases r with
    | nil=>simp [numAcc] at h;subst h;simpa using hd
    | cons c2 r2 =>
     have hne:c≠48:=fun e=>by subst e;simp at hw
     have hpos:0<10*0+(c.toNat-48):=by
      have:c.toNat≠48:=fun e=>hne (by
       have h2:=congrArg UInt8.ofNat e
       simpa using h2)
      omega
     rw [numAcc_dec hpos h,hd];rfl
theorem name_dec {w:List UInt8} {n:Nat} (h:nameS w=some n):decS n=w:=by
 unfold nameS at h
 split at h
 ·rename_i m hm
  split at h
  ·cases h
  ·cases h;exact number_dec hm
 ·cases h
theorem line_ref {w edge:List UInt8} {r:RefD} (he:edge=[]∨edge=[94]∨edge=[36]) (h:lineS w edge=some r):refS r=w:=by
 unfold lineS at h
 split at h
 ·rename_i hw
  obtain ⟨h1,h2⟩:=hw
  subst h2
  rcases he with e | e | e
  ·exact absurd e h1
  ·subst e;simp at h;subst h;rfl
  ·subst e;simp at h;subst h;rfl
 ·split at h
  ·rename_i a b hs
   split at h
   ·rename_i p i ha hb
    split at h
    ·rename_i hp
     cases h
     obtain ⟨e,_,_⟩:=splitL_words_inv hs
     unfold refS
     rw [if_pos hp,number_dec ha,number_dec hb,e]
     simp
    ·cases h
   ·cases h
  ·cases h
theorem change_text {s:List UInt8} {c:ChangeD} (h:changeS s=some c):chS c=s++[10]:=by
 unfold changeS at h
 split at h
 ·rename_i w0 ws hs
  obtain ⟨e,hq1,hq0⟩:=splitL_words_inv hs
  clear hq0 hq1
  split at h
  ·rename_i hw
   split at h
   ·rename_i w1 w2 r
    split at h
    ·rename_i up down h1 h2
     split at h
     ·cases h
      have e1:=line_ref (.inr (.inl rfl)) h1
      have e2:=line_ref (.inr (.inr rfl)) h2
      obtain ⟨hw0,hlen⟩:=hw
      cases r with
      | nil=>simp at hlen
      | cons x xs =>
       have hs':s=([97,100,100]++32::(w1++32::(w2++[32])))++(x++xs.flatMap (32 :: ·)):=by rw [e,hw0];simp
       have hd:s.drop (w0.length+w1.length+w2.length+3)=x++xs.flatMap (32 :: ·):=by
        rw [hs']
        refine List.drop_left' ?_
        rw [hw0];simp;omega
       unfold chS
       dsimp only
       rw [if_pos rfl,e1,e2,hd,hs']
       simp
     ·cases h
    ·cases h
   ·cases h
  ·split at h
   ·rename_i hw
    split at h
    ·rename_i w1
     split at h
     ·rename_i up h1
      cases h
      have e1:=line_ref (.inl rfl) h1
      unfold chS
      dsimp only
      rw [if_neg (by omega),if_pos rfl,e1,e,hw.1]
      simp
     ·cases h
    ·cases h
   ·split at h
    ·rename_i hw
     split at h
     ·rename_i w1 w2
      split at h
      ·rename_i up down h1 h2
       cases h
       have e1:=line_ref (.inl rfl) h1
       have e2:=line_ref (.inl rfl) h2
       unfold chS
       dsimp only
       rw [if_neg (by omega),if_neg (by omega),e1,e2,e,hw.1]
       simp
      ·cases h
     ·cases h
    ·cases h
 ·cases h
theorem allSome_flat {α β:Type} {f:α→Option β} {g:β→List UInt8} {g':α→List UInt8} (hfg:∀ a b,f a=some b→g b=g' a):∀ {l:List α} {bs:List β},allSome f l=some bs→bs.flatMap g=l.flatMap g':=by
 intro l
 induction l with
 | nil=>intro bs h;simp [allSome] at h;subst h;rfl
 | cons a l ih =>
  intro bs h
  cases hb:f a with
  | none=>simp [allSome,hb] at h
  | some b =>
   cases hr:allSome f l with
   | none=>simp [allSome,hb,hr] at h
   | some r =>
    simp [allSome,hb,hr] at h
    subst h
    rw [List.flatMap_cons,List.flatMap_cons,hfg a b hb,ih hr]
theorem parse_text {t:List UInt8} {p:PatchD} (h:parseS t=some p):textS p=t:=by
 unfold parseS at h
 split at h
 ·cases h
 split at h
 ·rename_i l0 l1 rest hs
  split at h
  ·cases h
  ·rename_i hr
   split at h
   ·rename_i h0 h1 hl0
    split at h
    ·rename_i n0 ns hl1
     split at h
     ·cases h
     ·rename_i hw
      split at h
      ·cases h
      ·rename_i id hid
       split at h
       ·cases h
       ·rename_i needs hneeds
        split at h
        ·cases h
        ·rename_i cs hcs
         cases h
         have hw0:h0=[112,97,116,99,104]:=Classical.byContradiction fun e=>hw (.inl e)
         have hwn:n0=[110,101,101,100,115]:=Classical.byContradiction fun e=>hw (.inr (.inl e))
         have hlast:rest.getLast? = some []:=Classical.byContradiction fun e=>hr (.inr (.inl e))
         have hrest:rest=rest.dropLast++[[]]:=by
          have hne:rest≠[]:=fun e=>by rw [e] at hlast;cases hlast
          have:=List.dropLast_concat_getLast hne
          rw [List.getLast?_eq_some_getLast hne] at hlast
          rw [Option.some.inj hlast] at this
          exact this.symm
         rw [hrest] at hs
         have hs2:splitL 10 t=(l0::l1::rest.dropLast)++[[]]:=hs
         obtain ⟨ht,_⟩:=splitL_flat_inv hs2
         obtain ⟨e0,_,_⟩:=splitL_words_inv hl0
         obtain ⟨e1,_,_⟩:=splitL_words_inv hl1
         have hch:cs.flatMap chS=rest.dropLast.flatMap (· ++ [10]):=allSome_flat (fun a b hab=>change_text hab) hcs
         have hnd:needsS needs=ns.flatMap (32 :: ·):=by
          unfold needsS
          exact allSome_flat (g:=fun n=>[32]++decS n) (fun a b hab=>by rw [name_dec hab];rfl) hneeds
         unfold textS headS
         dsimp only
         rw [hch,hnd,name_dec hid,ht,e0,e1,hw0,hwn]
         simp
    ·cases h
   ·cases h
 ·cases h
theorem withS_len (p:PatchD) (ps:List PatchD):(withS p ps).length=ps.length+1:=by
 induction ps with
 | nil=>rfl
 | cons a ps ih=>unfold withS;split<;>simp [ih]
end Go.Proofs.YtlaffgagmncgjaaGreatDoor
