import Derived.Test.YtlaffgagmncgjabDoorT21
namespace Go.Proofs.YtlaffgagmncgjabDoor
open Go Go.Pat Go.Proofs
theorem MG.ext {h h':Heap} {b sb:Nat} {al:List LineD} {ld:List (List Bool)} {fx:List Bool} {bl:List Int} (x:MG h b sb al ld fx bl) (f:Ext h h'):MG h' b sb al ld fx bl:=by
 obtain ⟨alv,ldv,fxv,blv,hc,h1,h2,h3,h4⟩:=x.out
 exact ⟨⟨alv,ldv,fxv,blv,f.xcs hc,h1.ext f,h2.ext f,h3.ext f,h4.ext f⟩,x.sq,x.fxl,x.bll⟩
def bndS (ld:List (List Bool)) (bl:List Int) (a b:Nat):Bool:=decide (bl.getD a 0=bl.getD b 0)&&(getB ld a b||getB ld b a)
def Conn (n:Nat) (ld:List (List Bool)) (bl:List Int) (i k:Nat):Prop:=∀ S:Nat→Prop,S i→(∀ a b:Nat,S a→b<n→bndS ld bl a b=true→S b)→S k
theorem Conn.refl {n:Nat} {ld:List (List Bool)} {bl:List Int} {i:Nat}:Conn n ld bl i i:=fun _ h _=>h
theorem Conn.step {n:Nat} {ld:List (List Bool)} {bl:List Int} {i a b:Nat} (h1:Conn n ld bl i a) (h2:b<n) (h3:bndS ld bl a b=true):Conn n ld bl i b:=fun S r s=>s a b (h1 S r s) h2 h3
structure IsStrand (n:Nat) (ld:List (List Bool)) (bl:List Int) (i r:Nat):Prop where
 conn:Conn n ld bl i r
 least:∀ k,Conn n ld bl i k→r≤k
def falses:List Bool→Nat
 | []=>0
 | b::l=>(if b then 0 else 1)+falses l
theorem falses_set:∀ {l:List Bool} {b:Nat},l[b]? = some false→falses (l.set b true)<falses l
 | [],b,h=>by simp at h
 | x::l,0,h=>by simp at h;subst h;simp [falses]
 | x::l,b+1,h=>by
  simp at h
  have:=falses_set (l:=l) h
  simp [falses];exact this
def clo (n:Nat) (ld:List (List Bool)) (bl:List Int) (l:List Bool) (a:Nat):Prop:=∀ b,b<n→l[a]? = some true→bndS ld bl a b=true→l[b]? = some true
theorem clo_all {n:Nat} {ld:List (List Bool)} {bl:List Int} {l:List Bool} {i:Nat} (hc:∀ a<n,clo n ld bl l a) (hl:l.length=n) (hi:l[i]? = some true) {k:Nat} (h:Conn n ld bl i k):l[k]? = some true:=by
 refine h (fun k=>l[k]? = some true) hi fun a b ih hb hbd=>?_
 have:=(List.getElem?_eq_some_iff.1 ih).1
 exact hc _ (by omega) _ hb ih hbd
structure MX where
 (l:List Bool) (more:Bool)
structure MAX where
 (a:Nat) (l:List Bool) (more:Bool)
theorem MG.bl {h:Heap} {b sb:Nat} {al:List LineD} {ld:List (List Bool)} {fx:List Bool} {bl:List Int} (x:MG h b sb al ld fx bl) {j:Nat} (hj:j<al.length):bl[j]? = some (bl.getD j 0):=by
 rw [List.getD_eq_getElem?_getD,List.getElem?_eq_getElem (by rw [x.bll];exact hj)];rfl
theorem intsI_get {l:List Int} {i:Nat} {x:Int} (h:l[i]? = some x):(intsI l)[i]? = some (.int .i64 x):=by simp [intsI,h]
end Go.Proofs.YtlaffgagmncgjabDoor
