import Derived.Test.YtlaffgagmncgjaaGreatDoorK1
namespace Go.Proofs.YtlaffgagmncgjaaGreatDoor
open Tryz Go Go.Pat Go.Proofs
def kweight (l:List (List UInt8)):Nat:=l.foldr (fun t n=>t.length+n) 0
theorem kweight_append (l m:List (List UInt8)):kweight (l++m)=kweight l+kweight m:=by
 induction l with
 | nil=>simp [kweight]
 | cons a l ih=>simp only [kweight,List.cons_append,List.foldr_cons] at ih ⊢;omega
theorem kweight_mem {l:List (List UInt8)} {t:List UInt8} (h:t∈l):t.length≤kweight l:=by
 induction l with
 | nil=>simp at h
 | cons a l ih =>
  simp only [kweight,List.foldr_cons] at ih ⊢
  rcases List.mem_cons.1 h with e | e
  ·subst e;omega
  ·have:=ih e;omega
def Sto (F:Nat→Prop) (h:Heap) (b:Nat) (ps:List PatchD):Prop:=∃ lv l,Blk h b [lv] 55∧XS F h lv l∧l.map PD3.p=ps∧Set1 ps
theorem Sto.fr {F S:Nat→Prop} {h h':Heap} {b:Nat} {ps:List PatchD} (x:Sto F h b ps) (f:Fr S h h') (hb:¬ S b) (hs:∀ k,F k→¬ S k):Sto F h' b ps:=by
 obtain ⟨lv,l,h1,h2,h3,h4⟩:=x
 exact ⟨lv,l,h1.fr f hb,h2.fr f hs,h3,h4⟩
theorem Sto.ext {F:Nat→Prop} {h h':Heap} {b:Nat} {ps:List PatchD} (x:Sto F h b ps) (f:Ext h h'):Sto F h' b ps:=x.fr f (by simp) (by simp)
theorem Sto.mono {F F':Nat→Prop} {h:Heap} {b:Nat} {ps:List PatchD} (x:Sto F h b ps) (hs:∀ k,F k→F' k):Sto F' h b ps:=by
 obtain ⟨lv,l,h1,h2,h3,h4⟩:=x
 exact ⟨lv,l,h1,h2.mono hs,h3,h4⟩
theorem Sto.set {F:Nat→Prop} {h:Heap} {b:Nat} {ps:List PatchD} (x:Sto F h b ps):Set1 ps:=by obtain ⟨_,_,_,_,_,h4⟩:=x;exact h4
theorem Sto.lt {F:Nat→Prop} {h:Heap} {b:Nat} {ps:List PatchD} (x:Sto F h b ps):b<h.size:=by obtain ⟨_,_,h1,_⟩:=x;exact h1.lt
end Go.Proofs.YtlaffgagmncgjaaGreatDoor
namespace Go.Proofs.YtlaffgagmncgjaaGreatDoor
open Tryz Go Go.Pat Go.Proofs
structure KW (h:Heap) (F:Nat→Prop) (L:List (Nat × List PatchD)):Prop where
 st:∀ x∈L,Sto F h x.1 x.2
 lt:∀ k,F k→k<h.size
 out:∀ x∈L,∀ k,F k→k≠x.1
 nd:(L.map Prod.fst).Nodup
 tab:Tab10 h
 pos:∀ x∈L,x.1≠0
section
variable {h h':Heap} {F:Nat→Prop} {a:Nat} {ps ps':List PatchD} {L:List (Nat × List PatchD)}
theorem KW.ext (w:KW h F L) (f:Ext h h'):KW h' F L:=⟨fun x hx=>(w.st x hx).ext f,fun k hk=>by have:=w.lt k hk;have:=f.size;omega,w.out,w.nd,w.tab.fr f (by simp),w.pos⟩
theorem KW.head (w:KW h F ((a,ps)::L)):Sto F h a ps:=w.st (a,ps) (by simp)
theorem KW.outH (w:KW h F ((a,ps)::L)):∀ k,F k→k≠a:=w.out (a,ps) (by simp)
theorem KW.op (w:KW h F ((a,ps)::L)) (f:Fr (fun k=>k=a) h h') (hs:Sto (fun k=>F k∨New h h' k) h' a ps'):KW h' (fun k=>F k∨New h h' k) ((a,ps')::L):=by
 have hz:=f.size
 have hl:∀ x∈(a,ps)::L,x.1<h.size:=fun x hx=>(w.st x hx).lt
 have hn:=w.nd
 simp only [List.map_cons,List.nodup_cons] at hn
 refine ⟨fun x hx=>?_,fun k hk=>?_,fun x hx k hk=>?_,by simpa using hn,w.tab.fr f (fun e=>w.pos (a,ps) (by simp) e.symm),fun x hx=>?_⟩
 ·rcases List.mem_cons.1 hx with e | e
  ·subst e;exact hs
  ·exact ((w.st x (List.mem_cons_of_mem _ e)).fr f (fun e'=>hn.1 (List.mem_map.2 ⟨x,e,e'⟩)) w.outH).mono fun k e=>.inl e
 ·rcases hk with e | e
  ·have:=w.lt k e;omega
  ·exact e.2
 ·have hx':∃ y∈(a,ps)::L,y.1=x.1:=by
   rcases List.mem_cons.1 hx with e | e
   ·exact ⟨(a,ps),by simp,by rw [e]⟩
   ·exact ⟨x,List.mem_cons_of_mem _ e,rfl⟩
  obtain ⟨y,hy,ey⟩:=hx'
  rcases hk with e | e
  ·rw [← ey];exact w.out y hy k e
  ·have:=hl y hy;have:=e.1;omega
 ·rcases List.mem_cons.1 hx with e | e
  ·subst e;exact w.pos (a,ps) (by simp)
  ·exact w.pos x (List.mem_cons_of_mem _ e)
end
end Go.Proofs.YtlaffgagmncgjaaGreatDoor
namespace Go.Proofs.YtlaffgagmncgjaaGreatDoor
open Tryz Go Go.Pat Go.Proofs
end Go.Proofs.YtlaffgagmncgjaaGreatDoor
namespace Go.Proofs.YtlaffgagmncgjaaGreatDoor
open Tryz Go Go.Pat Go.Proofs
structure Texts (h:Heap) (v:Value) (l:List (List UInt8)):Prop where
 rd:Rd h 1 v l.length (strs l)
 len:l.length≤281474976710656
 each:∀ t∈l,t.length≤281474976710656
theorem Texts.ext {h h':Heap} {v:Value} {l:List (List UInt8)} (x:Texts h v l) (f:Ext h h'):Texts h' v l:=⟨x.rd.ext f,x.len,x.each⟩
end Go.Proofs.YtlaffgagmncgjaaGreatDoor
