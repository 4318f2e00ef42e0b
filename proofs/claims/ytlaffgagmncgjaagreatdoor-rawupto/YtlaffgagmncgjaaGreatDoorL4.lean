import Derived.Test.YtlaffgagmncgjaaGreatDoorL2
import Derived.Test.YtlaffgagmncgjaaGreatDoorMem3
namespace Go.Pat
open Go
section
variable {P:Program} {n:Nat} {env:Env} {h:Heap} {o:Oper} {T:Tab}
end
end Go.Pat
namespace Go.Proofs.YtlaffgagmncgjaaGreatDoor
open Tryz Go Go.Pat Go.Proofs
structure WS1 where
 (S:List SP) (texts file:List (List UInt8)) (sv tv fv iv:Value) (m:Nat) (ivs:List Value) (lv:Value) (ml:Nat) (lvs:List Value)
def SP.cells (s:SP):List Value:=[.pointer (some ⟨s.xb,0,none⟩),.pointer (some ⟨s.mb,0,none⟩)]
theorem SP.one (s:SP):One s.cells:=by intro u hu;simp [SP.cells] at hu;rcases hu with rfl | rfl<;>rfl
def pairC (S:List SP):List Value:=S.flatMap SP.cells
theorem pairC_append (l m:List SP):pairC (l++m)=pairC l++pairC m:=by simp [pairC]
def Fl (h:Heap) (v:Value) (l:List (List UInt8)):Prop:=Rd h 1 v l.length (strs l)∧(Own h 9 1 v l.length (strs l)∨∃ ad,v = .slice ad l.length l.length)∧∀ t∈l,t.length≤1100000
theorem Fl.fr {S:Nat→Prop} {h h':Heap} {v:Value} {l:List (List UInt8)} (x:Fl h v l) (f:Fr S h h') (hs:∀ k,v.ownBlock=some k→¬ S k):Fl h' v l:=by
 refine ⟨x.1.fr f hs,?_,x.2.2⟩
 rcases x.2.1 with e | e
 ·exact .inl (e.fr f hs)
 ·exact .inr e
theorem Fl.nil (h:Heap):Fl h (.slice none 0 0) []:=⟨(Own.nil h 9 1).rd,.inl (Own.nil _ _ _),by simp⟩
def FR (ρ:Nat→Nat) (h:Heap) (k:Nat):Prop:=ρ k=0∧k<h.size
def Role (base:Nat) (ρ:Nat→Nat) (h:Heap) (v:Value) (r:Nat):Prop:=∀ k,v.ownBlock=some k→ρ k=r∧base≤k∧k<h.size
def PairAt (base:Nat) (ρ:Nat→Nat) (h:Heap) (i:Nat) (s:SP):Prop:=PairOK (FR ρ h) h s∧ρ s.xb=10+2*i∧ρ s.mb=11+2*i∧base≤s.xb∧base≤s.mb
def markGo:Nat→Nat→List UInt8→List UInt8
 | 0,_,t=>t
 | f+1,k,t=>if k=0 then t else markGo f (k / 26) (t++[UInt8.ofNat (97+k % 26)])
def markS (k:Nat):List UInt8:=markGo (k+1) k [109,105,110,101]
def Full (base:Nat) (ρ:Nat→Nat) (h:Heap) (e:TypeId) (r:Nat) (x v:Value):Prop:=∃ g cap,v = .slice (some ⟨g,0,none⟩) cap cap∧Blk h g (List.replicate cap x) e∧ρ g=r∧base≤g∧cap≤9223372036854775807
structure Hand (base:Nat) (h:Heap) (ρ:Nat→Nat) (lv:Value) (ml:Nat) (lvs ivs:List Value):Prop where
 l:Own h 25 1 lv ml lvs
 rl:Role base ρ h lv 8
 gl:∀ (k:Nat) (v:Value),lvs[k]? = some v→Full base ρ h 9 6 (.string (str (markS k))) v
 gi:∀ (k:Nat) (v:Value),ivs[k]? = some v→Full base ρ h 3 7 (.int .i64 (-7-(k:Int))) v
theorem Full.keep {base:Nat} {ρ ρ':Nat→Nat} {h h':Heap} {e:TypeId} {r:Nat} {x v:Value} {S:Nat→Prop} (y:Full base ρ h e r x v) (f:Fr S h h') (hS:∀ k,k<h.size→S k→ρ k≠r) (hρ:∀ k,k<h.size→ρ k=r→ρ' k=r):Full base ρ' h' e r x v:=by
 obtain ⟨g,cap,e1,e2,e3,e4,e5⟩:=y
 exact ⟨g,cap,e1,e2.fr f fun s=>hS g e2.lt s e3,hρ g e2.lt e3,e4,e5⟩
structure WI (base:Nat) (h:Heap) (wb:Nat) (ρ:Nat→Nat) (c:Nat) (w:WS1):Prop where
 blk:Blk h wb [w.sv,w.tv,w.fv,w.lv,w.iv] 39
 wr:ρ wb=1
 wbase:base≤wb
 s:Own h 32 2 w.sv w.S.length (pairC w.S)
 rs:Role base ρ h w.sv 2
 t:Own h 9 1 w.tv w.texts.length (strs w.texts)
 rt:Role base ρ h w.tv 3
 f:Fl h w.fv w.file
 rf:Role base ρ h w.fv 4
 i:Own h 69 1 w.iv w.m w.ivs
 ri:Role base ρ h w.iv 5
 p:∀ i s,w.S[i]? = some s→PairAt base ρ h i s
 tab:Tab10 h
 r0:ρ 0=0
 cs:w.S.length≤c
 ct:w.texts.length≤c
 cf:w.file.length≤300+c
 ci:w.m≤c
 tl:∀ t∈w.texts,t.length≤1100000
 g:Hand base h ρ w.lv w.ml w.lvs w.ivs
 cl:w.ml≤c
structure Kept (base:Nat) (h':Heap) (wb:Nat) (ρ':Nat→Nat) (w:WS1) (R:Nat→Prop):Prop where
 blk:¬ R 1→Blk h' wb [w.sv,w.tv,w.fv,w.lv,w.iv] 39
 wr:ρ' wb=1
 s:¬ R 2→Own h' 32 2 w.sv w.S.length (pairC w.S)
 rs:Role base ρ' h' w.sv 2
 t:¬ R 3→Own h' 9 1 w.tv w.texts.length (strs w.texts)
 rt:Role base ρ' h' w.tv 3
 f:¬ R 4→Fl h' w.fv w.file
 rf:Role base ρ' h' w.fv 4
 i:¬ R 5→Own h' 69 1 w.iv w.m w.ivs
 ri:Role base ρ' h' w.iv 5
 p:∀ i s,w.S[i]? = some s→¬ R (10+2*i)→¬ R (11+2*i)→PairAt base ρ' h' i s
 tab:Tab10 h'
 r0:ρ' 0=0
 g:¬ R 6→¬ R 7→¬ R 8→Hand base h' ρ' w.lv w.ml w.lvs w.ivs
theorem Tab10.lt {h:Heap} (x:Tab10 h):0<h.size:=by
 obtain ⟨_,_,hx⟩:=x
 exact (Array.getElem?_eq_some_iff.1 hx).1
theorem WI.keep9 {base:Nat} {h h':Heap} {wb c:Nat} {ρ ρ':Nat→Nat} {w:WS1} (x:WI base h wb ρ c w) {S:Nat→Prop} (f:Fr S h h') (R:Nat→Prop) (hS:∀ k,k<h.size→S k→R (ρ k)) (h0:¬ R 0) (hρ:∀ k,k<h.size→ρ k≠9→ρ' k=ρ k):Kept base h' wb ρ' w R:=by
 have hz:=f.size
 have role:∀ v r,r≠9→Role base ρ h v r→Role base ρ' h' v r:=fun v r h9 hr k hk=>by
  obtain ⟨h1,h2,h3⟩:=hr k hk
  exact ⟨by rw [hρ k h3 (by rw [h1];exact h9)];exact h1,h2,by omega⟩
 have away:∀ v r,Role base ρ h v r→¬ R r→∀ k,v.ownBlock=some k→¬ S k:=fun v r hr hn k hk hs=>by
  obtain ⟨h1,h2,h3⟩:=hr k hk
  exact hn (h1 ▸ hS k h3 hs)
 refine ⟨fun hn=>x.blk.fr f fun hs=>hn (x.wr ▸ hS wb x.blk.lt hs),by rw [hρ wb x.blk.lt (by rw [x.wr];omega)];exact x.wr,fun hn=>x.s.fr f (away _ _ x.rs hn),role _ _ (by omega) x.rs,fun hn=>x.t.fr f (away _ _ x.rt hn),role _ _ (by omega) x.rt,fun hn=>x.f.fr f (away _ _ x.rf hn),role _ _ (by omega) x.rf,fun hn=>x.i.fr f (away _ _ x.ri hn),role _ _ (by omega) x.ri,fun i s hi h1 h2=>?_,?_,?_,fun n6 n7 n8=>⟨x.g.l.fr f (away _ _ x.g.rl n8),role _ _ (by omega) x.g.rl,fun k v hk=>(x.g.gl k v hk).keep f (fun k hk hs e=>n6 (e ▸ hS k hk hs)) (fun k hk e=>by rw [hρ k hk (by omega)];exact e),fun k v hk=>(x.g.gi k v hk).keep f (fun k hk hs e=>n7 (e ▸ hS k hk hs)) (fun k hk e=>by rw [hρ k hk (by omega)];exact e)⟩⟩
 ·obtain ⟨p1,p2,p3,p4,p5⟩:=x.p i s hi
  have lx:=p1.x.lt
  have lm:=p1.m.lt
  refine ⟨(p1.fr f (fun e=>h1 (p2 ▸ hS _ lx e)) (fun e=>h2 (p3 ▸ hS _ lm e)) fun k hk e=>h0 (hk.1 ▸ hS k hk.2 e)).mono fun k hk=>⟨by rw [hρ k hk.2 (by rw [hk.1];omega)];exact hk.1,by have:=hk.2;omega⟩,by rw [hρ _ lx (by omega)];exact p2,by rw [hρ _ lm (by omega)];exact p3,p4,p5⟩
 ·exact x.tab.fr f fun e=>h0 (x.r0 ▸ hS 0 x.tab.lt e)
 ·rw [hρ 0 x.tab.lt (by rw [x.r0];omega)];exact x.r0
theorem WI.keep {base:Nat} {h h':Heap} {wb c:Nat} {ρ ρ':Nat→Nat} {w:WS1} (x:WI base h wb ρ c w) {S:Nat→Prop} (f:Fr S h h') (R:Nat→Prop) (hS:∀ k,k<h.size→S k→R (ρ k)) (h0:¬ R 0) (hρ:∀ k,k<h.size→ρ' k=ρ k):Kept base h' wb ρ' w R:=x.keep9 f R hS h0 fun k hk _=>hρ k hk
def ext (ρ:Nat→Nat) (n r:Nat) (k:Nat):Nat:=if k<n then ρ k else r
theorem ext_lt {ρ:Nat→Nat} {n r k:Nat} (h:k<n):ext ρ n r k=ρ k:=if_pos h
theorem ext_ge {ρ:Nat→Nat} {n r k:Nat} (h:n≤k):ext ρ n r k=r:=if_neg (by omega)
end Go.Proofs.YtlaffgagmncgjaaGreatDoor
namespace Go.Proofs.YtlaffgagmncgjaaGreatDoor
open Tryz Go Go.Pat Go.Proofs
theorem WI.bl {base:Nat} {h:Heap} {wb c:Nat} {ρ:Nat→Nat} {w:WS1} (x:WI base h wb ρ c w):base≤h.size:=by
 have:=x.wbase;have:=x.blk.lt;omega
theorem WI.more {base:Nat} {h:Heap} {wb c c':Nat} {ρ:Nat→Nat} {w:WS1} (x:WI base h wb ρ c w) (hc:c≤c'):WI base h wb ρ c' w :=
 { x with cs:=Nat.le_trans x.cs hc,ct:=Nat.le_trans x.ct hc,cf:=by have:=x.cf;omega,ci:=Nat.le_trans x.ci hc,cl:=Nat.le_trans x.cl hc }
theorem WI.ex {base:Nat} {h h':Heap} {wb c:Nat} {ρ:Nat→Nat} {w:WS1} (x:WI base h wb ρ c w) (f:Ext h h'):WI base h' wb (ext ρ h.size 0) c w:=by
 have k:=x.keep (ρ':=ext ρ h.size 0) f (fun _=>False) (fun _ _ e=>e) (fun e=>e) (fun k hk=>ext_lt hk)
 exact ⟨k.blk (fun e=>e),k.wr,x.wbase,k.s (fun e=>e),k.rs,k.t (fun e=>e),k.rt,k.f (fun e=>e),k.rf,k.i (fun e=>e),k.ri,fun i s hi=>k.p i s hi (fun e=>e) (fun e=>e),k.tab,k.r0,x.cs,x.ct,x.cf,x.ci,x.tl,k.g (fun e=>e) (fun e=>e) (fun e=>e),x.cl⟩
theorem WI.setT {base:Nat} {h h2:Heap} {wb c:Nat} {ρ:Nat→Nat} {w:WS1} (x:WI base h wb ρ c w) {S:Nat→Prop} (f:Fr S h h2) (hS:∀ k,S k→k=wb∨w.tv.ownBlock=some k) {tv':Value} {texts':List (List UInt8)}
  (hb:Blk h2 wb [w.sv,tv',w.fv,w.lv,w.iv] 39) (ht:Own h2 9 1 tv' texts'.length (strs texts')) (hr:Role base (ext ρ h.size 3) h2 tv' 3) (hlen:texts'.length≤c+1) (htl:∀ t∈texts',t.length≤1100000):WI base h2 wb (ext ρ h.size 3) (c+1) { w with tv:=tv',texts:=texts' }:=by
 have k:=x.keep (ρ':=ext ρ h.size 3) f (fun r=>r=1∨r=3) (fun k _ e=>by
  rcases hS k e with e | e
  ·subst e;exact .inl x.wr
  ·exact .inr (x.rt k e).1) (by simp) (fun k hk=>ext_lt hk)
 exact ⟨hb,k.wr,x.wbase,k.s (by simp),k.rs,ht,hr,k.f (by simp),k.rf,k.i (by simp),k.ri,fun i s hi=>k.p i s hi (by omega) (by omega),k.tab,k.r0,by have:=x.cs;dsimp only;omega,hlen,by have:=x.cf;dsimp only;omega,by have:=x.ci;dsimp only;omega,htl,k.g (by simp) (by simp) (by simp),by have:=x.cl;dsimp only;omega⟩
end Go.Proofs.YtlaffgagmncgjaaGreatDoor
