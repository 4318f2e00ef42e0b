import Derived.Test.YtlaffgagmncgjaaGreatDoorL2
import Derived.Test.YtlaffgagmncgjaaGreatDoorMem3
set_option maxRecDepth 20000
set_option maxHeartbeats 3200000
namespace Go.Pat
open Go
section
variable {P:Program} {n:Nat} {env:Env} {h:Heap} {o:Oper} {T:Tab}
theorem ox_append_fl {s x:Operand} {t e:TypeId} {xv:Value} {ad:Option Addr} {N m:Nat} {xs news:List Value} {i:TI} {sz by_:Nat} {z:Value} {K:Value→Heap→Prop} (hT:T.ok P)
  (ho:o.op = .call { callee:=.builtin .append,args:=#[s,x],argTypes:=#[t,t] }) (hs:env.ev? s=some (.slice ad N N)) (hx:env.ev? x=some xv)
  (ht:T.get? t=some ⟨sz,by_,z,.slice e⟩) (he:T.get? e=some i) (hz:i.zero.cells.size=i.size) (hsz:Nat.blt 0 i.size=true)
  (hbase:Rd h i.size (.slice ad N N) N xs) (hr:Rd h i.size xv m news) (h1:One news) (hb:(N+m)*(i.bytes+1)≤140737488355328)
  (hk:∀ v' h',Rd h' i.size v' (N+m) (xs++news)→Ext h h'→((m=0∧v' = .slice ad N N)∨(Own h' e i.size v' (N+m) (xs++news)∧v'.ownBlock=some h.size))→K v' h'):OpEx P n env o h K:=by
 rcases Nat.eq_zero_or_pos m with hm | hm
 ·subst hm
  have hnil:news=[]:=by have:=hr.1;simp at this;exact this
  subst hnil
  refine (ov_append_none hT ho hs hx ht he hr (Nat.le_refl _)).ex (hk _ _ ?_ (Fr.refl _ _) (.inl ⟨rfl,rfl⟩))
  simpa using hbase
 ·rcases hbase.2 with ⟨e1,e2⟩ | ⟨b,p,cap,e1,e2,e3⟩
  ·cases e1
   have hnil:xs=[]:=by have:=hbase.1;simp at this;exact this
   subst hnil
   refine ox_append hT ho hs hx ht he hz hsz (Own.nil h e i.size) hr h1 hb fun v' h' q1 q2 q3=>hk v' h' q1.rd ?_ (.inr ⟨q1,?_⟩)
   ·exact q2.mono fun k _ e=>by simp [Value.ownBlock] at e
   ·rcases q3 with q3 | q3
    ·rcases q1.2 with ⟨_,e⟩ | ⟨g,c,cur,e,_⟩
     ·omega
     ·subst e;simp [Value.ownBlock] at q3
    ·exact q3
  ·cases e1
   exact ox_append_full hT ho hs hx ht he hz hbase.1 e3 hr hm hb fun v' h' q1 q2 q3=>hk v' h' q1.rd q2 (.inr ⟨q1,q3⟩)
end
end Go.Pat
namespace Go.Proofs.YtlaffgagmncgjaaGreatDoor
open Tryz Go Go.Pat Go.Proofs
structure WS1 where
 (S:List SP) (texts file:List (List UInt8)) (sv tv fv iv:Value) (m:Nat) (ivs:List Value) (lv:Value) (ml:Nat) (lvs:List Value)
def SP.cells (s:SP):List Value:=[.pointer (some ⟨s.xb,0,none⟩),.pointer (some ⟨s.mb,0,none⟩)]
theorem SP.one (s:SP):One s.cells:=by intro u hu;simp [SP.cells] at hu;rcases hu with rfl | rfl<;>rfl
def pairC (S:List SP):List Value:=S.flatMap SP.cells
theorem pairC_append (l m:List SP):pairC (l++m)=pairC l++pairC m:=by simp [pairC]
theorem length_pairC (l:List SP):(pairC l).length=l.length*2:=by
 induction l with
 | nil=>rfl
 | cons x l ih=>simp only [pairC,List.flatMap_cons,List.length_append] at ih ⊢;rw [ih];simp [SP.cells];omega
theorem pairC_get {h:Heap} {l:List SP} {b p:Nat} (hc:Cells h b p (pairC l)) {i:Nat} {x:SP} (hi:l[i]? = some x):Cells h b (p+i*2) x.cells:=by
 have hlt:i<l.length:=(List.getElem?_eq_some_iff.1 hi).1
 intro j v hj
 have hj4:j<2:=by have:=(List.getElem?_eq_some_iff.1 hj).1;simpa [SP.cells] using this
 have hv:(pairC l)[i*2+j]? = some v:=by
  have h0:l=l.take i++x::l.drop (i+1):=by
   obtain ⟨_,e⟩:=List.getElem?_eq_some_iff.1 hi
   rw [← e,List.getElem_cons_drop,List.take_append_drop]
  rw [h0,pairC_append]
  have hl:(pairC (l.take i)).length=i*2:=by rw [length_pairC,List.length_take];congr 1;omega
  rw [List.getElem?_append_right (by omega),hl,show i*2+j-i*2=j by omega]
  simp only [pairC,List.flatMap_cons]
  rw [List.getElem?_append_left (by simp [SP.cells];omega)]
  exact hj
 have:=hc (i*2+j) v hv
 rw [← Nat.add_assoc] at this
 exact this
def Fl (h:Heap) (v:Value) (l:List (List UInt8)):Prop:=Rd h 1 v l.length (strs l)∧(Own h 9 1 v l.length (strs l)∨∃ ad,v = .slice ad l.length l.length)∧∀ t∈l,t.length≤1100000
theorem Fl.fr {S:Nat→Prop} {h h':Heap} {v:Value} {l:List (List UInt8)} (x:Fl h v l) (f:Fr S h h') (hs:∀ k,v.ownBlock=some k→¬ S k):Fl h' v l:=by
 refine ⟨x.1.fr f hs,?_,x.2.2⟩
 rcases x.2.1 with e | e
 ·exact .inl (e.fr f hs)
 ·exact .inr e
theorem Fl.nil (h:Heap):Fl h (.slice none 0 0) []:=⟨(Own.nil h 9 1).rd,.inl (Own.nil _ _ _),by simp⟩
def FR (ρ:Nat→Nat) (h:Heap) (k:Nat):Prop:=ρ k=0∧k<h.size
def Role (base:Nat) (ρ:Nat→Nat) (h:Heap) (v:Value) (r:Nat):Prop:=∀ k,v.ownBlock=some k→ρ k=r∧base≤k∧k<h.size
def PairAt (base:Nat) (ρ:Nat→Nat) (h:Heap) (i:Nat) (s:SP):Prop:=PairOK (FR ρ h) h s∧ρ s.xb=10+2*i∧ρ s.mb=11+2*i∧base≤s.xb∧base≤s.mb
def markGo:Nat→Nat→List UInt8→List UInt8
 | 0,_,t=>t
 | f+1,k,t=>if k=0 then t else markGo f (k / 26) (t++[UInt8.ofNat (97+k % 26)])
def markS (k:Nat):List UInt8:=markGo (k+1) k [109,105,110,101]
def Full (base:Nat) (ρ:Nat→Nat) (h:Heap) (e:TypeId) (r:Nat) (x v:Value):Prop:=∃ g cap,v = .slice (some ⟨g,0,none⟩) cap cap∧Blk h g (List.replicate cap x) e∧ρ g=r∧base≤g∧cap≤9223372036854775807
structure Hand (base:Nat) (h:Heap) (ρ:Nat→Nat) (lv:Value) (ml:Nat) (lvs ivs:List Value):Prop where
 l:Own h 25 1 lv ml lvs
 rl:Role base ρ h lv 8
 gl:∀ (k:Nat) (v:Value),lvs[k]? = some v→Full base ρ h 9 6 (.string (str (markS k))) v
 gi:∀ (k:Nat) (v:Value),ivs[k]? = some v→Full base ρ h 3 7 (.int .i64 (-7-(k:Int))) v
theorem Full.keep {base:Nat} {ρ ρ':Nat→Nat} {h h':Heap} {e:TypeId} {r:Nat} {x v:Value} {S:Nat→Prop} (y:Full base ρ h e r x v) (f:Fr S h h') (hS:∀ k,k<h.size→S k→ρ k≠r) (hρ:∀ k,k<h.size→ρ k=r→ρ' k=r):Full base ρ' h' e r x v:=by
 obtain ⟨g,cap,e1,e2,e3,e4,e5⟩:=y
 exact ⟨g,cap,e1,e2.fr f fun s=>hS g e2.lt s e3,hρ g e2.lt e3,e4,e5⟩
structure WI (base:Nat) (h:Heap) (wb:Nat) (ρ:Nat→Nat) (c:Nat) (w:WS1):Prop where
 blk:Blk h wb [w.sv,w.tv,w.fv,w.lv,w.iv] 39
 wr:ρ wb=1
 wbase:base≤wb
 s:Own h 32 2 w.sv w.S.length (pairC w.S)
 rs:Role base ρ h w.sv 2
 t:Own h 9 1 w.tv w.texts.length (strs w.texts)
 rt:Role base ρ h w.tv 3
 f:Fl h w.fv w.file
 rf:Role base ρ h w.fv 4
 i:Own h 69 1 w.iv w.m w.ivs
 ri:Role base ρ h w.iv 5
 p:∀ i s,w.S[i]? = some s→PairAt base ρ h i s
 tab:Tab10 h
 r0:ρ 0=0
 cs:w.S.length≤c
 ct:w.texts.length≤c
 cf:w.file.length≤300+c
 ci:w.m≤c
 tl:∀ t∈w.texts,t.length≤1100000
 g:Hand base h ρ w.lv w.ml w.lvs w.ivs
 cl:w.ml≤c
structure Kept (base:Nat) (h':Heap) (wb:Nat) (ρ':Nat→Nat) (w:WS1) (R:Nat→Prop):Prop where
 blk:¬ R 1→Blk h' wb [w.sv,w.tv,w.fv,w.lv,w.iv] 39
 wr:ρ' wb=1
 s:¬ R 2→Own h' 32 2 w.sv w.S.length (pairC w.S)
 rs:Role base ρ' h' w.sv 2
 t:¬ R 3→Own h' 9 1 w.tv w.texts.length (strs w.texts)
 rt:Role base ρ' h' w.tv 3
 f:¬ R 4→Fl h' w.fv w.file
 rf:Role base ρ' h' w.fv 4
 i:¬ R 5→Own h' 69 1 w.iv w.m w.ivs
 ri:Role base ρ' h' w.iv 5
 p:∀ i s,w.S[i]? = some s→¬ R (10+2*i)→¬ R (11+2*i)→PairAt base ρ' h' i s
 tab:Tab10 h'
 r0:ρ' 0=0
 g:¬ R 6→¬ R 7→¬ R 8→Hand base h' ρ' w.lv w.ml w.lvs w.ivs
theorem Tab10.lt {h:Heap} (x:Tab10 h):0<h.size:=by
 obtain ⟨_,_,hx⟩:=x
 exact (Array.getElem?_eq_some_iff.1 hx).1
theorem WI.keep9 {base:Nat} {h h':Heap} {wb c:Nat} {ρ ρ':Nat→Nat} {w:WS1} (x:WI base h wb ρ c w) {S:Nat→Prop} (f:Fr S h h') (R:Nat→Prop) (hS:∀ k,k<h.size→S k→R (ρ k)) (h0:¬ R 0) (hρ:∀ k,k<h.size→ρ k≠9→ρ' k=ρ k):Kept base h' wb ρ' w R:=by
 have hz:=f.size
 have role:∀ v r,r≠9→Role base ρ h v r→Role base ρ' h' v r:=fun v r h9 hr k hk=>by
  obtain ⟨h1,h2,h3⟩:=hr k hk
  exact ⟨by rw [hρ k h3 (by rw [h1];exact h9)];exact h1,h2,by omega⟩
 have away:∀ v r,Role base ρ h v r→¬ R r→∀ k,v.ownBlock=some k→¬ S k:=fun v r hr hn k hk hs=>by
  obtain ⟨h1,h2,h3⟩:=hr k hk
  exact hn (h1 ▸ hS k h3 hs)
 refine ⟨fun hn=>x.blk.fr f fun hs=>hn (x.wr ▸ hS wb x.blk.lt hs),by rw [hρ wb x.blk.lt (by rw [x.wr];omega)];exact x.wr,fun hn=>x.s.fr f (away _ _ x.rs hn),role _ _ (by omega) x.rs,fun hn=>x.t.fr f (away _ _ x.rt hn),role _ _ (by omega) x.rt,fun hn=>x.f.fr f (away _ _ x.rf hn),role _ _ (by omega) x.rf,fun hn=>x.i.fr f (away _ _ x.ri hn),role _ _ (by omega) x.ri,fun i s hi h1 h2=>?_,?_,?_,fun n6 n7 n8=>⟨x.g.l.fr f (away _ _ x.g.rl n8),role _ _ (by omega) x.g.rl,fun k v hk=>(x.g.gl k v hk).keep f (fun k hk hs e=>n6 (e ▸ hS k hk hs)) (fun k hk e=>by rw [hρ k hk (by omega)];exact e),fun k v hk=>(x.g.gi k v hk).keep f (fun k hk hs e=>n7 (e ▸ hS k hk hs)) (fun k hk e=>by rw [hρ k hk (by omega)];exact e)⟩⟩
 ·obtain ⟨p1,p2,p3,p4,p5⟩:=x.p i s hi
  have lx:=p1.x.lt
  have lm:=p1.m.lt
  refine ⟨(p1.fr f (fun e=>h1 (p2 ▸ hS _ lx e)) (fun e=>h2 (p3 ▸ hS _ lm e)) fun k hk e=>h0 (hk.1 ▸ hS k hk.2 e)).mono fun k hk=>⟨by rw [hρ k hk.2 (by rw [hk.1];omega)];exact hk.1,by have:=hk.2;omega⟩,by rw [hρ _ lx (by omega)];exact p2,by rw [hρ _ lm (by omega)];exact p3,p4,p5⟩
 ·exact x.tab.fr f fun e=>h0 (x.r0 ▸ hS 0 x.tab.lt e)
 ·rw [hρ 0 x.tab.lt (by rw [x.r0];omega)];exact x.r0
theorem WI.keep {base:Nat} {h h':Heap} {wb c:Nat} {ρ ρ':Nat→Nat} {w:WS1} (x:WI base h wb ρ c w) {S:Nat→Prop} (f:Fr S h h') (R:Nat→Prop) (hS:∀ k,k<h.size→S k→R (ρ k)) (h0:¬ R 0) (hρ:∀ k,k<h.size→ρ' k=ρ k):Kept base h' wb ρ' w R:=x.keep9 f R hS h0 fun k hk _=>hρ k hk
def ext (ρ:Nat→Nat) (n r:Nat) (k:Nat):Nat:=if k<n then ρ k else r
theorem ext_lt {ρ:Nat→Nat} {n r k:Nat} (h:k<n):ext ρ n r k=ρ k:=if_pos h
theorem ext_ge {ρ:Nat→Nat} {n r k:Nat} (h:n≤k):ext ρ n r k=r:=if_neg (by omega)
theorem Role.moved {base:Nat} {ρ:Nat→Nat} {h h1 h':Heap} {v v':Value} {r:Nat} {S:Nat→Prop} (x:Role base ρ h v r) (hm:Moved h1 v v') (hf:Fr S h h1) (hl:∀ k,v'.ownBlock=some k→k<h'.size) (hb:base≤h.size):Role base (ext ρ h.size r) h' v' r:=fun k hk=>by
 rcases hm k hk with e | e
 ·obtain ⟨h1,h2,h3⟩:=x k e
  exact ⟨by rw [ext_lt h3];exact h1,h2,hl k hk⟩
 ·have:=hf.size
  exact ⟨ext_ge (by omega),by omega,hl k hk⟩
end Go.Proofs.YtlaffgagmncgjaaGreatDoor
namespace Go.Proofs.YtlaffgagmncgjaaGreatDoor
open Tryz Go Go.Pat Go.Proofs
theorem plain_given:Plain Tryz.prog 63:=⟨_,func63,by decide +kernel,by rfl⟩
theorem wrap_u8 (q:Int):∃ b:UInt8,IntKind.u8.wrap q=(b.toNat:Int):=by
 have h:0≤IntKind.u8.wrap q∧IntKind.u8.wrap q<256:=by
  unfold IntKind.wrap
  simp [IntKind.signed,IntKind.bits]
  omega
 refine ⟨UInt8.ofNat (IntKind.u8.wrap q).toNat,?_⟩
 rw [UInt8.toNat_ofNat']
 omega
theorem WI.bl {base:Nat} {h:Heap} {wb c:Nat} {ρ:Nat→Nat} {w:WS1} (x:WI base h wb ρ c w):base≤h.size:=by
 have:=x.wbase;have:=x.blk.lt;omega
theorem WI.more {base:Nat} {h:Heap} {wb c c':Nat} {ρ:Nat→Nat} {w:WS1} (x:WI base h wb ρ c w) (hc:c≤c'):WI base h wb ρ c' w :=
 { x with cs:=Nat.le_trans x.cs hc,ct:=Nat.le_trans x.ct hc,cf:=by have:=x.cf;omega,ci:=Nat.le_trans x.ci hc,cl:=Nat.le_trans x.cl hc }
theorem WI.ex {base:Nat} {h h':Heap} {wb c:Nat} {ρ:Nat→Nat} {w:WS1} (x:WI base h wb ρ c w) (f:Ext h h'):WI base h' wb (ext ρ h.size 0) c w:=by
 have k:=x.keep (ρ':=ext ρ h.size 0) f (fun _=>False) (fun _ _ e=>e) (fun e=>e) (fun k hk=>ext_lt hk)
 exact ⟨k.blk (fun e=>e),k.wr,x.wbase,k.s (fun e=>e),k.rs,k.t (fun e=>e),k.rt,k.f (fun e=>e),k.rf,k.i (fun e=>e),k.ri,fun i s hi=>k.p i s hi (fun e=>e) (fun e=>e),k.tab,k.r0,x.cs,x.ct,x.cf,x.ci,x.tl,k.g (fun e=>e) (fun e=>e) (fun e=>e),x.cl⟩
theorem WI.setF {base:Nat} {h h2:Heap} {wb c:Nat} {ρ:Nat→Nat} {w:WS1} (x:WI base h wb ρ c w) {S:Nat→Prop} (f:Fr S h h2) (hS:∀ k,S k→k=wb∨w.fv.ownBlock=some k) {fv':Value} {file':List (List UInt8)}
  (hb:Blk h2 wb [w.sv,w.tv,fv',w.lv,w.iv] 39) (hfl:Fl h2 fv' file') (hr:Role base (ext ρ h.size 4) h2 fv' 4) (hlen:file'.length≤300+(c+1)):WI base h2 wb (ext ρ h.size 4) (c+1) { w with fv:=fv',file:=file' }:=by
 have k:=x.keep (ρ':=ext ρ h.size 4) f (fun r=>r=1∨r=4) (fun k _ e=>by
  rcases hS k e with e | e
  ·subst e;exact .inl x.wr
  ·exact .inr (x.rf k e).1) (by simp) (fun k hk=>ext_lt hk)
 exact ⟨hb,k.wr,x.wbase,k.s (by simp),k.rs,k.t (by simp),k.rt,hfl,hr,k.i (by simp),k.ri,fun i s hi=>k.p i s hi (by omega) (by omega),k.tab,k.r0,by have:=x.cs;dsimp only;omega,by have:=x.ct;dsimp only;omega,hlen,by have:=x.ci;dsimp only;omega,x.tl,k.g (by simp) (by simp) (by simp),by have:=x.cl;dsimp only;omega⟩
theorem WI.setT {base:Nat} {h h2:Heap} {wb c:Nat} {ρ:Nat→Nat} {w:WS1} (x:WI base h wb ρ c w) {S:Nat→Prop} (f:Fr S h h2) (hS:∀ k,S k→k=wb∨w.tv.ownBlock=some k) {tv':Value} {texts':List (List UInt8)}
  (hb:Blk h2 wb [w.sv,tv',w.fv,w.lv,w.iv] 39) (ht:Own h2 9 1 tv' texts'.length (strs texts')) (hr:Role base (ext ρ h.size 3) h2 tv' 3) (hlen:texts'.length≤c+1) (htl:∀ t∈texts',t.length≤1100000):WI base h2 wb (ext ρ h.size 3) (c+1) { w with tv:=tv',texts:=texts' }:=by
 have k:=x.keep (ρ':=ext ρ h.size 3) f (fun r=>r=1∨r=3) (fun k _ e=>by
  rcases hS k e with e | e
  ·subst e;exact .inl x.wr
  ·exact .inr (x.rt k e).1) (by simp) (fun k hk=>ext_lt hk)
 exact ⟨hb,k.wr,x.wbase,k.s (by simp),k.rs,ht,hr,k.f (by simp),k.rf,k.i (by simp),k.ri,fun i s hi=>k.p i s hi (by omega) (by omega),k.tab,k.r0,by have:=x.cs;dsimp only;omega,hlen,by have:=x.cf;dsimp only;omega,by have:=x.ci;dsimp only;omega,htl,k.g (by simp) (by simp) (by simp),by have:=x.cl;dsimp only;omega⟩
def GivenEnd (base:Nat) (h:Heap) (wb c:Nat) (k:Int) (v:Value) (h':Heap):Prop :=
 Fr (fun k=>base≤k) h h'∧∃ r:Bool,v = .bool r∧(∃ ρ' w',WI base h' wb ρ' (c+1) w')∧(r=false→Ext h h'∧¬ (k=9∨k=10∨k=12∨k=13∨k=15))
theorem Fl.len_cap {h:Heap} {v:Value} {l:List (List UInt8)} (x:Fl h v l):∃ ad cap,v = .slice ad l.length cap∧l.length≤cap:=by
 obtain ⟨ad,cap,h1,h2⟩:=x.1.formc
 exact ⟨ad,cap,h1,h2⟩
theorem given_ret (base:Nat) (h:Heap) (wb:Nat) (ρ:Nat→Nat) (c:Nat) (w:WS1) (x:WI base h wb ρ c w) (o:OpD) (hok:OpD.ok o) (hsl:o.s.length≤1100000) (hc:c≤4000000) :
  Ret Tryz.prog 63 #[.pointer (some ⟨wb,0,none⟩),.agg o.cells.toArray] h (GivenEnd base h wb c o.kind):=by
 refine Ret.of_body func63 rfl ntmps63 rfl rfl ?_
 refine zgo ?_
 refine zb fun h0 hb0 hx0 hs0=>?_
 have hbl:=x.bl
 have hz0:=hx0.size
 have x0:=x.ex hx0
 have hwlt:=x.blk.lt
 generalize ext ρ h.size 0=ρ0 at x0
 have o0:=hb0.cell (j:=0) rfl
 have o1:=hb0.cell (j:=1) rfl
 have o2:=hb0.cell (j:=2) rfl
 have o3:=hb0.cell (j:=3) rfl
 have o4:=hb0.cell (j:=4) rfl
 have hblk:=x0.blk
 have w1:=hblk.cell (j:=1) rfl
 have w2:=hblk.cell (j:=2) rfl
 have hFl:=x0.f
 have hlin:∀ t∈w.file++[o.s],t.length≤1100000:=fun t ht=>by
  rcases List.mem_append.1 ht with e | e
  ·exact hFl.2.2 t e
  ·simp only [List.mem_singleton] at e;rw [e];exact hsl
 have hlsub:∀ l:List (List UInt8),(∀ t∈l,t∈w.file++[o.s])→∀ t∈l,t.length≤1100000:=fun l h t ht=>hlin t (h t ht)
 obtain ⟨adf,capf,hfv,hfc⟩:=hFl.len_cap
 rw [hfv] at w2
 obtain ⟨adt,capt,htv⟩:=x0.t.rd.form
 rw [htv] at w1
 have hct:=x0.ct
 have hcf:=x0.cf
 have frame:∀ (S:Nat→Prop) h',Fr S h0 h'→(∀ k,S k→base≤k)→Fr (fun k=>base≤k) h h':=fun S h' f hS=>(hx0.up).trans (f.mono fun k _ e=>hS k e)
 have hfb:∀ k,w.fv.ownBlock=some k→base≤k∧k≠wb∧k≠h.size:=fun k hk=>by
  obtain ⟨r1,r2,r3⟩:=x0.rf k hk
  refine ⟨r2,fun e=>?_,fun e=>?_⟩
  ·subst e;have:=x0.wr;omega
  ·subst e
   rcases (x.rf _ hk) with ⟨_,_,e3⟩
   omega
 have htb:∀ k,w.tv.ownBlock=some k→base≤k∧k≠wb∧k≠h.size:=fun k hk=>by
  obtain ⟨r1,r2,r3⟩:=x0.rt k hk
  refine ⟨r2,fun e=>?_,fun e=>?_⟩
  ·subst e;have:=x0.wr;omega
  ·subst e
   rcases (x.rt _ hk) with ⟨_,_,e3⟩
   omega
 have fin:∀ (file':List (List UInt8)) fv' h1 h2,Fr (fun k=>w.fv.ownBlock=some k) h0 h1→Fr (fun k=>k=wb) h1 h2→Blk h2 wb [w.sv,w.tv,fv',w.lv,w.iv] 39→Fl h1 fv' file'→Moved h0 w.fv fv'→(∀ k,fv'.ownBlock=some k→k<h1.size)→file'.length≤300+(c+1)→GivenEnd base h wb c o.kind (.bool true) h2:=fun file' fv' h1 h2 f1 f2 hb2 hfl hmv hlt hlen=>by
  have hz2:=f2.size
  have hz1:=f1.size
  have hfr:Fr (fun k=>k=wb∨w.fv.ownBlock=some k) h0 h2:=(f1.mono fun k _ e=>.inr e).trans (f2.mono fun k _ e=>.inl e)
  have hnw:∀ k,fv'.ownBlock=some k→¬ k=wb:=fun k hk e=>by
   rcases hmv k hk with e' | e'
   ·exact (hfb k e').2.1 e
   ·omega
  refine ⟨frame _ _ hfr (fun k e=>?_),true,rfl,⟨_,_,x0.setF hfr (fun k e=>e) hb2 (hfl.fr f2 hnw) (x0.rf.moved hmv (Fr.refl (fun _=>False) h0) (fun k hk=>by have:=hlt k hk;omega) x0.bl) hlen⟩,fun e=>by cases e⟩
  rcases e with e | e
  ·subst e;exact x0.wbase
  ·exact (hfb k e).1
 refine zgo ?_
 by_cases k9:o.kind=9
 ·have hd:decide (o.kind=9)=true:=decide_eq_true k9
  rw [hd]
  refine zgo ?_
  refine Runs.drawn (m:=12) (fun h'=>Fr (fun k=>w.fv.ownBlock=some k) h0 h') (fun i=>Nat.beq i 11) mixed rfl ?_
  refine zp 0 (Fr.refl _ _) ?_
  refine zp 1 (Fr.refl _ _) ?_
  refine zp 2 (Fr.refl _ _) ?_
  refine zp 3 (Fr.refl _ _) ?_
  refine zl 4 (fun _ hS=>(hS.cell (fun e=>(hfb _ e).2.1 rfl) w2)) (Fr.refl _ _) ?_
  refine zp 5 (Fr.refl _ _) ?_
  refine zl 6 (fun _ hS=>(hS.cell (fun e=>(hfb _ e).2.2 rfl) o4)) (Fr.refl _ _) ?_
  rcases hFl.2.1 with hown | ⟨ad,had⟩
  ·rw [hfv] at hown
   refine WF.push 7 8 tab_ok (by kernel_rfl) (by kernel_rfl) rfl rfl rfl rfl rfl rfl rfl rfl rfl rfl rfl rfl rfl rfl rfl rfl rfl rfl rfl (by simp) (one_str o.s) hown (by omega) (fun h' hf=>by rw [hfv];exact hf) ?_
   intro v1 h1 q1 q2 q3
   rw [← hfv] at q2 q3
   obtain ⟨ad1,cap1,hv1⟩:=q1.rd.form
   subst hv1
   refine zx 9 q2 ?_
   refine zx 10 q2 ?_
   refine WF.put 11 tab_ok (by kernel_rfl) rfl rfl rfl rfl rfl rfl rfl rfl rfl (one_slice _ _ _) (hblk.fr q2 (fun e=>(hfb _ e).2.1 rfl)) rfl rfl fun h2 hb2 hx2 hs2=>?_
   refine zd ?_
   refine zgo ?_
   have q1':Own h1 9 1 (.slice ad1 (w.file.length+1) cap1) (w.file++[o.s]).length (strs (w.file++[o.s])):=by
    rw [strs_append,List.length_append];exact q1
   exact Runs.ret func63 (ret1 results63 rfl) (fin _ _ h1 h2 q2 hx2 hb2 ⟨q1'.rd,.inl q1',hlin⟩ q3 (fun k hk=>q1.lt k hk) (by simp;omega))
  ·have hcc:capf=w.file.length:=by rw [had] at hfv;cases hfv;rfl
   subst hcc
   have hrd:Rd h0 1 (.slice adf w.file.length w.file.length) w.file.length (strs w.file):=by rw [← hfv];exact hFl.1
   refine WF.ex 7 (by kernel_rfl) rfl rfl rfl rfl (ox_build1 tab_ok rfl rfl rfl rfl rfl rfl rfl rfl ⟨.inr (Fr.push _ _ _),?_⟩)
   have hxA:Ext h0 (h0.push (.cells [Value.string (str o.s)].toArray 9 (0,0))):=Fr.push _ _ _
   have bA:Rd (h0.push (.cells [Value.string (str o.s)].toArray 9 (0,0))) 1 (.slice (some ⟨h0.size,0,none⟩) 1 1) 1 [Value.string (str o.s)]:=⟨rfl,.inr ⟨_,_,_,rfl,Nat.le_refl _,cells_push_new _ _ _⟩⟩
   have hzA:=hxA.size
   refine WF.ex 8 (by kernel_rfl) rfl rfl rfl rfl (ox_append_fl tab_ok rfl rfl rfl rfl rfl rfl rfl (hrd.ext hxA) bA (one_str _) (show (w.file.length+1)*17≤140737488355328 by omega) fun v1 h1 q1 q2 q3=>⟨.inr (hxA.trans q2).up,?_⟩)
   rcases q3 with ⟨e,_⟩ | ⟨q3,q4⟩
   ·cases e
   obtain ⟨ad1,cap1,hv1⟩:=q1.form
   subst hv1
   refine zx 9 ((hxA.trans q2).up) ?_
   refine zx 10 ((hxA.trans q2).up) ?_
   refine WF.put 11 tab_ok (by kernel_rfl) rfl rfl rfl rfl rfl rfl rfl rfl rfl (one_slice _ _ _) (hblk.ext (hxA.trans q2)) rfl rfl fun h2 hb2 hx2 hs2=>?_
   refine zd ?_
   refine zgo ?_
   have q1':Own h1 9 1 (.slice ad1 (w.file.length+1) cap1) (w.file++[o.s]).length (strs (w.file++[o.s])):=by
    rw [strs_append,List.length_append];exact q3
   exact Runs.ret func63 (ret1 results63 rfl) (fin _ _ h1 h2 (hxA.trans q2).up hx2 hb2 ⟨q1'.rd,.inl q1',hlin⟩ (fun k hk=>.inr (by rw [q4] at hk;cases hk;omega)) (fun k hk=>q3.lt k hk) (by simp;omega))
 have hd9:decide (o.kind=9)=false:=decide_eq_false k9
 rw [hd9]
 refine zgo ?_
 by_cases k10:o.kind=10
 ·have hd:decide (o.kind=10)=true:=decide_eq_true k10
  rw [hd]
  refine zgo ?_
  refine zt (one_slice _ _ _) hblk fun h2 hb2 hx2 hs2=>?_
  refine zgo ?_
  exact Runs.ret func63 (ret1 results63 rfl) (fin [] _ h0 h2 (Fr.refl _ _) hx2 hb2 (Fl.nil _) (fun k hk=>by simp [Value.ownBlock] at hk) (fun k hk=>by simp [Value.ownBlock] at hk) (by simp))
 have hd10:decide (o.kind=10)=false:=decide_eq_false k10
 rw [hd10]
 refine zgo ?_
 by_cases k12:o.kind=12
 ·have hd:decide (o.kind=12)=true:=decide_eq_true k12
  rw [hd]
  refine zgo ?_
  refine Runs.cond_dec rfl (fun hpos=>?_) (fun hpos=>?_)
  rotate_left
  ·refine zgo ?_
   refine Runs.ret func63 (ret1 results63 rfl) ⟨hx0.up,true,rfl,⟨_,_,x0.more (Nat.le_succ c)⟩,fun e=>by cases e⟩
  have hpos':0<w.file.length:=by omega
  refine zgo ?_
  refine WO.call rfl rfl rfl rfl plain_pick rfl (pick_ret o.a w.file.length _ hok.a hpos' (by omega)) fun v1 h1 ⟨hh1,r,hr,hv1⟩=>?_
  subst hh1 hv1
  obtain ⟨bf,pf,cf,hfv',hfc',hcs⟩:=hFl.1.pos hpos'
  have hrd:Rd h1 1 (.slice (some ⟨bf,pf,none⟩) w.file.length cf) w.file.length (strs w.file):=by rw [← hfv'];exact hFl.1
  have had:adf=some ⟨bf,pf,none⟩∧capf=cf:=by rw [hfv'] at hfv;cases hfv;exact ⟨rfl,rfl⟩
  obtain ⟨e1,e2⟩:=had
  subst e1 e2
  have hcut:=hrd.cut (r+1) w.file.length hr (Nat.le_refl _)
  have hnews:((strs w.file).take (w.file.length*1)).drop ((r+1)*1)=strs (w.file.drop (r+1)):=by
   rw [List.take_of_length_le (by simp [strs]),Nat.mul_one];simp [strs,List.map_drop]
  rw [hnews] at hcut
  have hbase:Rd h1 1 (.slice (some ⟨bf,pf,none⟩) r r) r (strs (w.file.take r)):=by
   refine ⟨by simp [strs];omega,.inr ⟨bf,pf,r,rfl,Nat.le_refl _,?_⟩⟩
   have:strs (w.file.take r)=(strs w.file).take r:=by simp [strs,List.map_take]
   rw [this];exact hcs.take r
  have hone:One (strs (w.file.drop (r+1))):=by
   intro u hu
   obtain ⟨t,_,rfl⟩:=List.mem_map.1 hu
   rfl
  have hlen':(w.file.take r++w.file.drop (r+1)).length=r+(w.file.length-(r+1)):=by simp;omega
  refine zgo ?_
  refine Runs.drawn (m:=19) (fun h'=>Ext h1 h') (fun i=>Nat.beq i 18) mixed rfl ?_
  refine zp 0 (Fr.refl _ _) ?_
  refine zp 1 (Fr.refl _ _) ?_
  refine zp 2 (Fr.refl _ _) ?_
  refine zp 3 (Fr.refl _ _) ?_
  refine zl 4 (fun _ hS=>(Fr.xc hS w2)) (Fr.refl _ _) ?_
  refine zp 5 (Fr.refl _ _) ?_
  refine zp 6 (Fr.refl _ _) ?_
  refine WF.take 7 rfl (fun _ _=>ov_slice3 tab_ok rfl rfl rfl rfl rfl rfl rfl rfl (show r≤capf by omega)) (Fr.refl _ _) rfl rfl rfl (by kernel_rfl) ?_
  refine zp 8 (Fr.refl _ _) ?_
  refine zp 9 (Fr.refl _ _) ?_
  refine zp 10 (Fr.refl _ _) ?_
  refine zl 11 (fun _ hS=>(Fr.xc hS w2)) (Fr.refl _ _) ?_
  refine zp 12 (Fr.refl _ _) ?_
  refine WF.take 13 rfl (fun _ _=>ov_add rfl rfl rfl (in_i64 (by omega) (by omega))) (Fr.refl _ _) rfl rfl rfl (by kernel_rfl) ?_
  refine WF.take 14 rfl (fun _ _=>ov_slice_lo tab_ok rfl rfl rfl rfl rfl rfl (show r+1≤w.file.length by omega)) (Fr.refl _ _) rfl rfl rfl (by kernel_rfl) ?_
  refine WF.ex 15 (by kernel_rfl) rfl rfl rfl rfl (ox_append_fl tab_ok rfl rfl rfl rfl rfl rfl rfl hbase hcut hone (show (r+(w.file.length-(r+1)))*17≤140737488355328 by omega) fun v2 h2 q1 q2 q3=>⟨.inr q2,?_⟩)
  obtain ⟨ad2,cap2,hv2⟩:=q1.form
  subst hv2
  refine zx 16 q2 ?_
  refine zx 17 q2 ?_
  refine WF.put 18 tab_ok (by kernel_rfl) rfl rfl rfl rfl rfl rfl rfl rfl rfl (one_slice _ _ _) (hblk.ext q2) rfl rfl fun h3 hb3 hx3 hs3=>?_
  refine zd ?_
  refine zgo ?_
  have q1':Rd h2 1 (.slice ad2 (r+(w.file.length-(r+1))) cap2) (w.file.take r++w.file.drop (r+1)).length (strs (w.file.take r++w.file.drop (r+1))):=by
   rw [strs_append,hlen'];exact q1
  have hz2:=q2.size
  refine Runs.ret func63 (ret1 results63 rfl) (fin (w.file.take r++w.file.drop (r+1)) _ h2 h3 q2.up hx3 hb3 ⟨q1',?_,hlsub _ fun t ht=>List.mem_append.2 (.inl (by rcases List.mem_append.1 ht with e | e;exact List.mem_of_mem_take e;exact List.mem_of_mem_drop e))⟩ (fun k hk=>?_) (fun k hk=>?_) (by rw [hlen'];omega))
  ·rcases q3 with ⟨e,e'⟩ | ⟨q3,_⟩
   ·right;exact ⟨some ⟨bf,pf,none⟩,by rw [e',hlen',e];rfl⟩
   ·left;rw [strs_append,hlen'];exact q3
  ·rcases q3 with ⟨_,e'⟩ | ⟨_,q4⟩
   ·left;rw [e'] at hk;rw [hfv];exact hk
   ·right;rw [q4] at hk;cases hk;exact Nat.le_refl _
  ·rcases q3 with ⟨_,e'⟩ | ⟨q3,_⟩
   ·rw [e'] at hk
    have:=(x0.rf k (by rw [hfv];exact hk)).2.2
    omega
   ·exact q3.lt k hk
 have hd12:decide (o.kind=12)=false:=decide_eq_false k12
 rw [hd12]
 refine zgo ?_
 by_cases k13:o.kind=13
 ·have hd:decide (o.kind=13)=true:=decide_eq_true k13
  rw [hd]
  refine zgo ?_
  refine Runs.drawn (m:=10) (fun h'=>h'=h0) (fun _=>false) mixed rfl ?_
  refine zp 0 rfl ?_
  refine WF.take 1 rfl (fun _ hS=>by rw [hS];exact ov_load tab_ok rfl rfl rfl rfl o1) rfl rfl rfl rfl (by kernel_rfl) ?_
  refine zp 2 rfl ?_
  refine zp 3 rfl ?_
  refine zp 4 rfl ?_
  refine WF.take 5 rfl (fun _ hS=>by rw [hS];exact ov_load tab_ok rfl rfl rfl rfl w2) rfl rfl rfl rfl (by kernel_rfl) ?_
  refine zp 6 rfl ?_
  refine WF.take 7 rfl (fun _ _=>ov_add rfl rfl rfl (in_i64 (by omega) (by omega))) rfl rfl rfl rfl (by kernel_rfl) ?_
  refine WF.call 8 (by kernel_rfl) rfl rfl rfl rfl rfl plain_pick rfl (pick_ret o.a (w.file.length+1) _ hok.a (by omega) (by omega)) fun v1 h1 ⟨hh1,r,hr,hv1⟩=>⟨.inr hh1,?_⟩
  subst hh1 hv1
  refine zp 9 rfl ?_
  refine zd ?_
  have hr':r≤w.file.length:=by omega
  have hone:One (strs (w.file.drop r)):=by
   intro u hu
   obtain ⟨t,_,rfl⟩:=List.mem_map.1 hu
   rfl
  have hone2:One (strs [o.s]++strs (w.file.drop r)):=by
   rw [← strs_append]
   intro u hu
   obtain ⟨t,_,rfl⟩:=List.mem_map.1 hu
   rfl
  have hlen':(w.file.take r++([o.s]++w.file.drop r)).length=r+(1+(w.file.length-r)):=by simp;omega
  have hrd:Rd h1 1 (.slice adf w.file.length capf) w.file.length (strs w.file):=by rw [← hfv];exact hFl.1
  have hbase:Rd h1 1 (.slice adf r r) r (strs (w.file.take r)):=by
   refine ⟨by simp [strs];omega,?_⟩
   rcases hrd.2 with ⟨e1,e2⟩ | ⟨b0,p0,cap0,e1,e2,e3⟩
   ·simp only [Value.slice.injEq] at e1
    left;exact ⟨by rw [e1.1,show r=0 by omega],by omega⟩
   ·simp only [Value.slice.injEq] at e1
    right
    refine ⟨b0,p0,r,by rw [e1.1],Nat.le_refl _,?_⟩
    have:strs (w.file.take r)=(strs w.file).take r:=by simp [strs,List.map_take]
    rw [this];exact e3.take r
  have stop:∀ (vC:Value) (hB hC h9:Heap),Ext h1 hB→Rd hC 1 vC (r+(1+(w.file.length-r))) (strs (w.file.take r)++(strs [o.s]++strs (w.file.drop r)))→Ext hB hC→((1+(w.file.length-r)=0∧vC = .slice adf r r)∨(Own hC 9 1 vC (r+(1+(w.file.length-r))) (strs (w.file.take r)++(strs [o.s]++strs (w.file.drop r)))∧vC.ownBlock=some hB.size))→Fr (fun k=>k=wb) hC h9→Blk h9 wb [w.sv,w.tv,vC,w.lv,w.iv] 39→GivenEnd base h wb c o.kind (.bool true) h9:=fun vC hB hC h9 hxB q1 q2 q3 hx9 hb9=>by
   rcases q3 with ⟨e,_⟩ | ⟨q3,q4⟩
   ·omega
   have q3':Own hC 9 1 vC (w.file.take r++([o.s]++w.file.drop r)).length (strs (w.file.take r++([o.s]++w.file.drop r))):=by
    rw [strs_append,strs_append,hlen'];exact q3
   have hzB:=hxB.size
   exact fin _ _ hC h9 (hxB.trans q2).up hx9 hb9 ⟨q3'.rd,.inl q3',hlsub _ fun t ht=>by
    rcases List.mem_append.1 ht with e | e
    ·exact List.mem_append.2 (.inl (List.mem_of_mem_take e))
    ·rcases List.mem_cons.1 e with e | e
     ·rw [e];simp
     ·exact List.mem_append.2 (.inl (List.mem_of_mem_drop e))⟩ (fun k hk=>.inr (by rw [q4] at hk;cases hk;omega)) (fun k hk=>q3.lt k hk) (by rw [hlen'];omega)
  refine zgo ?_
  refine Runs.drawn (m:=22) (fun h'=>Ext h1 h') (fun i=>Nat.beq i 21) mixed rfl ?_
  refine zp 0 (Fr.refl _ _) ?_
  refine zp 1 (Fr.refl _ _) ?_
  refine zp 2 (Fr.refl _ _) ?_
  refine zp 3 (Fr.refl _ _) ?_
  refine zl 4 (fun _ hS=>(Fr.xc hS w2)) (Fr.refl _ _) ?_
  refine zp 5 (Fr.refl _ _) ?_
  refine zp 6 (Fr.refl _ _) ?_
  refine WF.take 7 rfl (fun _ _=>ov_slice3 tab_ok rfl rfl rfl rfl rfl rfl rfl rfl (show r≤capf by omega)) (Fr.refl _ _) rfl rfl rfl (by kernel_rfl) ?_
  refine zp 8 (Fr.refl _ _) ?_
  refine zl 9 (fun _ hS=>(Fr.xc hS o4)) (Fr.refl _ _) ?_
  refine zp 11 (Fr.refl _ _) ?_
  refine zp 12 (Fr.refl _ _) ?_
  refine zp 13 (Fr.refl _ _) ?_
  refine zl 14 (fun _ hS=>(Fr.xc hS w2)) (Fr.refl _ _) ?_
  refine zp 15 (Fr.refl _ _) ?_
  rcases hrd.2 with ⟨e1,e2⟩ | ⟨b0,p0,cap0,e1,e2,e3⟩
  ·simp only [Value.slice.injEq] at e1
   obtain ⟨a1,a2,a3⟩:=e1
   subst a1 a3
   have hdr:w.file.drop r=[]:=List.drop_eq_nil_of_le (by omega)
   refine WF.take 16 rfl (fun _ _=>ov_slice_lo_nil tab_ok rfl rfl rfl rfl rfl (natOf_of (by omega)) a2) (Fr.refl _ _) rfl rfl rfl (by kernel_rfl) ?_
   refine WF.ex 10 (by kernel_rfl) rfl rfl rfl rfl (ox_build1 tab_ok rfl rfl rfl rfl rfl rfl rfl rfl ⟨.inr (Fr.push _ _ _),?_⟩)
   have hxA:Ext h1 (h1.push (.cells [Value.string (str o.s)].toArray 9 (0,0))):=Fr.push _ _ _
   have bA:Rd (h1.push (.cells [Value.string (str o.s)].toArray 9 (0,0))) 1 (.slice (some ⟨h1.size,0,none⟩) 1 1) 1 (strs [o.s]):=⟨rfl,.inr ⟨_,_,_,rfl,Nat.le_refl _,cells_push_new _ _ _⟩⟩
   refine WF.ex 17 (by kernel_rfl) rfl rfl rfl rfl (ox_append_fl (m:=w.file.length-r) (news:=strs (w.file.drop r)) tab_ok rfl rfl rfl rfl rfl rfl rfl bA ⟨by simp [strs],.inl ⟨rfl,by omega⟩⟩ hone (show (1+(w.file.length-r))*17≤140737488355328 by omega) fun vB hB q1 q2 q3=>⟨.inr (hxA.trans q2),?_⟩)
   refine WF.ex 18 (by kernel_rfl) rfl rfl rfl rfl (ox_append_fl tab_ok rfl rfl rfl rfl rfl rfl rfl (hbase.ext (hxA.trans q2)) q1 hone2 (show (r+(1+(w.file.length-r)))*17≤140737488355328 by omega) fun vC hC r1 r2 r3=>⟨.inr ((hxA.trans q2).trans r2),?_⟩)
   obtain ⟨adC,capC,hvC⟩:=r1.form
   subst hvC
   refine zx 19 (((hxA.trans q2).trans r2)) ?_
   refine zx 20 (((hxA.trans q2).trans r2)) ?_
   refine WF.put 21 tab_ok (by kernel_rfl) rfl rfl rfl rfl rfl rfl rfl rfl rfl (one_slice _ _ _) (hblk.ext ((hxA.trans q2).trans r2)) rfl rfl fun h9 hb9 hx9 hs9=>?_
   refine zd ?_
   refine zgo ?_
   exact Runs.ret func63 (ret1 results63 rfl) (stop _ hB hC h9 (hxA.trans q2) r1 r2 r3 hx9 hb9)
  ·simp only [Value.slice.injEq] at e1
   obtain ⟨a1,a2,a3⟩:=e1
   subst a1 a3
   have hcut:=hrd.cut r w.file.length hr' (Nat.le_refl _)
   have hnews:((strs w.file).take (w.file.length*1)).drop (r*1)=strs (w.file.drop r):=by
    rw [List.take_of_length_le (by simp [strs]),Nat.mul_one];simp [strs,List.map_drop]
   rw [hnews] at hcut
   refine WF.take 16 rfl (fun _ _=>ov_slice_lo tab_ok rfl rfl rfl rfl rfl rfl hr') (Fr.refl _ _) rfl rfl rfl (by kernel_rfl) ?_
   refine WF.ex 10 (by kernel_rfl) rfl rfl rfl rfl (ox_build1 tab_ok rfl rfl rfl rfl rfl rfl rfl rfl ⟨.inr (Fr.push _ _ _),?_⟩)
   have hxA:Ext h1 (h1.push (.cells [Value.string (str o.s)].toArray 9 (0,0))):=Fr.push _ _ _
   have bA:Rd (h1.push (.cells [Value.string (str o.s)].toArray 9 (0,0))) 1 (.slice (some ⟨h1.size,0,none⟩) 1 1) 1 (strs [o.s]):=⟨rfl,.inr ⟨_,_,_,rfl,Nat.le_refl _,cells_push_new _ _ _⟩⟩
   refine WF.ex 17 (by kernel_rfl) rfl rfl rfl rfl (ox_append_fl tab_ok rfl rfl rfl rfl rfl rfl rfl bA (hcut.ext hxA) hone (show (1+(w.file.length-r))*17≤140737488355328 by omega) fun vB hB q1 q2 q3=>⟨.inr (hxA.trans q2),?_⟩)
   refine WF.ex 18 (by kernel_rfl) rfl rfl rfl rfl (ox_append_fl tab_ok rfl rfl rfl rfl rfl rfl rfl (hbase.ext (hxA.trans q2)) q1 hone2 (show (r+(1+(w.file.length-r)))*17≤140737488355328 by omega) fun vC hC r1 r2 r3=>⟨.inr ((hxA.trans q2).trans r2),?_⟩)
   obtain ⟨adC,capC,hvC⟩:=r1.form
   subst hvC
   refine zx 19 (((hxA.trans q2).trans r2)) ?_
   refine zx 20 (((hxA.trans q2).trans r2)) ?_
   refine WF.put 21 tab_ok (by kernel_rfl) rfl rfl rfl rfl rfl rfl rfl rfl rfl (one_slice _ _ _) (hblk.ext ((hxA.trans q2).trans r2)) rfl rfl fun h9 hb9 hx9 hs9=>?_
   refine zd ?_
   refine zgo ?_
   exact Runs.ret func63 (ret1 results63 rfl) (stop _ hB hC h9 (hxA.trans q2) r1 r2 r3 hx9 hb9)
 have hd13:decide (o.kind=13)=false:=decide_eq_false k13
 rw [hd13]
 refine zgo ?_
 by_cases k15:o.kind=15
 ·have hd:decide (o.kind=15)=true:=decide_eq_true k15
  rw [hd]
  refine zgo ?_
  refine Runs.cond_dec rfl (fun hpos=>?_) (fun hpos=>?_)
  rotate_left
  ·refine zgo ?_
   exact Runs.ret func63 (ret1 results63 rfl) ⟨hx0.up,true,rfl,⟨_,_,x0.more (Nat.le_succ c)⟩,fun e=>by cases e⟩
  have hpos':0<w.texts.length:=by omega
  obtain ⟨bt,pt,ct,htv',_,hcst⟩:=x0.t.rd.pos hpos'
  have hadt:adt=some ⟨bt,pt,none⟩∧capt=ct:=by rw [htv'] at htv;cases htv;exact ⟨rfl,rfl⟩
  obtain ⟨e1,e2⟩:=hadt
  subst e1 e2
  refine zgo ?_
  refine Runs.drawn (m:=16) (fun h'=>Ext h0 h') (fun _=>false) mixed rfl ?_
  refine zp 0 (Fr.refl _ _) ?_
  refine zp 1 (Fr.refl _ _) ?_
  refine zp 2 (Fr.refl _ _) ?_
  refine zl 3 (fun _ hS=>(Fr.xc hS w1)) (Fr.refl _ _) ?_
  refine zp 4 (Fr.refl _ _) ?_
  refine zl 5 (fun _ hS=>(Fr.xc hS o1)) (Fr.refl _ _) ?_
  refine zp 6 (Fr.refl _ _) ?_
  refine zp 7 (Fr.refl _ _) ?_
  refine zp 8 (Fr.refl _ _) ?_
  refine zl 9 (fun _ hS=>(Fr.xc hS w1)) (Fr.refl _ _) ?_
  refine zp 10 (Fr.refl _ _) ?_
  refine WF.call 11 (by kernel_rfl) rfl rfl rfl rfl rfl plain_pick rfl (pick_ret o.a w.texts.length _ hok.a hpos' (by omega)) fun v1 h1 ⟨hh1,r,hr,hv1⟩=>⟨.inr (by rw [hh1];exact Fr.refl _ _),?_⟩
  subst hh1 hv1
  have hgt:w.texts[r]? = some w.texts[r]:=List.getElem?_eq_getElem hr
  have htl:=x0.tl w.texts[r] (List.getElem_mem hr)
  generalize w.texts[r]=t at *
  have ctx:cellAt h1 bt (pt+r*1)=some (.string (str t)):=by rw [Nat.mul_one];exact hcst r _ (strs_get hgt)
  refine WF.ex 12 (by kernel_rfl) rfl rfl rfl rfl ((ov_indexAddr tab_ok rfl rfl rfl rfl rfl rfl hr).ex ⟨.inr (Fr.refl _ _),?_⟩)
  refine WF.ex 13 (by kernel_rfl) rfl rfl rfl rfl ((ov_load tab_ok rfl rfl rfl rfl ctx).ex ⟨.inr (Fr.refl _ _),?_⟩)
  refine WF.ex 14 (by kernel_rfl) rfl rfl rfl rfl (ox_sbytes tab_ok rfl rfl rfl rfl rfl fun capb zs hcapb=>⟨.inr (Fr.push _ _ _),?_⟩)
  have hxA:Ext h1 (h1.push (.cells (bytesC t++zs).toArray 5 (t.length+zs.length,t.length+zs.length+1))):=Fr.push _ _ _
  have hbA:FBlk (h1.push (.cells (bytesC t++zs).toArray 5 (t.length+zs.length,t.length+zs.length+1))) h1.size (bytesC t++zs) 5 (t.length+zs.length,t.length+zs.length+1):=by simp [FBlk]
  have hsA:(h1.push (.cells (bytesC t++zs).toArray 5 (t.length+zs.length,t.length+zs.length+1))).size=h1.size+1:=by simp
  generalize h1.push (.cells (bytesC t++zs).toArray 5 (t.length+zs.length,t.length+zs.length+1))=hA at *
  refine zx 15 hxA ?_
  refine zd ?_
  refine zgo ?_
  refine Runs.cond_dec rfl (fun hpos2=>?_) (fun hpos2=>?_)
  rotate_left
  ·refine zgo ?_
   exact Runs.ret func63 (ret1 results63 rfl) ⟨(hx0.trans hxA).up,true,rfl,⟨_,_,(x0.ex hxA).more (Nat.le_succ c)⟩,fun e=>by cases e⟩
  have hpos2':0<t.length:=by omega
  have p2:=hxA.xc o2
  have p3:=hxA.xc o3
  obtain ⟨nb,hnb⟩:=wrap_u8 o.c
  refine zgo ?_
  refine Runs.drawn (m:=11) (fun h'=>h'=hA) (fun i=>Nat.beq i 10) mixed rfl ?_
  refine zp 0 rfl ?_
  refine zp 1 rfl ?_
  refine WF.take 2 rfl (fun _ hS=>by rw [hS];exact ov_load tab_ok rfl rfl rfl rfl p2) rfl rfl rfl rfl (by kernel_rfl) ?_
  refine zp 3 rfl ?_
  refine zp 4 rfl ?_
  refine zp 6 rfl ?_
  refine WF.take 7 rfl (fun _ hS=>by rw [hS];exact ov_load tab_ok rfl rfl rfl rfl p3) rfl rfl rfl rfl (by kernel_rfl) ?_
  refine WF.take 8 rfl (fun _ _=>ov_convw tab_ok rfl rfl rfl rfl) rfl rfl rfl rfl (by kernel_rfl) ?_
  rw [hnb]
  refine WF.call 5 (by kernel_rfl) rfl rfl rfl rfl rfl plain_pick rfl (pick_ret o.b t.length _ hok.b hpos2' (by omega)) fun v2 h2 ⟨hh2,r2,hr2,hv2⟩=>⟨.inr hh2,?_⟩
  subst hh2 hv2
  refine WF.ex 9 (by kernel_rfl) rfl rfl rfl rfl ((ov_indexAddr tab_ok rfl rfl rfl rfl rfl rfl hr2).ex ⟨.inr rfl,?_⟩)
  refine WF.put1F 10 tab_ok (by kernel_rfl) rfl rfl rfl rfl rfl rfl rfl rfl (one_u8 _) hbA (by simp [bytesC];omega) (by dsimp only;omega) rfl fun h3 hb3 hx3 hs3=>?_
  refine zd ?_
  have hbt:(bytesC t++zs).set (0+r2*1) (.int .u8 (nb.toNat:Int))=bytesC (t.set r2 nb)++zs:=by
   rw [Nat.zero_add,Nat.mul_one,List.set_append_left _ _ (by simp [bytesC];omega)]
   simp [bytesC,List.map_set]
  rw [hbt] at hb3
  have hcB:Cells h3 h1.size 0 (bytesC (t.set r2 nb)):=fun j v hj=>by
   have hlt:j<(bytesC (t.set r2 nb)).length:=(List.getElem?_eq_some_iff.1 hj).1
   unfold FBlk at hb3
   simp only [cellAt,hb3,Nat.zero_add]
   rw [List.getElem?_toArray,List.getElem?_append_left hlt]
   exact hj
  have hxB:Ext h1 h3:=Fr.wr hxA hx3 (Nat.le_refl _)
  have x3:=x0.ex hxB
  generalize ext ρ0 h1.size 0=ρ3 at x3
  have hz3:=hxB.size
  have hlw:=x0.blk.lt
  have hblk3:=x3.blk
  have w3:=hxB.xc w1
  have htb3:∀ k,w.tv.ownBlock=some k→k≠h1.size:=fun k hk e=>by have:=(x0.rt k hk).2.2;omega
  have htown:Own h3 9 1 (.slice (some ⟨bt,pt,none⟩) w.texts.length capt) w.texts.length (strs w.texts):=by rw [← htv'];exact x3.t
  have hlt':(t.set r2 nb).length≤1100000:=by simpa using htl
  refine zgo ?_
  refine Runs.drawn (m:=12) (fun h'=>Fr (fun k=>w.tv.ownBlock=some k) h3 h') (fun i=>Nat.beq i 11) mixed rfl ?_
  refine zp 0 (Fr.refl _ _) ?_
  refine zp 1 (Fr.refl _ _) ?_
  refine zp 2 (Fr.refl _ _) ?_
  refine zp 3 (Fr.refl _ _) ?_
  refine zl 4 (fun _ hS=>(hS.cell (fun e=>(htb _ e).2.1 rfl) w3)) (Fr.refl _ _) ?_
  refine zp 5 (Fr.refl _ _) ?_
  refine WF.take 6 rfl (fun _ hS=>ov_bstr (l:=t.set r2 nb) tab_ok rfl (by rw [List.length_set];rfl) rfl rfl rfl (hS.cells (fun e=>htb3 _ e rfl) hcB)) (Fr.refl _ _) rfl rfl rfl (by kernel_rfl) ?_
  refine WF.push 7 8 tab_ok (by kernel_rfl) (by kernel_rfl) rfl rfl rfl rfl rfl rfl rfl rfl rfl rfl rfl rfl rfl rfl rfl rfl rfl rfl rfl (by simp) (one_str (t.set r2 nb)) htown (by omega) (fun h' hf=>by rw [htv'];exact hf) ?_
  intro v4 h4 q1 q2 q3
  rw [← htv'] at q2 q3
  obtain ⟨ad4,cap4,hv4⟩:=q1.rd.form
  subst hv4
  refine zx 9 q2 ?_
  refine zx 10 q2 ?_
  refine WF.put 11 tab_ok (by kernel_rfl) rfl rfl rfl rfl rfl rfl rfl rfl rfl (one_slice _ _ _) (hblk3.fr q2 (fun e=>(htb _ e).2.1 rfl)) rfl rfl fun h5 hb5 hx5 hs5=>?_
  refine zd ?_
  refine zgo ?_
  have q1':Own h4 9 1 (.slice ad4 (w.texts.length+1) cap4) (w.texts++[t.set r2 nb]).length (strs (w.texts++[t.set r2 nb])):=by
   rw [strs_append,List.length_append];exact q1
  have hz4:=q2.size
  have hz5:=hx5.size
  have hfr:Fr (fun k=>k=wb∨w.tv.ownBlock=some k) h3 h5:=(q2.mono fun k _ e=>.inr e).trans (hx5.mono fun k _ e=>.inl e)
  have hnw:∀ k,Value.ownBlock (.slice ad4 (w.texts.length+1) cap4)=some k→¬ k=wb:=fun k hk e=>by
   rcases q3 k hk with e' | e'
   ·exact (htb k e').2.1 e
   ·omega
  refine Runs.ret func63 (ret1 results63 rfl) ⟨((hx0.trans hxB).up).trans (hfr.mono fun k _ e=>?_),true,rfl,⟨_,_,x3.setT hfr (fun k e=>e) hb5 (q1'.fr hx5 hnw) (x3.rt.moved q3 (Fr.refl (fun _=>False) h3) (fun k hk=>by have:=q1.lt k hk;omega) x3.bl) (by simp;omega) (fun t' ht'=>?_)⟩,fun e=>by cases e⟩
  ·rcases e with e | e
   ·subst e;exact x0.wbase
   ·exact (htb k e).1
  ·rcases List.mem_append.1 ht' with e | e
   ·exact x0.tl t' e
   ·simp at e;rw [e];exact hlt'
 have hd15:decide (o.kind=15)=false:=decide_eq_false k15
 rw [hd15]
 refine zgo ?_
 exact Runs.ret func63 (ret1 results63 rfl) ⟨hx0.up,false,rfl,⟨_,_,x0.more (Nat.le_succ c)⟩,fun _=>⟨hx0,by omega⟩⟩
end Go.Proofs.YtlaffgagmncgjaaGreatDoor
