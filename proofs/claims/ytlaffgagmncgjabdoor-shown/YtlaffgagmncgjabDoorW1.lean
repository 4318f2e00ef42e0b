import Derived.Test.YtlaffgagmncgjabDoorP8
import Derived.Test.YtlaffgagmncgjabDoorM1
set_option maxRecDepth 20000
set_option maxHeartbeats 3200000
namespace Go.Proofs.YtlaffgagmncgjabDoor
open Go Go.Pat Go.Proofs
structure WL where
 (l:LineD) (pt:Nat) (dead settled:Bool) (ahead block:Nat) (strand:Int)
def WL.cells (w:WL):List Value:=[.int .i64 (w.l.ref.p:Int),.int .i64 (w.l.ref.i:Int),.int .i64 (w.l.up.p:Int),.int .i64 (w.l.up.i:Int),.int .i64 (w.l.down.p:Int),.int .i64 (w.l.down.i:Int),.string (str w.l.text),.int .i64 (w.pt:Int),.bool w.dead,.bool w.settled,.int .i64 (w.ahead:Int),.int .i64 (w.block:Int),.int .i64 w.strand]
theorem WL.one (w:WL):One w.cells:=by
 intro u hu
 simp [WL.cells] at hu
 rcases hu with rfl | rfl | rfl | rfl | rfl | rfl | rfl | rfl | rfl | rfl | rfl | rfl | rfl<;>rfl
def wlsC (n:Nat) (w:Nat→WL):List Value:=(List.range n).flatMap fun k=>(w k).cells
theorem wlsC_succ (n:Nat) (w:Nat→WL):wlsC (n+1) w=wlsC n w++(w n).cells:=by simp [wlsC,List.range_succ,List.flatMap_append]
theorem length_wlsC (n:Nat) (w:Nat→WL):(wlsC n w).length=n*13:=by
 induction n with
 | zero=>rfl
 | succ n ih=>rw [wlsC_succ,List.length_append,ih];simp [WL.cells];omega
theorem wlsC_congr {n:Nat} {w w':Nat→WL} (h:∀ k,k<n→w k=w' k):wlsC n w=wlsC n w':=by
 induction n with
 | zero=>rfl
 | succ n ih=>rw [wlsC_succ,wlsC_succ,ih fun k hk=>h k (by omega),h n (by omega)]
theorem wlsC_get {w:Nat→WL} {i j:Nat} (hj:j<13):∀ {n:Nat},i<n→(wlsC n w)[i*13+j]? = (w i).cells[j]?:=by
 intro n
 induction n with
 | zero=>intro h;omega
 | succ n ih =>
  intro h
  rw [wlsC_succ]
  have hl:=length_wlsC n w
  by_cases e:i=n
  ·subst e
   rw [List.getElem?_append_right (by omega),hl,show i*13+j-i*13=j by omega]
  ·have:i*13+j<n*13:=by omega
   rw [List.getElem?_append_left (by omega),ih (by omega)]
theorem wlsC_cells {h:Heap} {b p n i:Nat} {w:Nat→WL} (hc:Cells h b p (wlsC n w)) (hi:i<n):Cells h b (p+i*13) (w i).cells:=fun j v hj=>by
 have hj3:j<13:=by have:=(List.getElem?_eq_some_iff.1 hj).1;simpa [WL.cells] using this
 have:=hc (i*13+j) v (by rw [wlsC_get hj3 hi];exact hj)
 rw [← Nat.add_assoc] at this
 exact this
theorem wlsC_set {n i j:Nat} {w w':Nat→WL} {v:Value} (hi:i<n) (hj:j<13) (h1:(w' i).cells=(w i).cells.set j v) (h2:∀ k,k<n→k≠i→w' k=w k):(wlsC n w).set (i*13+j) v=wlsC n w':=by
 apply List.ext_getElem?
 intro m
 by_cases hm:m<n*13
 ·have e:m=(m / 13)*13+m % 13:=by omega
  have r:m % 13<13:=Nat.mod_lt _ (by omega)
  generalize m / 13=q at e
  generalize m % 13=s at e r
  subst e
  have hq:q<n:=by omega
  rw [wlsC_get r hq,List.getElem?_set,length_wlsC]
  by_cases e2:q=i
  ·subst e2
   rw [h1,List.getElem?_set]
   have hl:(w q).cells.length=13:=rfl
   by_cases e3:j=s
   ·subst e3
    rw [if_pos rfl,if_pos hm,if_pos rfl,if_pos (by rw [hl];exact hj)]
   ·rw [if_neg (by omega),if_neg e3,wlsC_get r hq]
  ·rw [if_neg (by omega),h2 q hq e2,wlsC_get r hq]
 ·rw [List.getElem?_eq_none (by rw [List.length_set,length_wlsC];omega),List.getElem?_eq_none (by rw [length_wlsC];omega)]
theorem own_put {h:Heap} {e:TypeId} {sz:Nat} {v:Value} {n:Nat} {xs:List Value} (x:Own h e sz v n xs) (hn:0<n) :
  ∃ g cap c,v = .slice (some ⟨g,0,none⟩) n cap∧Blk h g c e∧xs.length≤c.length∧∀ h' p u,p<xs.length→Blk h' g (c.set p u) e→Own h' e sz v n (xs.set p u):=by
 obtain ⟨hl,h2⟩:=x
 rcases h2 with ⟨_,h0⟩ | ⟨g,cap,cur,rfl,hg,hc,hm,hs,ht⟩
 ·omega
 refine ⟨g,cap,cur.toList,rfl,by unfold Blk;simpa using hg,?_,fun h' p u hp hb=>⟨by simpa using hl,.inr ⟨g,cap,(cur.toList.set p u).toArray,rfl,hb,hc,hm,by simpa using hs,?_⟩⟩⟩
 ·rw [← ht,List.length_take];omega
 ·show ((cur.toList.set p u).take (n*sz))=_
  rw [List.take_set,ht]
structure LM (h:Heap) (tb:TypeId) (n:Nat) (dv:Value) (rbs:List Nat) (m:List (List Bool)):Prop where
 len:rbs.length=n
 sq:Square n m
 out:Rd h 1 dv n (rowsV n rbs)
 row:∀ (i b:Nat) (r:List Bool),rbs[i]? = some b→m[i]? = some r→Blk h b (bools r) tb
 nodup:rbs.Nodup
 apart:∀ k,dv.ownBlock=some k→k∉rbs
theorem LM.fr {S:Nat→Prop} {h h':Heap} {tb:TypeId} {n:Nat} {dv:Value} {rbs:List Nat} {m:List (List Bool)} (x:LM h tb n dv rbs m) (hf:Fr S h h') (h1:∀ k,dv.ownBlock=some k→¬ S k) (h2:∀ k∈rbs,¬ S k):LM h' tb n dv rbs m :=
 ⟨x.len,x.sq,x.out.fr hf h1,fun i b r hi hr=>(x.row i b r hi hr).fr hf (h2 _ (List.mem_of_getElem? hi)),x.nodup,x.apart⟩
theorem LM.ext {h h':Heap} {tb:TypeId} {n:Nat} {dv:Value} {rbs:List Nat} {m:List (List Bool)} (x:LM h tb n dv rbs m) (hf:Ext h h'):LM h' tb n dv rbs m:=x.fr hf (by simp) (by simp)
theorem LM.get {h:Heap} {tb:TypeId} {n:Nat} {dv:Value} {rbs:List Nat} {m:List (List Bool)} (x:LM h tb n dv rbs m) {i:Nat} (hi:i<n) :
  ∃ ob p cap rb r,dv = .slice (some ⟨ob,p,none⟩) n cap∧rbs[i]? = some rb∧m[i]? = some r∧r.length=n∧cellAt h ob (p+i*1)=some (.slice (some ⟨rb,0,none⟩) n n)∧Blk h rb (bools r) tb∧∀ j,j<n→cellAt h rb (0+j*1)=some (.bool (getB m i j)):=by
 have h1:i<rbs.length:=by rw [x.len];exact hi
 have h2:i<m.length:=by rw [x.sq.len];exact hi
 have e1:rbs[i]? = some rbs[i]:=List.getElem?_eq_getElem h1
 have e2:m[i]? = some m[i]:=List.getElem?_eq_getElem h2
 have e3:=x.sq.rows m[i] (List.getElem_mem h2)
 obtain ⟨ob,p,cap,hv,_,hc⟩:=x.out.cell (i:=i) (u:=.slice (some ⟨rbs[i],0,none⟩) n n) (by simp [rowsV,e1])
 refine ⟨ob,p,cap,rbs[i],m[i],hv,e1,e2,e3,hc,x.row i _ _ e1 e2,fun j hj=>?_⟩
 rw [Nat.zero_add,Nat.mul_one]
 refine (x.row i _ _ e1 e2).cell ?_
 rw [bools_get (List.getElem?_eq_getElem (by rw [e3];exact hj))]
 simp [getB,List.getD_eq_getElem?_getD,e2,List.getElem?_eq_getElem (show j<m[i].length by rw [e3];exact hj)]
theorem LM.set {h h':Heap} {tb:TypeId} {n:Nat} {dv:Value} {rbs:List Nat} {m:List (List Bool)} (x:LM h tb n dv rbs m) {i j rb:Nat} {r:List Bool} {v:Bool} (hrb:rbs[i]? = some rb) (hr:m[i]? = some r)
  (hb:Blk h' rb ((bools r).set j (.bool v)) tb) (hf:Fr (fun k=>k=rb) h h'):LM h' tb n dv rbs (setB m i j v):=by
 have hmem:rb∈rbs:=List.mem_of_getElem? hrb
 refine ⟨x.len,x.sq.set i j v,x.out.fr hf (fun k hk e=>x.apart k hk (by rw [e];exact hmem)),fun a b s hab hs=>?_,x.nodup,x.apart⟩
 have hgd:m.getD i []=r:=by simp [List.getD_eq_getElem?_getD,hr]
 have him:i<m.length:=(List.getElem?_eq_some_iff.1 hr).1
 rw [setB,hgd,List.getElem?_set] at hs
 by_cases ha:i=a
 ·subst ha
  rw [if_pos rfl,if_pos him] at hs
  cases hs
  rw [hrb] at hab;cases hab
  have:bools (r.set j v)=(bools r).set j (.bool v):=by simp [bools,List.map_set]
  rw [this];exact hb
 ·rw [if_neg ha] at hs
  refine (x.row a b s hab hs).fr hf fun e=>?_
  subst e
  obtain ⟨p1,e1⟩:=List.getElem?_eq_some_iff.1 hrb
  obtain ⟨p2,e2⟩:=List.getElem?_eq_some_iff.1 hab
  exact ha (nodup_get x.nodup p1 p2 (e1.trans e2.symm))
def Pasts (G:Nat→Prop) (h:Heap) (qv:Value) (pa:List (List Nat)):Prop :=
 ∃ qvs:List Value,Rd h 1 qv pa.length qvs∧(∀ (i:Nat) (l:List Nat),pa[i]? = some l→∃ v,qvs[i]? = some v∧Rd h 1 v l.length (ints l)∧∀ k,v.ownBlock=some k→G k)∧∀ k,qv.ownBlock=some k→G k
theorem Pasts.fr {G S:Nat→Prop} {h h':Heap} {qv:Value} {pa:List (List Nat)} (x:Pasts G h qv pa) (f:Fr S h h') (hs:∀ k,G k→¬ S k):Pasts G h' qv pa:=by
 obtain ⟨qvs,h1,h2,h3⟩:=x
 refine ⟨qvs,h1.fr f fun k hk=>hs k (h3 k hk),fun i l hi=>?_,h3⟩
 obtain ⟨v,e1,e2,e3⟩:=h2 i l hi
 exact ⟨v,e1,e2.fr f fun k hk=>hs k (e3 k hk),e3⟩
theorem Pasts.get {G:Nat→Prop} {h:Heap} {qv:Value} {pa:List (List Nat)} (x:Pasts G h qv pa) {i:Nat} {l:List Nat} (hi:pa[i]? = some l) :
  ∃ b p cap v,qv = .slice (some ⟨b,p,none⟩) pa.length cap∧cellAt h b (p+i*1)=some v∧Rd h 1 v l.length (ints l):=by
 obtain ⟨qvs,h1,h2,h3⟩:=x
 obtain ⟨v,e1,e2,_⟩:=h2 i l hi
 obtain ⟨b,p,cap,hv,_,hc⟩:=h1.cell e1
 exact ⟨b,p,cap,v,hv,hc,e2⟩
structure WV where
 (pv qv lv dv:Value) (rbs:List Nat)
structure Web (F G:Nat→Prop) (h:Heap) (wb:Nat) (x:WV) (l:List PD3) (pa:List (List Nat)) (n:Nat) (w:Nat→WL) (on:List (List Bool)):Prop where
 blk:Blk h wb [x.pv,x.qv,x.lv,x.dv] 126
 xs:XS F h x.pv l
 ps:Pasts G h x.qv pa
 own:Own h 130 13 x.lv n (wlsC n w)
 lm:LM h 4 n x.dv x.rbs on
 ap:∀ k,x.lv.ownBlock=some k→k≠wb∧¬ F k∧¬ G k∧k∉x.rbs∧x.dv.ownBlock≠some k
theorem Web.ext {F G:Nat→Prop} {h h':Heap} {wb:Nat} {x:WV} {l:List PD3} {pa:List (List Nat)} {n:Nat} {w:Nat→WL} {on:List (List Bool)} (y:Web F G h wb x l pa n w on) (f:Ext h h'):Web F G h' wb x l pa n w on :=
 ⟨y.blk.ext f,y.xs.ext f,y.ps.fr f (by simp),y.own.fr f (by simp),y.lm.ext f,y.ap⟩
theorem Web.line {F G:Nat→Prop} {h:Heap} {wb:Nat} {x:WV} {l:List PD3} {pa:List (List Nat)} {n:Nat} {w:Nat→WL} {on:List (List Bool)} (y:Web F G h wb x l pa n w on) {i:Nat} (hi:i<n) :
  ∃ g p cap,x.lv = .slice (some ⟨g,p,none⟩) n cap∧Cells h g (p+i*13) (w i).cells:=by
 obtain ⟨g,p,cap,hv,_,hc⟩:=y.own.rd.pos (by omega)
 exact ⟨g,p,cap,hv,wlsC_cells hc hi⟩
theorem Web.put {F G:Nat→Prop} {h:Heap} {wb:Nat} {x:WV} {l:List PD3} {pa:List (List Nat)} {n:Nat} {w:Nat→WL} {on:List (List Bool)} (y:Web F G h wb x l pa n w on) {i:Nat} (hi:i<n) :
  ∃ g cap c,x.lv = .slice (some ⟨g,0,none⟩) n cap∧Blk h g c 130∧n*13≤c.length∧∀ h' (j:Nat) u (w':Nat→WL),j<13→(w' i).cells=(w i).cells.set j u→(∀ k,k<n→k≠i→w' k=w k)→Blk h' g (c.set (i*13+j) u) 130→Fr (fun k=>k=g) h h'→Web F G h' wb x l pa n w' on:=by
 obtain ⟨g,cap,c,hv,hb,hl,hp⟩:=own_put y.own (by omega)
 rw [length_wlsC] at hl hp
 refine ⟨g,cap,c,hv,hb,hl,fun h' j u w' hj h1 h2 hb' hf=>?_⟩
 obtain ⟨a1,a2,a3,a4,a5⟩:=y.ap g (by rw [hv];rfl)
 have ho:=hp h' (i*13+j) u (by omega) hb'
 rw [wlsC_set hi hj h1 h2] at ho
 exact ⟨y.blk.fr hf fun e=>a1 e.symm,y.xs.fr hf fun k hk e=>by subst e;exact a2 hk,y.ps.fr hf fun k hk e=>by subst e;exact a3 hk,ho,
  y.lm.fr hf (fun k hk e=>by subst e;exact a5 hk) (fun k hk e=>by subst e;exact a4 hk),y.ap⟩
end Go.Proofs.YtlaffgagmncgjabDoor
namespace Go.Proofs.YtlaffgagmncgjabDoor
open Go Go.Pat Go.Proofs
theorem plain_setPast:Plain Tryd.prog 81:=⟨_,Tryd.func81,by decide +kernel,by rfl⟩
theorem plain_rising:Plain Tryd.prog 94:=⟨_,Tryd.func94,by decide +kernel,by rfl⟩
structure Gat1 (ps:List PatchD) (q:PatchD) (l:List Nat) (k:Nat):Prop where
 base:∀ n∈q.needs,n∈l
 nodup:l.Nodup
 sub:∀ x∈l,x∈ps.map PatchD.id
 reach:∀ x∈l,Past1 ps q x
 closed:∀ i x,i<k→l[i]? = some x→∀ p∈ps,p.id=x→∀ n∈p.needs,n∈l
theorem Gat1.all {ps:List PatchD} {q:PatchD} {l:List Nat} (g:Gat1 ps q l l.length) (x:Nat):x∈l↔Past1 ps q x:=by
 constructor
 ·exact g.reach x
 ·rintro ⟨n,hn,h⟩
  refine h (fun x=>x∈l) (g.base n hn) fun b d p ih h2 h3 h4=>?_
  obtain ⟨i,hi,he⟩:=List.getElem_of_mem ih
  exact g.closed i _ hi (by rw [List.getElem?_eq_getElem hi,he]) _ h2 h3 _ h4
theorem Gat1.push {ps:List PatchD} {q:PatchD} {l:List Nat} {k m:Nat} {p:PatchD} (g:Gat1 ps q l k) (hp:p∈ps) (hx:p.id∈l) (hm:m∈p.needs) (hn:m∉l) (hc:m∈ps.map PatchD.id) (hk:k≤l.length):Gat1 ps q (l++[m]) k:=by
 refine ⟨fun n hn=>List.mem_append_left _ (g.base n hn),?_,?_,?_,?_⟩
 ·rw [List.nodup_append]
  exact ⟨g.nodup,by simp,fun x hx y hy e=>by simp at hy;subst hy;subst e;exact hn hx⟩
 ·intro x hx'
  rcases List.mem_append.1 hx' with e | e
  ·exact g.sub x e
  ·simp at e;subst e;exact hc
 ·intro x hx'
  rcases List.mem_append.1 hx' with e | e
  ·exact g.reach x e
  ·simp at e;subst e
   obtain ⟨n,h1,h2⟩:=g.reach _ hx
   exact ⟨n,h1,h2.step hp rfl hm⟩
 ·intro i x hi hix p' hp' he n hn'
  rcases Nat.lt_or_ge i l.length with e | e
  ·rw [List.getElem?_append_left e] at hix
   exact List.mem_append_left _ (g.closed i x hi hix p' hp' he n hn')
  ·omega
theorem rising_ret {F:Nat→Prop} (l:List PD3) (lv:Value) (fd:List Nat) (fv:Value) (h:Heap) (hs:XS F h lv l) (hf:Rd h 1 fv fd.length (ints fd)) (hl:l.length≤1000) (hfl:fd.length≤1000000) :
  Ret Tryd.prog 94 #[lv,fv] h fun v h'=>Ext h h'∧Own h' 3 1 v ((idsS (l.map PD3.p)).filter fd.contains).length (ints ((idsS (l.map PD3.p)).filter fd.contains))∧∀ k,v.ownBlock=some k→h.size≤k:=by
 obtain ⟨ad,cap,hv⟩:=hs.rd.form
 subst hv
 refine Ret.of_body Tryd.func94 rfl Tryd.ntmps94 rfl rfl ?_
 refine zgo ?_
 refine Runs.loop (X:=IV) (fun x=>[(0,.slice ad l.length cap),(1,fv),(5,x.v),(6,.int .i64 (x.i:Int))])
  (fun x h'=>x.i≤l.length∧Ext h h'∧Own h' 3 1 x.v ((idsS ((l.take x.i).map PD3.p)).filter fd.contains).length (ints ((idsS ((l.take x.i).map PD3.p)).filter fd.contains))∧(∀ k,x.v.ownBlock=some k→h.size≤k))
  (fun x=>l.length-x.i) ⟨0,.slice none 0 0⟩ ⟨rfl,rfl,rfl,rfl,trivial⟩ ⟨Nat.zero_le _,Fr.refl _ _,Own.nil _ _ _,fun k hk=>by simp [Value.ownBlock] at hk⟩ ?_
 rintro ⟨i,v⟩ h2 ⟨hi,hx2,ho2,hm2⟩ ih
 dsimp only at hi hx2 ho2 hm2 ih ⊢
 have hz2:=hx2.size
 refine zgo ?_
 refine Runs.cond_dec rfl (fun hlt=>?_) (fun hge=>?_)
 ·have hlt':i<l.length:=by omega
  have hget:l[i]? = some l[i]:=List.getElem?_eq_getElem hlt'
  have hsn:(idsS ((l.take (i+1)).map PD3.p)).filter fd.contains=(idsS ((l.take i).map PD3.p)).filter fd.contains++(if fd.contains l[i].p.id=true then [l[i].p.id] else []):=by
   unfold idsS;rw [List.take_succ_eq_append_getElem hlt',List.map_append,List.map_append,List.filter_append]
   congr 1
   simp only [List.map_cons,List.map_nil]
   cases h:fd.contains l[i].p.id<;>simp at h<;>simp [h]
  have hidl:((idsS ((l.take i).map PD3.p)).filter fd.contains).length≤i:=by
   refine Nat.le_trans (List.length_filter_le _ _) ?_
   simp [idsS];omega
  generalize l[i]=y at *
  obtain ⟨b0,p0,cap0,hv,hc,hpv⟩:=(hs.ext hx2).get hget
  cases hv
  have c0:=hc.head
  refine zgo ?_
  refine WO.call rfl rfl rfl rfl plain_Has rfl (Has_ret fd fv (y.p.id:Int) _ (hf.ext hx2) hfl) fun v3 h3 ⟨hh3,hv3⟩=>?_
  subst hh3 hv3
  rw [hasI_nat]
  refine zgo ?_
  refine Runs.cond rfl (fun he=>?_) (fun he=>?_)
  ·rw [if_pos he] at hsn
   refine zgo ?_
   refine zh (one_int _) ho2 ?_
   intro v' h4 o1 o2 o3
   refine zgo ?_
   refine ih ⟨i+1,v'⟩ _ _ (by dsimp only;omega) ⟨rfl,rfl,rfl,rfl,trivial⟩ ⟨hlt',hx2.trans_new (o2.mono (fun k _ e=>.inr (hm2 k e))),?_,?_⟩
   ·dsimp only;rw [hsn];simpa [ints] using o1
   ·intro k hk
    rcases o3 k hk with e | e
    ·exact hm2 k e
    ·omega
  ·rw [if_neg (by rw [he];simp),List.append_nil] at hsn
   refine zgo ?_
   refine ih ⟨i+1,v⟩ _ _ (by dsimp only;omega) ⟨rfl,rfl,rfl,rfl,trivial⟩ ⟨hlt',hx2,?_,hm2⟩
   dsimp only;rw [hsn];exact ho2
 ·rw [List.take_of_length_le (by omega)] at ho2
  refine zgo ?_
  exact Runs.ret Tryd.func94 (ret1 Tryd.results94 rfl) ⟨hx2,ho2,hm2⟩
theorem fd_of_id {l:List PD3} {n:Nat} (hm:n∈(l.map PD3.p).map PatchD.id):∃ y∈l,fdS l (n:Int)=some y∧y.p.id=n:=by
 cases hf:fdS l (n:Int) with
 | some y=>obtain ⟨h1,h2⟩:=fdS_mem hf;exact ⟨y,h1,rfl,by omega⟩
 | none =>
  unfold fdS at hf
  rw [List.find?_eq_none] at hf
  obtain ⟨p,hp,e⟩:=List.mem_map.1 hm
  obtain ⟨y,hy,rfl⟩:=List.mem_map.1 hp
  have:=hf y hy
  simp at this
  omega
theorem setPast_ret {F:Nat→Prop} (l:List PD3) (lv:Value) (x:PD3) (h:Heap) (hs:XS F h lv l) (hp:PV F h x) (hcl:Closed (l.map PD3.p)) (hl:l.length≤1000) (hnl:∀ y∈l,y.p.needs.length≤1000) (hsub:∀ n∈x.p.needs,n∈(l.map PD3.p).map PatchD.id) (hnd:x.p.needs.Nodup) :
  Ret Tryd.prog 81 #[lv,.agg x.cells.toArray] h fun v h'=>Ext h h'∧∃ f:Nat→Bool,(∀ n,f n=true↔Past1 (l.map PD3.p) x.p n)∧Own h' 3 1 v ((idsS (l.map PD3.p)).filter f).length (ints ((idsS (l.map PD3.p)).filter f))∧∀ k,v.ownBlock=some k→h.size≤k:=by
 obtain ⟨ad,cap,hv⟩:=hs.rd.form
 subst hv
 have hxl:x.p.needs.length≤l.length:=by have:=nodup_len hnd hsub;simpa using this
 refine Ret.of_body Tryd.func81 rfl Tryd.ntmps81 rfl rfl ?_
 refine zgo ?_
 refine WO.box rfl rfl rfl rfl rfl rfl fun h0 hb0 hx0 hs0=>?_
 have g1:=hb0.cell (j:=1) rfl
 refine zgo ?_
 refine WO.ex rfl rfl rfl (ox_append tab_ok rfl rfl rfl rfl rfl rfl rfl (Own.nil _ _ _) (hp.needs.ext hx0) (by intro u hu;simp only [ints,List.mem_map] at hu;obtain ⟨_,_,rfl⟩:=hu;rfl) (by dsimp only;omega) ?_)
 intro v1 h1 o1 o2 o3
 dsimp only at o1
 rw [List.nil_append,Nat.zero_add] at o1
 have hx1:Ext h h1:=hx0.trans (o2.mono fun k _ e=>by simp [Value.ownBlock] at e)
 have hm1:∀ k,v1.ownBlock=some k→h.size≤k:=fun k hk=>by
  rcases o3 with e | e
  ·rw [e] at hk;simp [Value.ownBlock] at hk
  ·rw [e] at hk;cases hk;have:=hx0.size;omega
 have hfirst:Gat1 (l.map PD3.p) x.p x.p.needs 0:=⟨fun _ h=>h,hnd,hsub,fun y hy=>⟨y,hy,.refl⟩,fun i x hi=>by omega⟩
 refine zgo ?_
 refine Runs.loop (X:=PX) (fun y=>[(0,.slice ad l.length cap),(5,y.v),(6,.int .i64 (y.k:Int))])
  (fun y h'=>Gat1 (l.map PD3.p) x.p y.l y.k∧y.k≤y.l.length∧Ext h h'∧Own h' 3 1 y.v y.l.length (ints y.l)∧(∀ k,y.v.ownBlock=some k→h.size≤k))
  (fun y=>l.length-y.k) ⟨0,v1,x.p.needs⟩ ⟨rfl,rfl,rfl,trivial⟩ ⟨hfirst,Nat.zero_le _,hx1,o1,hm1⟩ ?_
 rintro ⟨k,v,fl⟩ h2 ⟨hg,hk,hx2,ho2,hm2⟩ ih
 dsimp only at hg hk hx2 ho2 hm2 ih ⊢
 have hll:fl.length≤l.length:=by have:=nodup_len hg.nodup hg.sub;simpa using this
 obtain ⟨adv,capv,hvv⟩:=ho2.rd.form
 subst hvv
 refine zgo ?_
 refine Runs.cond_dec rfl (fun hlt=>?_) (fun hge=>?_)
 ·have hlt':k<fl.length:=by omega
  have hget:fl[k]? = some fl[k]:=List.getElem?_eq_getElem hlt'
  have hmem:fl[k]∈fl:=List.getElem_mem hlt'
  generalize fl[k]=z at *
  obtain ⟨b0,p0,cap0,hv,_,hcell⟩:=ho2.rd.cell (ints_get hget)
  cases hv
  refine zgo ?_
  refine WO.call rfl rfl rfl rfl plain_Find rfl (Find_ret l _ (z:Int) _ (hs.ext hx2) hl) fun v3 h3 ⟨hx3,hf3⟩=>?_
  obtain ⟨y,hym,hfd,hyz⟩:=fd_of_id (hg.sub z hmem)
  rw [hfd] at hf3
  unfold found at hf3
  dsimp only at hf3
  subst hf3
  have hx03:=hx2.trans hx3
  have hpy:=(hs.pv y hym)
  have hypm:y.p∈l.map PD3.p:=List.mem_map.2 ⟨y,hym,rfl⟩
  refine zgo ?_
  refine zv hpy.one fun h4 hb4 hx4 hs4=>?_
  have hx04:=hx03.trans hx4
  have g4:=hb4.cell (j:=1) rfl
  obtain ⟨adn,capn,hnv⟩:=hpy.needs.form
  have hpn:=hpy.needs
  have hpnl:=hnl y hym
  rw [hnv] at g4 hpn
  have hlt4:=hb4.lt
  refine zgo ?_
  refine Runs.loop (X:=PX) (fun u=>[(0,.slice ad l.length cap),(5,u.v),(6,.int .i64 (k:Int)),(7,.pointer (some ⟨h3.size,0,none⟩)),(9,.int .i64 (u.k:Int))])
   (fun u h'=>Gat1 (l.map PD3.p) x.p u.l k∧k<u.l.length∧u.l[k]? = some z∧(∀ n∈y.p.needs.take u.k,n∈u.l)∧u.k≤y.p.needs.length∧Ext h h'∧Own h' 3 1 u.v u.l.length (ints u.l)∧(∀ k,u.v.ownBlock=some k→h.size≤k∧k≠h3.size)∧cellAt h' h3.size (0+1)=some (.slice adn y.p.needs.length capn)∧h4.size≤h'.size)
   (fun u=>y.p.needs.length-u.k) ⟨0,_,fl⟩ ⟨rfl,rfl,rfl,rfl,rfl,trivial⟩ ⟨hg,hlt',hget,by simp,Nat.zero_le _,hx04,ho2.fr (hx3.trans hx4) (by simp),fun k hk=>⟨hm2 k hk,by have:=ho2.lt k hk;have:=hx3.size;omega⟩,g4,Nat.le_refl _⟩ ?_
  rintro ⟨j,v5,l5⟩ h5 ⟨hg5,hk5,hget5,hnd5,hj5,hx5,ho5,hm5,g5,hz5⟩ ih5
  dsimp only at hg5 hk5 hget5 hnd5 hj5 hx5 ho5 hm5 g5 hz5 ih5 ⊢
  have hll5:l5.length≤l.length:=by have:=nodup_len hg5.nodup hg5.sub;simpa using this
  refine zgo ?_
  refine Runs.cond_dec rfl (fun hlt5=>?_) (fun hge5=>?_)
  ·have hltj:j<y.p.needs.length:=by omega
   have hgetj:y.p.needs[j]? = some y.p.needs[j]:=List.getElem?_eq_getElem hltj
   have hmemj:y.p.needs[j]∈y.p.needs:=List.getElem_mem hltj
   have hsn:y.p.needs.take (j+1)=y.p.needs.take j++[y.p.needs[j]]:=List.take_succ_eq_append_getElem hltj
   generalize y.p.needs[j]=m at *
   obtain ⟨b6,p6,cap6,hv6,_,hcell6⟩:=(hpn.ext hx5).cell (ints_get hgetj)
   cases hv6
   have hn5:∀ l6:List Nat,(∀ q∈l5,q∈l6)→m∈l6→∀ n∈y.p.needs.take (j+1),n∈l6:=fun l6 hsub hm6 n hn=>by
    rw [hsn] at hn
    rcases List.mem_append.1 hn with e | e
    ·exact hsub _ (hnd5 n e)
    ·simp at e;subst e;exact hm6
   refine zgo ?_
   refine WO.call rfl rfl rfl rfl plain_Has rfl (Has_ret l5 v5 (m:Int) _ ho5.rd (by omega)) fun v7 h7 ⟨hh7,hv7⟩=>?_
   subst hh7 hv7
   rw [hasI_nat]
   cases hc:l5.contains m
   ·have hnot:m∉l5:=fun e=>by have:=List.contains_iff_mem.2 e;rw [hc] at this;cases this
    refine zgo ?_
    refine zh (one_int _) ho5 ?_
    intro v' h8 q1 q2 q3
    refine zgo ?_
    have hsz:=hx5.size
    refine ih5 ⟨j+1,v',l5++[m]⟩ _ _ (by dsimp only;omega) ⟨rfl,rfl,rfl,rfl,rfl,trivial⟩ ⟨hg5.push hypm (by rw [hyz];exact List.mem_of_getElem? hget5) hmemj hnot (hcl.needs _ hypm m hmemj) (by omega),by simp;omega,?_,hn5 _ (fun q hq=>List.mem_append_left _ hq) (by simp),hltj,hx5.trans_new (q2.mono (fun k _ e=>.inr (hm5 k e).1)),?_,?_,q2.cell (fun e=>(hm5 _ e).2 rfl) g5,by have:=q2.size;omega⟩
    ·dsimp only;rw [List.getElem?_append_left hk5];exact hget5
    ·simpa [ints] using q1
    ·intro k hk
     rcases q3 k hk with e | e
     ·exact hm5 k e
     ·exact ⟨by omega,by omega⟩
   ·have hin:m∈l5:=List.contains_iff_mem.1 hc
    refine zgo ?_
    exact ih5 ⟨j+1,v5,l5⟩ _ _ (by dsimp only;omega) ⟨rfl,rfl,rfl,rfl,rfl,trivial⟩ ⟨hg5,hk5,hget5,hn5 _ (fun q hq=>hq) hin,hltj,hx5,ho5,hm5,g5,hz5⟩
  ·have hnd':∀ n∈y.p.needs,n∈l5:=by rw [List.take_of_length_le (by omega)] at hnd5;exact hnd5
   refine zgo ?_
   refine ih ⟨k+1,v5,l5⟩ _ _ (by dsimp only;omega) ⟨rfl,rfl,rfl,trivial⟩ ⟨⟨hg5.base,hg5.nodup,hg5.sub,hg5.reach,?_⟩,hk5,hx5,ho5,fun k hk=>(hm5 k hk).1⟩
   intro i' x' hi' hix' p' hp' he' n hn'
   rcases Nat.lt_or_ge i' k with e | e
   ·exact hg5.closed i' x' e hix' p' hp' he' n hn'
   ·have hik:i'=k:=by dsimp only at hi';omega
    subst hik
    have hxx:x'=z:=by have:=hix'.symm.trans hget5;simpa using this
    have:p'=y.p:=ids_inj hcl.nodup hp' hypm (by rw [he',hxx,hyz])
    subst this
    exact hnd' n hn'
 ·have hkl:k=fl.length:=by omega
  subst hkl
  refine zgo ?_
  refine WO.call rfl rfl rfl rfl plain_rising rfl (rising_ret l _ fl _ _ (hs.ext hx2) ho2.rd hl (by omega)) fun v3 h3 ⟨hx3,ho3,hm3⟩=>?_
  refine zgo ?_
  refine Runs.ret Tryd.func81 (ret1 Tryd.results81 rfl) ⟨hx2.trans hx3,fl.contains,fun n=>?_,ho3,fun k hk=>by have:=hm3 k hk;have:=hx2.size;omega⟩
  rw [List.contains_iff_mem]
  exact hg.all n
theorem needs_nodup {p:PatchD} (h:formedS p=true):p.needs.Nodup:=by
 have h1:(List.range p.needs.length).all (needOk p)=true:=by unfold formedS at h;simp only [Bool.and_eq_true] at h;exact h.1
 rw [← needs_part] at h1
 simp only [Bool.and_eq_true] at h1
 have hr:=h1.1
 unfold riseS at hr
 rw [List.all_eq_true] at hr
 have hp:p.needs.Pairwise (· < ·):=by
  rw [List.pairwise_iff_getElem]
  have step:∀ d i (hi:i<p.needs.length) (hj:i+(d+1)<p.needs.length),p.needs[i]<p.needs[i+(d+1)]:=by
   intro d
   induction d with
   | zero =>
    intro i hi hj
    have:=hr (i+1) (List.mem_range.2 (by omega))
    simpa [List.getD_eq_getElem?_getD,hi,show i+1<p.needs.length by omega] using this
   | succ d ih =>
    intro i hi hj
    have h1:=ih i hi (by omega)
    have:=hr (i+(d+1)+1) (List.mem_range.2 (by omega))
    have h2:p.needs[i+(d+1)]<p.needs[i+(d+1)+1]:=by
     simpa [List.getD_eq_getElem?_getD,show i+(d+1)<p.needs.length by omega,show i+(d+1)+1<p.needs.length by omega] using this
    have h3:p.needs[i+(d+1+1)]=p.needs[i+(d+1)+1]:=rfl
    omega
  intro i j hi hj hij
  have:=step (j-i-1) i hi (by omega)
  have e:i+(j-i-1+1)=j:=by omega
  simpa [e] using this
 exact hp.imp fun h=>by omega
theorem Inv.ndup {ps:List PatchD} (h:Inv ps) {p:PatchD} (hp:p∈ps):p.needs.Nodup:=by
 obtain ⟨t,_,e⟩:=h.fine p hp
 exact needs_nodup e
def PastX (ps:List PatchD) (q:Int) (h:Heap) (v:Value) (h':Heap):Prop :=
 ((∀ p∈ps,(p.id:Int)≠q)∧v = .tuple #[.slice none 0 0,.int .i64 8]) ∨
 ∃ p∈ps,(p.id:Int)=q∧∃ (w:Value) (f:Nat→Bool),v = .tuple #[w,.int .i64 0]∧(∀ n,f n=true↔Past1 ps p n)∧Own h' 3 1 w ((idsS ps).filter f).length (ints ((idsS ps).filter f))∧∀ k,w.ownBlock=some k→h.size≤k
end Go.Proofs.YtlaffgagmncgjabDoor
namespace Go.Proofs.YtlaffgagmncgjabDoor
open Go Go.Pat Go.Proofs
theorem plain_tellsDead:Plain Tryd.prog 111:=⟨_,Tryd.func111,by decide +kernel,by rfl⟩
theorem plain_isToldDead:Plain Tryd.prog 95:=⟨_,Tryd.func95,by decide +kernel,by rfl⟩
theorem plain_wplace:Plain Tryd.prog 112:=⟨_,Tryd.func112,by decide +kernel,by rfl⟩
theorem plain_join:Plain Tryd.prog 96:=⟨_,Tryd.func96,by decide +kernel,by rfl⟩
def killsB (p:PatchD) (r:RefD):Bool:=p.changes.any fun c=>decide (c.kind=2)&&c.up.eqb r
def toldB (ps:List PatchD) (r:RefD):Bool:=ps.any fun p=>killsB p r
theorem ref_eq {a b:RefD} (h:(a.p:Int)=b.p∧(a.i:Int)=b.i):a.eqb b=true:=by
 unfold RefD.eqb;simp;omega
theorem ref_ne {a b:RefD} (h:¬ ((a.p:Int)=b.p∧(a.i:Int)=b.i)):a.eqb b=false:=by
 unfold RefD.eqb;simp;omega
theorem toldB_live {ps:List PatchD} {all:List LineD} {k:Nat} {l:LineD} (h:all[k]? = some l):isLive ps all k = !toldB ps l.ref:=by
 unfold isLive
 rw [h]
 dsimp only
 rw [Bool.eq_iff_iff,decide_eq_true_iff]
 simp only [Bool.not_eq_true',toldB,killsB,List.any_eq_false,killersS,kills]
 rw [List.length_eq_zero_iff,List.flatMap_eq_nil_iff]
 constructor
 ·intro h p hp e
  obtain ⟨c,hc,e2⟩:=List.any_eq_true.1 e
  have h2:=h p hp
  rw [List.map_eq_nil_iff,List.filter_eq_nil_iff] at h2
  exact h2 c hc e2
 ·intro h p hp
  rw [List.map_eq_nil_iff,List.filter_eq_nil_iff]
  intro c hc e
  exact h p hp (List.any_eq_true.2 ⟨c,hc,e⟩)
theorem tellsDead_ret {F:Nat→Prop} (x:PD3) (r:RefD) (h:Heap) (hp:PV F h x) (hl:x.p.changes.length≤1000) :
  Ret Tryd.prog 111 #[.agg x.cells.toArray,.agg r.cells.toArray] h fun v h'=>Ext h h'∧v = .bool (killsB x.p r):=by
 refine Ret.of_body Tryd.func111 rfl Tryd.ntmps111 rfl rfl ?_
 obtain ⟨ad,cap,hcv⟩:=hp.changes.form
 have hcc:=hp.changes
 rw [hcv] at hcc
 refine zgo ?_
 refine WO.box rfl rfl rfl rfl rfl rfl fun h1 hb1 hx1 hs1=>?_
 refine zgo ?_
 refine WO.box rfl rfl rfl rfl rfl rfl fun h2 hb2 hx2 hs2=>?_
 have hx02:=hx1.trans hx2
 have g2:=hx2.xc (hb1.cell (j:=2) rfl)
 rw [hcv] at g2
 have e2:Cells h2 h1.size 0 r.cells:=hb2.cells
 refine zgo ?_
 refine Runs.loop (X:=Nat) (fun i=>[(2,.pointer (some ⟨h.size,0,none⟩)),(3,.pointer (some ⟨h1.size,0,none⟩)),(5,.int .i64 (i:Int))])
  (fun i h'=>h2=h'∧i≤x.p.changes.length∧∀ c∈x.p.changes.take i,(decide (c.kind=2)&&c.up.eqb r)=false) (fun i=>x.p.changes.length-i) 0 ⟨rfl,rfl,rfl,trivial⟩ ⟨rfl,Nat.zero_le _,by simp⟩ ?_
 rintro i _ ⟨rfl,hi,hall⟩ ih
 refine zgo ?_
 refine Runs.cond_dec rfl (fun hlt=>?_) (fun hge=>?_)
 ·have hlt':i<x.p.changes.length:=by omega
  have hget:x.p.changes[i]? = some x.p.changes[i]:=List.getElem?_eq_getElem hlt'
  have hmem:x.p.changes[i]∈x.p.changes:=List.getElem_mem hlt'
  have hsn:x.p.changes.take (i+1)=x.p.changes.take i++[x.p.changes[i]]:=List.take_succ_eq_append_getElem hlt'
  generalize x.p.changes[i]=c at *
  obtain ⟨b0,p0,cap0,hv,_,hcells⟩:=(hcc.ext hx02).pos (by omega)
  cases hv
  have hch:=changes_get hcells hget
  have c0:cellAt h2 b0 (p0+i*6+0)=some (.int .i64 (c.kind:Int)):=hch.head
  have e1:Cells h2 b0 (p0+i*6+1) c.up.cells:=hch.tail.take 2
  have next:(decide (c.kind=2)&&c.up.eqb r)=false→∀ d∈x.p.changes.take (i+1),(decide (d.kind=2)&&d.up.eqb r)=false:=fun hc d hd=>by
   rw [hsn] at hd
   rcases List.mem_append.1 hd with e | e
   ·exact hall d e
   ·simp at e;subst e;exact hc
  refine zgo ?_
  refine Runs.still mixed (by kernel_rfl) ?_
  refine zws ?_
  by_cases hk:c.kind=2
  ·have hd:decide ((c.kind:Int)=2)=true:=decide_eq_true (by omega)
   rw [hd]
   refine zws ?_
   refine WS.val (ov_eql2 two107 rfl rfl rfl) rfl rfl rfl ?_
   refine zws ?_
   refine Runs.cond_dec rfl (fun heq=>?_) (fun hne=>?_)
   ·refine zgo ?_
    refine Runs.ret Tryd.func111 (ret1 Tryd.results111 rfl) ⟨hx02,?_⟩
    congr 1;symm
    exact List.any_eq_true.2 ⟨c,hmem,by rw [ref_eq heq];simp [hk]⟩
   ·refine zgo ?_
    exact ih (i+1) _ _ (by omega) ⟨rfl,rfl,rfl,trivial⟩ ⟨rfl,hlt',next (by rw [ref_ne hne];simp)⟩
  ·have hd:decide ((c.kind:Int)=2)=false:=decide_eq_false (by omega)
   rw [hd]
   refine zws ?_
   refine zgo ?_
   exact ih (i+1) _ _ (by omega) ⟨rfl,rfl,rfl,trivial⟩ ⟨rfl,hlt',next (by simp [hk])⟩
 ·rw [List.take_of_length_le (by omega)] at hall
  refine zgo ?_
  refine Runs.ret Tryd.func111 (ret1 Tryd.results111 rfl) ⟨hx02,?_⟩
  congr 1;symm
  unfold killsB
  rw [List.any_eq_false]
  intro c hc;simp [hall c hc]
theorem isToldDead_ret {F:Nat→Prop} (wb:Nat) (l:List PD3) (lv:Value) (r:RefD) (h:Heap) (w0:cellAt h wb 0=some lv) (hs:XS F h lv l) (hl:l.length≤1000) (hcl:∀ y∈l,y.p.changes.length≤1000) :
  Ret Tryd.prog 95 #[.pointer (some ⟨wb,0,none⟩),.agg r.cells.toArray] h fun v h'=>Ext h h'∧v = .bool (toldB (l.map PD3.p) r):=by
 refine Ret.of_body Tryd.func95 rfl Tryd.ntmps95 rfl rfl ?_
 obtain ⟨ad,cap,hv⟩:=hs.rd.form
 subst hv
 refine zgo ?_
 refine WO.box rfl rfl rfl rfl rfl rfl fun h1 hb1 hx1 hs1=>?_
 refine zgo ?_
 refine Runs.loop (X:=Nat) (fun i=>[(0,.pointer (some ⟨wb,0,none⟩)),(3,.pointer (some ⟨h.size,0,none⟩)),(5,.int .i64 (i:Int))])
  (fun i h'=>Ext h1 h'∧i≤l.length∧∀ y∈l.take i,killsB y.p r=false) (fun i=>l.length-i) 0 ⟨rfl,rfl,rfl,trivial⟩ ⟨Fr.refl _ _,Nat.zero_le _,by simp⟩ ?_
 rintro i h2 ⟨hx2,hi,hall⟩ ih
 have hx02:=hx1.trans hx2
 have w2:=hx02.xc w0
 refine zgo ?_
 refine Runs.cond_dec rfl (fun hlt=>?_) (fun hge=>?_)
 ·have hlt':i<l.length:=by omega
  have hget:l[i]? = some l[i]:=List.getElem?_eq_getElem hlt'
  have hmem:l[i]∈l:=List.getElem_mem hlt'
  have hsn:l.take (i+1)=l.take i++[l[i]]:=List.take_succ_eq_append_getElem hlt'
  generalize l[i]=y at *
  obtain ⟨b0,p0,cap0,hv,hc,hpv⟩:=(hs.ext hx02).get hget
  cases hv
  have e2:Cells h2 h.size 0 r.cells:=hx2.xcs hb1.cells
  refine zgo ?_
  refine Runs.drawn (m:=9) (fun h'=>Ext h2 h') (fun _=>false) mixed rfl ?_
  refine zp 0 (Fr.refl _ _) ?_
  refine zp 1 (Fr.refl _ _) ?_
  refine zp 2 (Fr.refl _ _) ?_
  refine zl 3 (fun _ hS=>(Fr.xc hS w2)) (Fr.refl _ _) ?_
  refine zp 4 (Fr.refl _ _) ?_
  refine WF.take 5 rfl (fun _ _=>ov_indexAddr tab_ok rfl rfl rfl rfl rfl rfl (by omega)) (Fr.refl _ _) rfl rfl rfl (by kernel_rfl) ?_
  refine zL 6 (fun _ hS=>(Fr.xcs hS hc)) (Fr.refl _ _) ?_
  refine zL 7 (fun _ hS=>(Fr.xcs hS e2)) (Fr.refl _ _) ?_
  refine WF.call 8 (by kernel_rfl) rfl rfl rfl rfl rfl plain_tellsDead rfl (tellsDead_ret y r _ hpv (hcl y hmem)) fun v3 h3 ⟨hx3,hv3⟩=>⟨.inr hx3,?_⟩
  subst hv3
  refine WF.done (by kernel_rfl) ?_
  refine Runs.cond rfl (fun he=>?_) (fun he=>?_)
  ·refine zgo ?_
   refine Runs.ret Tryd.func95 (ret1 Tryd.results95 rfl) ⟨hx02.trans hx3,?_⟩
   congr 1;symm
   exact List.any_eq_true.2 ⟨y.p,List.mem_map.2 ⟨y,hmem,rfl⟩,he⟩
  ·refine zgo ?_
   refine ih (i+1) _ _ (by omega) ⟨rfl,rfl,rfl,trivial⟩ ⟨hx2.trans hx3,hlt',fun z hz=>?_⟩
   rw [hsn] at hz
   rcases List.mem_append.1 hz with e | e
   ·exact hall z e
   ·simp at e;subst e;exact he
 ·rw [List.take_of_length_le (by omega)] at hall
  refine zgo ?_
  refine Runs.ret Tryd.func95 (ret1 Tryd.results95 rfl) ⟨hx02,?_⟩
  congr 1;symm
  unfold toldB
  rw [List.any_map,List.any_eq_false]
  intro y hy;simp [hall y hy]
def lnsOf (n:Nat) (w:Nat→WL):List LineD:=(List.range n).map fun k=>(w k).l
theorem lnsOf_get {n k:Nat} {w:Nat→WL} (h:k<n):(lnsOf n w)[k]? = some (w k).l:=by simp [lnsOf,h]
theorem lnsOf_length (n:Nat) (w:Nat→WL):(lnsOf n w).length=n:=by simp [lnsOf]
theorem wplace_ret (wb n:Nat) (w:Nat→WL) (lv:Value) (r:RefD) (h:Heap) (w2:cellAt h wb 2=some lv) (hr:Rd h 13 lv n (wlsC n w)) (hl:n≤100000) :
  Ret Tryd.prog 112 #[.pointer (some ⟨wb,0,none⟩),.agg r.cells.toArray] h fun v h'=>Ext h h'∧((∃ i:Nat,placeS (lnsOf n w) r=some i∧i<n∧v = .int .i64 (i:Int))∨(placeS (lnsOf n w) r=none∧v = .int .i64 (-1))):=by
 obtain ⟨ad,cap,hv⟩:=hr.form
 subst hv
 refine Ret.of_body Tryd.func112 rfl Tryd.ntmps112 rfl rfl ?_
 refine zgo ?_
 refine WO.box rfl rfl rfl rfl rfl rfl fun h1 hb1 hx1 hs1=>?_
 have w3:=hx1.xc w2
 refine zgo ?_
 refine Runs.loop (X:=Nat) (fun i=>[(0,.pointer (some ⟨wb,0,none⟩)),(3,.pointer (some ⟨h.size,0,none⟩)),(5,.int .i64 (i:Int))])
  (fun i h'=>h1=h'∧i≤n∧∀ k,k<i→(w k).l.ref.eqb r=false) (fun i=>n-i) 0 ⟨rfl,rfl,rfl,trivial⟩ ⟨rfl,Nat.zero_le _,by omega⟩ ?_
 rintro i _ ⟨rfl,hi,hall⟩ ih
 refine zgo ?_
 refine Runs.cond_dec rfl (fun hlt=>?_) (fun hge=>?_)
 ·have hlt':i<n:=by omega
  obtain ⟨b0,p0,cap0,hv,_,hcells⟩:=(hr.ext hx1).pos (by omega)
  cases hv
  have hcc:=wlsC_cells hcells hlt'
  have e1:Cells h1 b0 (p0+i*13+0) (w i).l.ref.cells:=hcc.take 2
  have e2:Cells h1 h.size 0 r.cells:=hb1.cells
  refine zgo ?_
  refine Runs.still mixed (by kernel_rfl) ?_
  refine zws ?_
  refine WS.val (ov_eql2 two107 rfl rfl rfl) rfl rfl rfl ?_
  refine zws ?_
  refine Runs.cond_dec rfl (fun heq=>?_) (fun hne=>?_)
  ·refine zgo ?_
   refine Runs.ret Tryd.func112 (ret1 Tryd.results112 rfl) ⟨hx1,.inl ⟨i,?_,hlt',rfl⟩⟩
   unfold placeS
   rw [List.findIdx?_eq_some_iff_getElem]
   refine ⟨by rw [lnsOf_length];exact hlt',by simpa [lnsOf] using ref_eq heq,fun j hj=>?_⟩
   simpa [lnsOf] using hall j hj
  ·refine zgo ?_
   refine ih (i+1) _ _ (by omega) ⟨rfl,rfl,rfl,trivial⟩ ⟨rfl,by omega,fun k hk=>?_⟩
   rcases Nat.lt_or_ge k i with e | e
   ·exact hall k e
   ·have:k=i:=by omega
    subst this;exact ref_ne hne
 ·refine zgo ?_
  refine Runs.ret Tryd.func112 (ret1 Tryd.results112 rfl) ⟨hx1,.inr ⟨?_,rfl⟩⟩
  unfold placeS
  rw [List.findIdx?_eq_none_iff]
  intro l hl
  obtain ⟨k,hk,rfl⟩:=List.mem_map.1 hl
  exact hall k (by have:=List.mem_range.1 hk;omega)
theorem join_ret (wb n:Nat) (w:Nat→WL) (lv dv:Value) (rbs:List Nat) (m:List (List Bool)) (a c:RefD) (h:Heap) (w2:cellAt h wb 2=some lv) (w3:cellAt h wb 3=some dv) (hr:Rd h 13 lv n (wlsC n w)) (hl:n≤100000) (hom:LM h 4 n dv rbs m) :
  Ret Tryd.prog 96 #[.pointer (some ⟨wb,0,none⟩),.agg a.cells.toArray,.agg c.cells.toArray] h fun _ h'=>Fr (fun k=>k∈rbs) h h'∧LM h' 4 n dv rbs (sayS (lnsOf n w) a c m):=by
 refine Ret.of_body Tryd.func96 rfl Tryd.ntmps96 rfl rfl ?_
 refine zgo ?_
 refine WO.box rfl rfl rfl rfl rfl rfl fun h1 hb1 hx1 hs1=>?_
 have e1:Cells h1 h.size 0 a.cells:=hb1.cells
 refine zgo ?_
 refine WO.box rfl rfl rfl rfl rfl rfl fun h2 hb2 hx2 hs2=>?_
 have e2:Cells h2 h1.size 0 c.cells:=hb2.cells
 have e1':=hx2.xcs e1
 have hx12:=hx1.trans hx2
 refine zgo ?_
 refine WO.call rfl rfl rfl rfl plain_wplace rfl (wplace_ret wb n w lv a _ (hx12.xc w2) (hr.ext hx12) hl) fun v3 h3 ⟨hx3,hp3⟩=>?_
 have e2':=hx3.xcs e2
 have hx13:=hx12.trans hx3
 have hv3:∃ q:Int,v3 = .int .i64 q:=by
  rcases hp3 with ⟨y,_,_,e⟩ | ⟨_,e⟩
  ·exact ⟨_,e⟩
  ·exact ⟨_,e⟩
 obtain ⟨q3,rfl⟩:=hv3
 refine zgo ?_
 refine WO.call rfl rfl rfl rfl plain_wplace rfl (wplace_ret wb n w lv c _ (hx13.xc w2) (hr.ext hx13) hl) fun v4 h4 ⟨hx4,hp4⟩=>?_
 have hx14:=hx13.trans hx4
 have hom4:=hom.ext hx14
 have w4:=hx14.xc w3
 rcases hp3 with ⟨x,hpx,hxl,hq3⟩ | ⟨hpx,hq3⟩
 ·cases hq3
  rcases hp4 with ⟨y,hpy,hyl,rfl⟩ | ⟨hpy,rfl⟩
  ·obtain ⟨ob,p,cap,rb,r,hdv,hrb,hmr,hrl,hcell,hblk,hget⟩:=hom4.get hxl
   rw [hdv] at w4
   have d1:decide ((0:Int)≤(x:Int))=true:=decide_eq_true (by omega)
   have d2:decide ((0:Int)≤(y:Int))=true:=decide_eq_true (by omega)
   refine zgo ?_
   rw [d1]
   refine zgo ?_
   rw [d2]
   refine zgo ?_
   refine WO.put1 tab_ok rfl rfl rfl rfl rfl rfl rfl (one_bool _) hblk (by simp [bools];omega) fun h5 hb5 hx5 hs5=>?_
   rw [Nat.zero_add,Nat.mul_one] at hb5
   refine zgo ?_
   refine Runs.fall Tryd.func96 (ret0 Tryd.results96) ⟨(hx14.mono (fun _ _ e=>e.elim)).trans (hx5.mono (fun k _ e=>by subst e;exact List.mem_of_getElem? hrb)),?_⟩
   unfold sayS
   rw [hpx,hpy]
   exact hom4.set hrb hmr hb5 hx5
  ·have d1:decide ((0:Int)≤(x:Int))=true:=decide_eq_true (by omega)
   refine zgo ?_
   rw [d1]
   refine zgo ?_
   refine Runs.fall Tryd.func96 (ret0 Tryd.results96) ⟨hx14.mono (fun _ _ e=>e.elim),?_⟩
   unfold sayS
   rw [hpx,hpy]
   exact hom4
 ·cases hq3
  have hv4:∃ q:Int,v4 = .int .i64 q:=by
   rcases hp4 with ⟨y,_,_,e⟩ | ⟨_,e⟩
   ·exact ⟨_,e⟩
   ·exact ⟨_,e⟩
  obtain ⟨q,rfl⟩:=hv4
  refine zgo ?_
  refine Runs.fall Tryd.func96 (ret0 Tryd.results96) ⟨hx14.mono (fun _ _ e=>e.elim),?_⟩
  unfold sayS
  rw [hpx]
  exact hom4
end Go.Proofs.YtlaffgagmncgjabDoor
namespace Go.Proofs.YtlaffgagmncgjabDoor
open Go Go.Pat Go.Proofs
theorem plain_addLines:Plain Tryd.prog 82:=⟨_,Tryd.func82,by decide +kernel,by rfl⟩
def mkW (ps:List PatchD) (pt:Nat) (l:LineD):WL:=⟨l,pt,toldB ps l.ref,false,0,0,-1⟩
def wlC (L:List WL):List Value:=L.flatMap WL.cells
theorem wlC_append (l m:List WL):wlC (l++m)=wlC l++wlC m:=by simp [wlC]
structure ALX where
 (i:Nat) (lv:Value)
theorem addLines_ret {F:Nat→Prop} (lo wb pt:Nat) (pv qv lv dv:Value) (l:List PD3) (y:PD3) (L:List WL) (h:Heap) (hb:Blk h wb [pv,qv,lv,dv] 126) (hs:XS F h pv l) (hF:∀ k,F k→k<lo) (hwb:lo≤wb) (hy:l[pt]? = some y)
  (hl:l.length≤1000) (hcl:∀ y∈l,y.p.changes.length≤1000) (ho:Own h 130 13 lv L.length (wlC L)) (hlv:∀ k,lv.ownBlock=some k→lo≤k∧k≠wb) (hL:L.length≤100000) :
  Ret Tryd.prog 82 #[.pointer (some ⟨wb,0,none⟩),.int .i64 (pt:Int)] h fun _ h'=>Fr (fun k=>k=wb∨lv.ownBlock=some k) h h'∧∃ lv',Blk h' wb [pv,qv,lv',dv] 126∧Own h' 130 13 lv' (L++(linesOfS y.p).map (mkW (l.map PD3.p) pt)).length (wlC (L++(linesOfS y.p).map (mkW (l.map PD3.p) pt)))∧Moved h lv lv':=by
 refine Ret.of_body Tryd.func82 rfl Tryd.ntmps82 rfl rfl ?_
 obtain ⟨b0,p0,cap0,hpv,hyc,hyv⟩:=hs.get hy
 have hlt:pt<l.length:=(List.getElem?_eq_some_iff.1 hy).1
 have hmem:y∈l:=List.mem_of_getElem? hy
 have hyl:=hcl y hmem
 have hbl:=hb.lt
 subst hpv
 have w0:=hb.cell (j:=0) rfl
 refine zgo ?_
 refine zv hyv.one fun h1 hb1 hx1 hs1=>?_
 obtain ⟨adc,capc,hcv⟩:=hyv.changes.form
 have hcc:=hyv.changes
 rw [hcv] at hcc
 have hownl:=ho.lt
 refine zgo ?_
 refine Runs.loop (X:=ALX) (fun x=>[(0,.pointer (some ⟨wb,0,none⟩)),(1,.int .i64 (pt:Int)),(4,.pointer (some ⟨h.size,0,none⟩)),(5,.int .i64 ((ownN (y.p.changes.take x.i):Nat):Int)),(6,.int .i64 (x.i:Int))])
  (fun x h'=>x.i≤y.p.changes.length∧Fr (fun k=>k=wb∨lv.ownBlock=some k) h1 h'∧Blk h' wb [.slice (some ⟨b0,p0,none⟩) l.length cap0,qv,x.lv,dv] 126∧Own h' 130 13 x.lv (L++(linesUp y.p.id (y.p.changes.take x.i)).map (mkW (l.map PD3.p) pt)).length (wlC (L++(linesUp y.p.id (y.p.changes.take x.i)).map (mkW (l.map PD3.p) pt)))∧Moved h1 lv x.lv)
  (fun x=>y.p.changes.length-x.i) ⟨0,lv⟩ ⟨rfl,rfl,rfl,rfl,rfl,trivial⟩ ⟨Nat.zero_le _,Fr.refl _ _,hb.ext hx1,by simpa [linesUp] using ho.fr hx1 (by simp),Moved.refl _ _⟩ ?_
 rintro ⟨i,lv2⟩ h2 ⟨hi,hf2,hb2,ho2,hm2⟩ ih
 dsimp only at hi hf2 hb2 ho2 hm2 ih ⊢
 have hz2:=hf2.size
 have hp2:Blk h2 h.size y.cells 68:=hb1.fr hf2 (fun e=>by
  rcases e with e | e
  ·omega
  ·have:=hownl _ e;omega)
 have hS2:∀ k,(k=wb∨lv.ownBlock=some k)→lo≤k:=fun k e=>by
  rcases e with e | e
  ·rw [e];exact hwb
  ·exact (hlv k e).1
 have hx12:Fr (fun k=>k=wb∨lv.ownBlock=some k) h h2:=hx1.up.trans hf2
 have hs2:XS F h2 (.slice (some ⟨b0,p0,none⟩) l.length cap0) l:=hs.fr hx12 fun k hk e=>by have:=hF k hk;have:=hS2 k e;omega
 have hcc2:Rd h2 6 (.slice adc y.p.changes.length capc) y.p.changes.length (changes y.p.changes):=by
  have:=(hyv.fr hx12 fun k hk e=>by have:=hF k hk;have:=hS2 k e;omega).changes
  rw [hcv] at this;exact this
 have hp2c:=hp2.cell (j:=2) rfl
 rw [hcv] at hp2c
 have hp20:=hp2.cell (j:=0) rfl
 refine zgo ?_
 refine Runs.cond_dec rfl (fun hlt2=>?_) (fun hge=>?_)
 rotate_left
 ·rw [List.take_of_length_le (by omega)] at ho2
  refine zgo ?_
  refine Runs.fall Tryd.func82 (ret0 Tryd.results82) ⟨hx12,lv2,hb2,ho2,fun k hk=>?_⟩
  rcases hm2 k hk with e | e
  ·exact .inl e
  ·exact .inr (by omega)
 have hlt':i<y.p.changes.length:=by omega
 have hget:y.p.changes[i]? = some y.p.changes[i]:=List.getElem?_eq_getElem hlt'
 have hsn:=linesUp_snoc y.p.id (y.p.changes.take i) y.p.changes[i]
 have hsn2:=ownN_snoc (y.p.changes.take i) y.p.changes[i]
 rw [← List.take_succ_eq_append_getElem hlt'] at hsn hsn2
 have hown1:=ownN_le (y.p.changes.take i)
 have hown2:(y.p.changes.take i).length≤i:=by simp;omega
 have hlul:(linesUp y.p.id (y.p.changes.take i)).length=ownN (y.p.changes.take i):=length_linesUp _ _
 generalize y.p.changes[i]=c at *
 obtain ⟨b5,p5,cap5,hv5,_,hcells⟩:=hcc2.pos (by omega)
 cases hv5
 have hcc:=changes_get hcells hget
 refine zgo ?_
 refine zv c.one fun h3 hb3 hx3 hs3=>?_
 have c0:=hb3.cell (j:=0) rfl
 refine zgo ?_
 refine Runs.cond_ndec rfl (fun hk=>?_) (fun hk=>?_)
 ·rw [if_neg (by omega),List.append_nil] at hsn
  rw [if_neg (by omega),Nat.add_zero] at hsn2
  refine zgo ?_
  refine ih ⟨i+1,lv2⟩ _ _ (by dsimp only;omega) ⟨rfl,rfl,rfl,by dsimp only;rw [hsn2];rfl,rfl,trivial⟩ ⟨hlt',hf2.ex hx3,hb2.ext hx3,?_,hm2⟩
  dsimp only;rw [hsn];exact ho2.fr hx3 (by simp)
 rw [if_pos (by omega)] at hsn hsn2
 have hp3:=hx3.xc hp20
 refine zgo ?_
 refine zv (one2 _ _) fun h4 hb4 hx4 hs4=>?_
 have nm:Cells h4 h3.size 0 (RefD.cells ⟨y.p.id,ownN (y.p.changes.take i)⟩):=hb4.cells
 have hx24:=hx3.trans hx4
 refine zgo ?_
 refine WO.call rfl rfl rfl rfl plain_isToldDead rfl (isToldDead_ret wb l _ ⟨y.p.id,ownN (y.p.changes.take i)⟩ _ ((hb2.ext hx24).cell (j:=0) rfl) (hs2.ext hx24) hl hcl) fun v5 h5 ⟨hx5,hv5⟩=>?_
 subst hv5
 have hx25:=hx24.trans hx5
 have hb5:=hb2.ext hx25
 have ho5:=ho2.fr hx25 (by simp)
 have hz5:=hx25.size
 have hz3:=hx3.size
 have hz4:=hx4.size
 have hlv2:∀ k,lv2.ownBlock=some k→k<h2.size∧k≠wb:=fun k hk=>⟨ho2.lt k hk,fun e=>by
  rcases hm2 k hk with e' | e'
  ·exact (hlv k e').2 e
  ·omega⟩
 have hS0:cellAt h5 wb (0+2)=some lv2∧Cells h5 h3.size 0 (RefD.cells ⟨y.p.id,ownN (y.p.changes.take i)⟩)∧Cells h5 h2.size 0 c.cells:=⟨hb5.cell (j:=2) rfl,hx5.xcs nm,(hx4.trans hx5).xcs hb3.cells⟩
 have hSS:∀ h',Fr (fun k=>lv2.ownBlock=some k) h5 h'→cellAt h' wb (0+2)=some lv2∧Cells h' h3.size 0 (RefD.cells ⟨y.p.id,ownN (y.p.changes.take i)⟩)∧Cells h' h2.size 0 c.cells:=fun h' hf =>
  ⟨hf.cell (fun e=>(hlv2 _ e).2 rfl) hS0.1,hf.cells (fun e=>by have:=(hlv2 _ e).1;omega) hS0.2.1,hf.cells (fun e=>by have:=(hlv2 _ e).1;omega) hS0.2.2⟩
 have hup:∀ h',Cells h' h2.size 0 c.cells→Cells h' h2.size (0+1) c.up.cells:=fun h' hc=>hc.tail.take 2
 have hdn:∀ h',Cells h' h2.size 0 c.cells→Cells h' h2.size (0+3) c.down.cells:=fun h' hc=>hc.tail.tail.tail.take 2
 refine zgo ?_
 refine Runs.drawn (m:=20) (fun h'=>cellAt h' wb (0+2)=some lv2∧Cells h' h3.size 0 (RefD.cells ⟨y.p.id,ownN (y.p.changes.take i)⟩)∧Cells h' h2.size 0 c.cells) (fun i=>Nat.beq i 19) mixed rfl ?_
 refine zp 0 hS0 ?_
 refine zp 1 hS0 ?_
 refine zp 2 hS0 ?_
 refine zp 3 hS0 ?_
 refine zl 4 (fun _ hS=>hS.1) hS0 ?_
 refine zL 5 (fun _ hS=>hS.2.1) hS0 ?_
 refine zp 6 hS0 ?_
 refine zL 7 (fun _ hS=>(hup _ hS.2.2)) hS0 ?_
 refine zp 8 hS0 ?_
 refine zL 9 (fun _ hS=>(hdn _ hS.2.2)) hS0 ?_
 refine zp 10 hS0 ?_
 refine zl 11 (fun _ hS=>(hS.2.2 5 _ rfl)) hS0 ?_
 refine zp 12 hS0 ?_
 refine zp 13 hS0 ?_
 refine zp 14 hS0 ?_
 refine WF.push 15 16 tab_ok (by kernel_rfl) (by kernel_rfl) rfl rfl rfl rfl rfl rfl rfl rfl rfl rfl rfl rfl rfl rfl rfl rfl rfl rfl rfl (by simp) (mkW (l.map PD3.p) pt ⟨⟨y.p.id,ownN (y.p.changes.take i)⟩,c.up,c.down,c.text⟩).one ho5 (by simp;omega) hSS ?_
 intro v6 h6 o4 o5 o6
 have hS6:=hSS _ o5
 refine zx 17 hS6 ?_
 refine zx 18 hS6 ?_
 have hb6:=hb5.fr o5 (fun e=>(hlv2 _ e).2 rfl)
 obtain ⟨ad6,cap6,hv6⟩:=o4.rd.form
 have hone6:One [v6]:=by rw [hv6];exact one_slice _ _ _
 subst hv6
 refine WF.put 19 tab_ok (by kernel_rfl) rfl rfl rfl rfl rfl rfl rfl rfl rfl hone6 hb6 rfl rfl fun h7 hb7 hx7 hs7=>?_
 refine WF.done (by kernel_rfl) ?_
 refine zgo ?_
 have e5:((ownN (y.p.changes.take i):Nat):Int)+1=((ownN (y.p.changes.take (i+1)):Nat):Int):=by rw [hsn2];omega
 rw [e5]
 have hz6:=o5.size
 refine ih ⟨i+1,_⟩ _ _ (by dsimp only;omega) ⟨rfl,rfl,rfl,rfl,rfl,trivial⟩ ⟨hlt',?_,hb7,?_,?_⟩
 ·refine ((hf2.ex hx25).trans_new (o5.mono fun k _ e=>?_)).trans (hx7.mono fun k _ e=>.inl e)
  rcases hm2 k e with e' | e'
  ·exact .inl (.inr e')
  ·exact .inr e'
 ·dsimp only
  rw [hsn,List.map_append,← List.append_assoc,wlC_append]
  have hlen:∀ (A:List WL) (z:WL),(A++[z]).length=A.length+1:=fun A z=>by simp
  rw [List.map_cons,List.map_nil,hlen]
  refine o4.fr hx7 fun k hk e=>?_
  subst e
  rcases o6 k hk with e' | e'
  ·exact (hlv2 _ e').2 rfl
  ·omega
 ·intro k hk
  rcases o6 k hk with e' | e'
  ·exact hm2 k e'
  ·exact .inr (by omega)
end Go.Proofs.YtlaffgagmncgjabDoor
