import Derived.Test.YtlaffgagmncgjabDoorMem2
import Derived.Laws.MakeOwn
import Derived.Laws.IdiomStrings
namespace Go.Pat
open Go
def bools (l:List Bool):List Value:=l.map fun b=>.bool b
theorem bools_get {l:List Bool} {i:Nat} {x:Bool} (h:l[i]? = some x):(bools l)[i]? = some (.bool x):=by simp [bools,h]
theorem one_bool (b:Bool):One [.bool b]:=by intro u hu;simp at hu;subst hu;rfl
def Mat (h:Heap) (v:Value) (m:List (List Bool)):Prop :=
 ∃ vs:List Value,Rd h 1 v m.length vs∧∀ (i:Nat) (row:List Bool),m[i]? = some row→∃ rv,vs[i]? = some rv∧Rd h 1 rv row.length (bools row)
structure Square (n:Nat) (m:List (List Bool)):Prop where
 len:m.length=n
 rows:∀ row∈m,row.length=n
def getB (m:List (List Bool)) (i j:Nat):Bool:=(m.getD i []).getD j false
theorem Mat.get {h:Heap} {v:Value} {m:List (List Bool)} {n:Nat} (x:Mat h v m) (sq:Square n m) {i j:Nat} (hi:i<n) (hj:j<n) :
  ∃ b p cap,v = .slice (some ⟨b,p,none⟩) n cap∧∃ rb rp rcap,cellAt h b (p+i*1)=some (.slice (some ⟨rb,rp,none⟩) n rcap)∧cellAt h rb (rp+j*1)=some (.bool (getB m i j)):=by
 obtain ⟨vs,hr,hrow⟩:=x
 have hlt:i<m.length:=by rw [sq.len];exact hi
 have hget:m[i]? = some m[i]:=List.getElem?_eq_getElem hlt
 have hlen:=sq.rows m[i] (List.getElem_mem hlt)
 have hgB:getB m i j=m[i].getD j false:=by simp [getB,List.getD_eq_getElem?_getD,hget]
 generalize m[i]=row at *
 obtain ⟨rv,hrv,hrd⟩:=hrow i row hget
 obtain ⟨b,p,cap,rfl,_,hc⟩:=hr.cell hrv
 rw [sq.len]
 have hj':j<row.length:=by rw [hlen];exact hj
 obtain ⟨rb,rp,rcap,rfl,_,hc2⟩:=hrd.cell (bools_get (List.getElem?_eq_getElem hj'))
 rw [hlen] at hc
 refine ⟨b,p,cap,rfl,rb,rp,rcap,hc,?_⟩
 rw [hc2,hgB]
 simp [List.getD_eq_getElem?_getD,List.getElem?_eq_getElem hj']
theorem Mat.ext {h h':Heap} {v:Value} {m:List (List Bool)} (x:Mat h v m) (f:Ext h h'):Mat h' v m:=by
 obtain ⟨vs,hr,hrow⟩:=x
 exact ⟨vs,hr.ext f,fun i row hi=>by obtain ⟨rv,h1,h2⟩:=hrow i row hi;exact ⟨rv,h1,h2.ext f⟩⟩
def ML (h:Heap) (b:Nat) (al:List LineD) (ld:List (List Bool)):Prop :=
 ∃ sp alv ldv fxv blv,Cells h b 0 [sp,alv,ldv,fxv,blv]∧Rd h 7 alv al.length (linesC al)∧Mat h ldv ld∧Square al.length ld
def aheadS (m:List (List Bool)) (i j:Nat):Bool:=getB m i j && !getB m j i
def settledS (n:Nat) (m:List (List Bool)) (i:Nat):Bool:=(List.range n).all fun j=>decide (j=i) || !(getB m i j == getB m j i)
def ringS (n:Nat) (m:List (List Bool)) (i:Nat):Bool:=(List.range n).any fun j=>!decide (j=i)&&(getB m i j&&getB m j i)
def rankS (n:Nat) (m:List (List Bool)) (i:Nat):Nat:=((List.range n).filter fun j=>!decide (j=i)&&aheadS m j i).length
end Go.Pat
namespace Go.Pat
open Go
theorem made_one (z:Value) (zs:Array Value) (hz:zs.toList=[z]) (n:Nat):madeCells zs n=(List.replicate n z).toArray:=by
 have:zs = #[z]:=by
  apply Array.ext'
  simpa using hz
 subst this
 unfold madeCells
 apply Array.ext
 ·simp
 ·intro i h1 h2
  simp [Nat.mod_one]
section
variable {P:Program} {T:Tab} {n:Nat} {ops:Array Oper} {l:List Oper} {K:Env→Heap→Prop} {env:Env} {h:Heap} {o:Oper}
theorem WO.make {t e:TypeId} {x:Operand} {m d:Nat} {kk:IntKind} {q:Int} {sz by_ eby:Nat} {z ez z1:Value} {ek:TK} (hT:T.ok P) (ho:o.op = .makeSlice t x x) (hg:gd ops env o=some true) (hd:o.dst=some d) (hn:Nat.blt d n=true)
  (ht:T.get? t=some ⟨sz,by_,z,.slice e⟩) (he:T.get? e=some ⟨1,eby,ez,ek⟩) (hz:oneList ez=some [z1]) (hx:env.ev? x=some (.int kk q)) (hq:natOf q=some m) (hby:Nat.ble eby 1000=true) (hm:m≤1000000)
  (hk:∀ h1,Blk h1 h.size (List.replicate m z1) e→Ext h h1→h1.size=h.size+1→WO P n ops l K ((d,.slice (some ⟨h.size,0,none⟩) m m)::env) h1):WO P n ops (o::l) K env h:=by
 refine WO.ex hg hd hn fun w a hw ha=>?_
 subst hw
 replace hq:=natOf_eq hq
 subst hq
 have hu:P.underlying t=some (.slice e):=(Tab.fits hT ht).2
 obtain ⟨⟨info,i1,i2,i3,i4⟩,_⟩:=Tab.fits hT he
 dsimp only at i2 i3 i4
 have hby':=Nat.le_of_ble_eq_true hby
 have hmul:(info.bytes:Int)*(m:Int)≤281474976710656:=by
  rw [i3]
  have:eby*m≤1000*1000000:=Nat.mul_le_mul hby' hm
  have h2:((eby*m:Nat):Int)≤((1000*1000000:Nat):Int):=Int.ofNat_le.2 this
  rw [Int.natCast_mul] at h2
  omega
 have hr:=run_make w t e info ez hu i1 i4 kk kk (m:Int) (m:Int) (by omega) (Int.le_refl _) hmul (by omega)
 rw [i2,Nat.mul_one,Int.toNat_natCast,made_one z1 _ (by rw [oneList_cells hz])] at hr
 refine ⟨_,w.alloc _,?_,⟨rfl,rfl,rfl⟩,hk _ (Blk.push w.heap _ e) (Fr.push _ _ _) (by simp)⟩
 simp [execOp,ho,ha.ev hx,hr]
theorem setAt_one (c:List Value) (i:Nat) (v:Value) (hi:i<c.length):setAt c i [v]=c.set i v:=by
 unfold setAt
 rw [List.set_eq_take_append_cons_drop,if_pos hi]
 simp
theorem WO.put1 {t:TypeId} {x y:Operand} {b p:Nat} {v:Value} {c:List Value} {by_:Nat} {z:Value} {tk:TK} {e:TypeId} (hT:T.ok P) (ho:o.op = .store t x y) (hg:gd ops env o=some true) (hd:o.dst=none)
  (hx:env.ev? x=some (.pointer (some ⟨b,p,none⟩))) (hy:env.ev? y=some v) (ht:T.get? t=some ⟨1,by_,z,tk⟩) (hv:oneList v=some [v]) (h1:One [v])
  (hblk:Blk h b c e) (hp:p<c.length)
  (hk:∀ h1,Blk h1 b (c.set p v) e→Fr (fun k=>k=b) h h1→h1.size=h.size→WO P n ops l K env h1):WO P n ops (o::l) K env h:=by
 refine WO.store hT ho hg hd hx hy ht (vs:=[v]) (by rw [oneList_cells hv]) rfl h1 hblk (by simp;omega) ?_
 rw [setAt_one c p v hp]
 exact hk _ (hblk.put _) (Fr.put h b _ e) (by simp [putRow])
variable {SH:Heap→Prop} {F:Nat→Bool} {fuel:Nat} {listed:Array Bool}
theorem WF.put1 {t:TypeId} {x y:Operand} {b p:Nat} {v:Value} {c:List Value} {by_:Nat} {z:Value} {tk:TK} {e:TypeId} (i:Nat) (hT:T.ok P) (hr:Region.ready .any ops listed=[i]) (hi:ops[i]? = some o) (ho:o.op = .store t x y) (hg:gd ops env o=some true) (hd:o.dst=none)
  (hx:env.ev? x=some (.pointer (some ⟨b,p,none⟩))) (hy:env.ev? y=some v) (ht:T.get? t=some ⟨1,by_,z,tk⟩) (hv:oneList v=some [v]) (h1:One [v])
  (hblk:Blk h b c e) (hp:p<c.length) (hF:F i=true)
  (hk:∀ h1,Blk h1 b (c.set p v) e→Fr (fun k=>k=b) h h1→h1.size=h.size→WF P n ops SH F fuel (listed.setIfInBounds i true) K env h1):WF P n ops SH F (fuel+1) listed K env h:=by
 refine WF.skip (h':=putRow h b (c.set p v) e) i hr hi hg hd (fun w a hw ha=>?_) (.inl hF) (hk _ (hblk.put _) (Fr.put h b _ e) (by simp [putRow]))
 subst hw
 rw [← setAt_one c p v hp]
 have hv':=oneList_cells hv
 have hst:=run_storeCells_at P b p e [v] 0 c.toArray w hblk (by simp;omega) h1
 refine ⟨w.setRow b (setAt c p [v]).toArray,?_,⟨rfl,rfl,rfl⟩,?_⟩
 ·simp only [Nat.add_zero] at hst
  simp [execOp,ho,ha.ev hx,ha.ev hy,Instr.storeAt,Instr.sureAddr,storeVar,run_sizeOf (Tab.fits hT ht),hv',hst,setAt]
 ·rw [setRow_eq w b c.toArray _ e hblk]
end
def rowsV (n:Nat) (rbs:List Nat):List Value:=rbs.map fun b=>.slice (some ⟨b,0,none⟩) n n
structure OM (h:Heap) (tr tb:TypeId) (n ob:Nat) (rbs:List Nat) (m:List (List Bool)):Prop where
 len:rbs.length=n
 sq:Square n m
 out:Blk h ob (rowsV n rbs) tr
 row:∀ (i b:Nat) (r:List Bool),rbs[i]? = some b→m[i]? = some r→Blk h b (bools r) tb
 nodup:rbs.Nodup
 apart:ob∉rbs
def setB (m:List (List Bool)) (i j:Nat) (x:Bool):List (List Bool):=m.set i ((m.getD i []).set j x)
theorem nodup_get {l:List Nat} (h:l.Nodup) {i j:Nat} (hi:i<l.length) (hj:j<l.length) (e:l[i]=l[j]):i=j:=by
 rw [List.nodup_iff_pairwise_ne,List.pairwise_iff_getElem] at h
 rcases Nat.lt_trichotomy i j with a | a | a
 ·exact absurd e (h i j hi hj a)
 ·exact a
 ·exact absurd e.symm (h j i hj hi a)
theorem OM.mat {h:Heap} {tr tb:TypeId} {n ob:Nat} {rbs:List Nat} {m:List (List Bool)} (x:OM h tr tb n ob rbs m):Mat h (.slice (some ⟨ob,0,none⟩) n n) m:=by
 refine ⟨rowsV n rbs,?_,fun i r hi=>?_⟩
 ·refine ⟨by simp [rowsV,x.len,x.sq.len],.inr ⟨ob,0,n,by rw [x.sq.len],by rw [x.sq.len];exact Nat.le_refl _,x.out.cells⟩⟩
 ·have hlt:i<rbs.length:=by rw [x.len,← x.sq.len];exact (List.getElem?_eq_some_iff.1 hi).1
  have hg:rbs[i]? = some rbs[i]:=List.getElem?_eq_getElem hlt
  have hr:=x.sq.rows r (List.mem_of_getElem? hi)
  refine ⟨.slice (some ⟨rbs[i],0,none⟩) n n,by simp [rowsV,hg],by simp [bools],.inr ⟨rbs[i],0,n,by rw [hr],by rw [hr];exact Nat.le_refl _,(x.row i _ r hg hi).cells⟩⟩
theorem Square.set {n:Nat} {m:List (List Bool)} (x:Square n m) (i j:Nat) (v:Bool):Square n (setB m i j v):=by
 refine ⟨by simp [setB,x.len],fun r hr=>?_⟩
 rcases Nat.lt_or_ge i m.length with h | h
 ·rcases List.mem_or_eq_of_mem_set hr with e | e
  ·exact x.rows r e
  ·rw [e,List.length_set,List.getD_eq_getElem?_getD,List.getElem?_eq_getElem h]
   exact x.rows _ (List.getElem_mem h)
 ·rw [setB,List.set_eq_of_length_le h] at hr
  exact x.rows r hr
theorem getB_setB {n:Nat} {m:List (List Bool)} (x:Square n m) {i j:Nat} (v:Bool) (hi:i<n) (hj:j<n) (a b:Nat):getB (setB m i j v) a b=if a=i∧b=j then v else getB m a b:=by
 have h1:i<m.length:=by rw [x.len];exact hi
 have h2:j<(m[i]).length:=by rw [x.rows _ (List.getElem_mem h1)];exact hj
 unfold getB setB
 simp only [List.getD_eq_getElem?_getD,List.getElem?_set,List.getElem?_eq_getElem h1,Option.getD_some]
 by_cases ha:i=a
 ·subst ha
  rw [if_pos rfl,if_pos h1]
  simp only [Option.getD_some,List.getElem?_set]
  by_cases hb:j=b
  ·subst hb;simp [h2]
  ·rw [if_neg hb,if_neg (fun e=>hb e.2.symm)];simp [List.getElem?_eq_getElem h1]
 ·rw [if_neg ha,if_neg (fun e=>ha e.1.symm)]
theorem OM.set {h h':Heap} {tr tb:TypeId} {n ob:Nat} {rbs:List Nat} {m:List (List Bool)} (x:OM h tr tb n ob rbs m) {i j rb:Nat} {r:List Bool} {v:Bool} (hrb:rbs[i]? = some rb) (hr:m[i]? = some r)
  (hb:Blk h' rb ((bools r).set j (.bool v)) tb) (hf:Fr (fun k=>k=rb) h h'):OM h' tr tb n ob rbs (setB m i j v):=by
 have hmem:rb∈rbs:=List.mem_of_getElem? hrb
 refine ⟨x.len,x.sq.set i j v,x.out.fr hf (fun e=>x.apart (by rw [e];exact hmem)),fun a b s hab hs=>?_,x.nodup,x.apart⟩
 have hgd:m.getD i []=r:=by simp [List.getD_eq_getElem?_getD,hr]
 have him:i<m.length:=(List.getElem?_eq_some_iff.1 hr).1
 rw [setB,hgd,List.getElem?_set] at hs
 by_cases ha:i=a
 ·subst ha
  rw [if_pos rfl,if_pos him] at hs
  cases hs
  rw [hrb] at hab;cases hab
  have:bools (r.set j v)=(bools r).set j (.bool v):=by simp [bools,List.map_set]
  rw [this];exact hb
 ·rw [if_neg ha] at hs
  refine (x.row a b s hab hs).fr hf fun e=>?_
  subst e
  have h1:=List.getElem?_eq_some_iff.1 hrb
  have h2:=List.getElem?_eq_some_iff.1 hab
  obtain ⟨p1,e1⟩:=h1
  obtain ⟨p2,e2⟩:=h2
  exact ha (nodup_get x.nodup p1 p2 (e1.trans e2.symm))
theorem OM.get {h:Heap} {tr tb:TypeId} {n ob:Nat} {rbs:List Nat} {m:List (List Bool)} (x:OM h tr tb n ob rbs m) {i:Nat} (hi:i<n) :
  ∃ rb r,rbs[i]? = some rb∧m[i]? = some r∧r.length=n∧cellAt h ob (0+i*1)=some (.slice (some ⟨rb,0,none⟩) n n)∧Blk h rb (bools r) tb∧∀ j,j<n→(bools r)[j]? = some (.bool (getB m i j)):=by
 have h1:i<rbs.length:=by rw [x.len];exact hi
 have h2:i<m.length:=by rw [x.sq.len];exact hi
 have e1:rbs[i]? = some rbs[i]:=List.getElem?_eq_getElem h1
 have e2:m[i]? = some m[i]:=List.getElem?_eq_getElem h2
 have e3:=x.sq.rows m[i] (List.getElem_mem h2)
 refine ⟨rbs[i],m[i],e1,e2,e3,?_,x.row i _ _ e1 e2,fun j hj=>?_⟩
 ·rw [Nat.zero_add,Nat.mul_one];exact x.out.cell (by simp [rowsV,e1])
 ·rw [bools_get (List.getElem?_eq_getElem (by rw [e3];exact hj))]
  simp [getB,List.getD_eq_getElem?_getD,e2,List.getElem?_eq_getElem (show j<m[i].length by rw [e3];exact hj)]
theorem OM.fr {S:Nat→Prop} {h h':Heap} {tr tb:TypeId} {n ob:Nat} {rbs:List Nat} {m:List (List Bool)} (x:OM h tr tb n ob rbs m) (hf:Fr S h h') (hs:∀ k,k=ob∨k∈rbs→¬ S k):OM h' tr tb n ob rbs m :=
 ⟨x.len,x.sq,x.out.fr hf (hs _ (.inl rfl)),fun i b r hi hr=>(x.row i b r hi hr).fr hf (hs _ (.inr (List.mem_of_getElem? hi))),x.nodup,x.apart⟩
theorem OM.ext {h h':Heap} {tr tb:TypeId} {n ob:Nat} {rbs:List Nat} {m:List (List Bool)} (x:OM h tr tb n ob rbs m) (hf:Ext h h'):OM h' tr tb n ob rbs m:=x.fr hf (by simp)
end Go.Pat
namespace Go.Pat
open Go
section
variable {P:Program} {T:Tab} {n:Nat} {ops:Array Oper} {l:List Oper} {K:Env→Heap→Prop} {env:Env} {h:Heap} {o:Oper}
theorem WO.makeN {t e:TypeId} {x:Operand} {m d:Nat} {kk:IntKind} {q:Int} {sz by_ esz eby:Nat} {z ez:Value} {ek:TK} (hT:T.ok P) (ho:o.op = .makeSlice t x x) (hg:gd ops env o=some true) (hd:o.dst=some d) (hn:Nat.blt d n=true)
  (ht:T.get? t=some ⟨sz,by_,z,.slice e⟩) (he:T.get? e=some ⟨esz,eby,ez,ek⟩) (hx:env.ev? x=some (.int kk q)) (hq:natOf q=some m) (hby:Nat.ble eby 1000=true) (hm:m≤1000000)
  (hk:∀ c h1,c.length=m*esz→Blk h1 h.size c e→Ext h h1→h1.size=h.size+1→WO P n ops l K ((d,.slice (some ⟨h.size,0,none⟩) m m)::env) h1):WO P n ops (o::l) K env h:=by
 refine WO.ex hg hd hn fun w a hw ha=>?_
 subst hw
 replace hq:=natOf_eq hq
 subst hq
 have hu:P.underlying t=some (.slice e):=(Tab.fits hT ht).2
 obtain ⟨⟨info,i1,i2,i3,i4⟩,_⟩:=Tab.fits hT he
 dsimp only at i2 i3 i4
 have hby':=Nat.le_of_ble_eq_true hby
 have hmul:(info.bytes:Int)*(m:Int)≤281474976710656:=by
  rw [i3]
  have:eby*m≤1000*1000000:=Nat.mul_le_mul hby' hm
  have h2:((eby*m:Nat):Int)≤((1000*1000000:Nat):Int):=Int.ofNat_le.2 this
  rw [Int.natCast_mul] at h2
  omega
 have hr:=run_make w t e info ez hu i1 i4 kk kk (m:Int) (m:Int) (by omega) (Int.le_refl _) hmul (by omega)
 rw [i2,Int.toNat_natCast] at hr
 refine ⟨_,w.alloc _,?_,⟨rfl,rfl,rfl⟩,hk (madeCells ez.cells (m*esz)).toList _ (by simp [madeCells]) (Blk.push w.heap _ e) (Fr.push _ _ _) (by simp)⟩
 simp [execOp,ho,ha.ev hx,hr]
theorem setAt_length (c:List Value) (p:Nat) (vs:List Value) (hp:p+vs.length≤c.length):(setAt c p vs).length=c.length:=by
 simp [setAt];omega
theorem setAt_get (c:List Value) (p:Nat) (vs:List Value) (hp:p+vs.length≤c.length) (j:Nat):(setAt c p vs)[j]? = if p≤j∧j<p+vs.length then vs[j-p]? else c[j]?:=by
 unfold setAt
 have hl:(c.take p).length=p:=by rw [List.length_take];omega
 split
 ·rename_i h
  rw [List.append_assoc,List.getElem?_append_right (by omega),hl,List.getElem?_append_left (by omega)]
 ·rename_i h
  rcases Nat.lt_or_ge j p with e | e
  ·rw [List.append_assoc,List.getElem?_append_left (by omega),List.getElem?_take,if_pos e]
  ·rw [List.getElem?_append_right (by simp;omega),List.getElem?_drop]
   congr 1
   simp
   omega
theorem Blk.setAt_new {b p:Nat} {c vs:List Value} {e:TypeId} {h1:Heap} (hb:Blk h1 b (setAt c p vs) e) (hp:p+vs.length≤c.length):Cells h1 b p vs:=fun j v hj=>by
 have hjl:=(List.getElem?_eq_some_iff.1 hj).1
 exact hb.cell (by rw [setAt_get c p vs hp,if_pos ⟨by omega,by omega⟩,show p+j-p=j by omega];exact hj)
theorem Blk.setAt_old {b p q:Nat} {c vs ws:List Value} {e:TypeId} {h h1:Heap} (hc:Blk h b c e) (hb:Blk h1 b (setAt c p vs) e) (hp:p+vs.length≤c.length) (hq:Cells h b q ws) (ha:q+ws.length≤p∨p+vs.length≤q):Cells h1 b q ws:=fun j v hj=>by
 have hjl:=(List.getElem?_eq_some_iff.1 hj).1
 have h0:=hq j v hj
 have hcj:c[q+j]? = some v:=by
  unfold cellAt at h0
  rw [hc] at h0
  simpa using h0
 exact hb.cell (by rw [setAt_get c p vs hp,if_neg (by omega)];exact hcj)
theorem WO.putN {t:TypeId} {x y:Operand} {b p:Nat} {v:Value} {vs c:List Value} {sz by_:Nat} {z:Value} {tk:TK} {e:TypeId} (hT:T.ok P) (ho:o.op = .store t x y) (hg:gd ops env o=some true) (hd:o.dst=none)
  (hx:env.ev? x=some (.pointer (some ⟨b,p,none⟩))) (hy:env.ev? y=some v) (ht:T.get? t=some ⟨sz,by_,z,tk⟩) (hv:oneList v=some vs) (hl:Nat.beq vs.length sz=true) (h1:One vs)
  (hblk:Blk h b c e) (hp:p+vs.length≤c.length)
  (hk:∀ h1,Blk h1 b (setAt c p vs) e→Fr (fun k=>k=b) h h1→h1.size=h.size→WO P n ops l K env h1):WO P n ops (o::l) K env h :=
 WO.store hT ho hg hd hx hy ht (vs:=vs) (by rw [oneList_cells hv]) hl h1 hblk hp (hk _ (hblk.put _) (Fr.put h b _ e) (by simp [putRow]))
variable {SH:Heap→Prop} {F:Nat→Bool} {fuel:Nat} {listed:Array Bool}
theorem WF.putN {t:TypeId} {x y:Operand} {b p:Nat} {v:Value} {vs c:List Value} {sz by_:Nat} {z:Value} {tk:TK} {e:TypeId} (i:Nat) (hT:T.ok P) (hr:Region.ready .any ops listed=[i]) (hi:ops[i]? = some o) (ho:o.op = .store t x y) (hg:gd ops env o=some true) (hd:o.dst=none)
  (hx:env.ev? x=some (.pointer (some ⟨b,p,none⟩))) (hy:env.ev? y=some v) (ht:T.get? t=some ⟨sz,by_,z,tk⟩) (hv:oneList v=some vs) (hl:Nat.beq vs.length sz=true) (h1:One vs)
  (hblk:Blk h b c e) (hp:p+vs.length≤c.length) (hF:F i=true)
  (hk:∀ h1,Blk h1 b (setAt c p vs) e→Fr (fun k=>k=b) h h1→h1.size=h.size→WF P n ops SH F fuel (listed.setIfInBounds i true) K env h1):WF P n ops SH F (fuel+1) listed K env h:=by
 refine WF.skip (h':=putRow h b (setAt c p vs) e) i hr hi hg hd (fun w a hw ha=>?_) (.inl hF) (hk _ (hblk.put _) (Fr.put h b _ e) (by simp [putRow]))
 subst hw
 have hv':=oneList_cells hv
 have hst:=run_storeCells_at P b p e vs 0 c.toArray w hblk (by simpa using hp) h1
 have hl':=Nat.eq_of_beq_eq_true hl
 refine ⟨w.setRow b (setAt c p vs).toArray,?_,⟨rfl,rfl,rfl⟩,?_⟩
 ·simp only [Nat.add_zero] at hst
  simp [execOp,ho,ha.ev hx,ha.ev hy,Instr.storeAt,Instr.sureAddr,storeVar,run_sizeOf (Tab.fits hT ht),hv',hl',hst,setAt]
 ·rw [setRow_eq w b c.toArray _ e hblk]
theorem WF.var {o₂:Oper} {t:TypeId} {y:Operand} {sz by_ d:Nat} {z v:Value} {tk:TK} {zs vs c':List Value} (i j:Nat) (hT:T.ok P) (hr:Region.ready .any ops listed=[i]) (hr₂:Region.ready .any ops (listed.setIfInBounds i true)=[j]) (hi:ops[i]? = some o) (hj:ops[j]? = some o₂)
  (ho:o.op = .alloc t) (hg:gd ops env o=some true) (hd:o.dst=some d) (hn:Nat.blt d n=true) (ht:T.get? t=some ⟨sz,by_,z,tk⟩) (hz:oneList z=some zs)
  (ho₂:o₂.op = .store t (.tmp d) y) (hg₂:o₂.guard=none) (hd₂:o₂.dst=none) (hy:env.ev? y=some v) (hyd:y ≠ .tmp d) (hv:oneList v=some vs) (hl:Nat.beq vs.length sz=true) (h1:One vs) (hs:setO zs 0 vs=some c')
  (hS:∀ h',Ext h h'→SH h')
  (hk:∀ h1,Blk h1 h.size c' t→Ext h h1→h1.size=h.size+1→WF P n ops SH F fuel ((listed.setIfInBounds i true).setIfInBounds j true) K ((d,.pointer (some ⟨h.size,0,none⟩))::env) h1):WF P n ops SH F (fuel+1+1) listed K env h:=by
 refine WF.ex i hr hi hg hd hn (ox_alloc hT ho ht ⟨.inr (hS _ (Fr.push _ _ _)),?_⟩)
 rw [oneList_cells hz]
 have hblk:=Blk.push h zs t
 generalize hh0:h.push (.cells zs.toArray t (0,0))=h0 at *
 have hx0:Ext h h0:=by rw [← hh0];exact Fr.push _ _ _
 have hs0:h0.size=h.size+1:=by rw [← hh0];simp
 obtain ⟨e1,e2⟩:=setO_spec hs
 have hx1:Ext h (putRow h0 h.size c' t):=hx0.put (Nat.le_refl _) c' t
 have hy':Env.ev? ((d,.pointer (some ⟨h.size,0,none⟩))::env) y=some v:=by
  cases y with
  | tmp q=>simp only [Env.ev?] at hy ⊢;rw [Env.get?_cons,if_neg (fun e=>hyd (by rw [e])),hy]
  | _=>exact hy
 have hd':Env.ev? ((d,.pointer (some ⟨h.size,0,none⟩))::env) (.tmp d)=some (.pointer (some ⟨h.size,0,none⟩)):=by
  simp only [Env.ev?];rw [Env.get?_cons,if_pos rfl]
 have hg₂':gd ops ((d,.pointer (some ⟨h.size,0,none⟩))::env) o₂=some true:=by simp [gd,hg₂]
 refine WF.skip (h':=putRow h0 h.size c' t) j hr₂ hj hg₂' hd₂ (fun w a hw ha=>?_) (.inr (hS _ hx1)) (hk _ (hblk.put c') hx1 (by simp [putRow,hs0]))
 subst hw
 rw [e1]
 have hv':=oneList_cells hv
 have hst:=run_storeCells_at P h.size 0 t vs 0 zs.toArray w hblk (by simpa using e2) h1
 have hl':=Nat.eq_of_beq_eq_true hl
 refine ⟨w.setRow h.size (setAt zs 0 vs).toArray,?_,⟨rfl,rfl,rfl⟩,?_⟩
 ·simp only [Nat.add_zero] at hst
  simp [execOp,ho₂,ha.ev hd',ha.ev hy',Instr.storeAt,Instr.sureAddr,storeVar,run_sizeOf (Tab.fits hT ht),hv',hl',hst,setAt]
 ·rw [setRow_eq w h.size zs.toArray _ t hblk]
theorem ov_slice_lo_nil {t:TypeId} {x lo:Operand} {len:Nat} {k:IntKind} {p:Int} {e:TypeId} {sz by_ esz eby:Nat} {z ez:Value} {ek:TK} (hT:T.ok P) (ho:o.op = .slice t x (some lo) none none)
  (hx:env.ev? x=some (.slice none len 0)) (hlo:env.ev? lo=some (.int k p)) (ht:T.get? t=some ⟨sz,by_,z,.slice e⟩) (he:T.get? e=some ⟨esz,eby,ez,ek⟩) (hp:natOf p=some 0) (hlen:len=0) :
  OpVal P n env o h (.slice none 0 0):=fun w a _ ha=>by
 subst hlen
 replace hp:=natOf_eq hp
 have hu:P.underlying t=some (.slice e):=(Tab.fits hT ht).2
 simp [execOp,ho,ha.ev hx,ha.ev hlo,Instr.sliceAt,Instr.slice,Instr.sliceBounds,und (Tab.fits hT ht) hu,run_bound hp (Nat.le_refl 0),run_sizeOf (Tab.fits hT he)]
end
end Go.Pat
namespace Go.Pat
open Go
theorem Fr.wr {S:Nat→Prop} {h h1 h2:Heap} {g:Nat} (x:Fr S h h1) (y:Fr (fun k=>k=g) h1 h2) (hg:h.size≤g):Fr S h h2:=x.trans_new (y.mono fun k _ e=>.inr (by subst e;exact hg))
theorem Fr.ex {S:Nat→Prop} {h h1 h2:Heap} (x:Fr S h h1) (y:Ext h1 h2):Fr S h h2:=x.trans (y.mono fun _ _ e=>e.elim)
theorem Fr.up {S:Nat→Prop} {h h1:Heap} (x:Ext h h1):Fr S h h1:=x.mono fun _ _ e=>e.elim
section
variable {P:Program} {T:Tab} {n:Nat} {ops:Array Oper} {K:Env→Heap→Prop} {env:Env} {h:Heap} {o:Oper} {SH:Heap→Prop} {F:Nat→Bool} {fuel:Nat} {listed:Array Bool}
def WFI (P:Program) (n:Nat) (ops:Array Oper) (S:Heap→Prop) (F:Nat→Bool) (fuel:Nat) (listed:Array Bool) (K:Env→Heap→Prop) (env:Env) (h:Heap) (i:Nat):Prop :=
 ∀ (w₀ w:World) (a:Act),Same w₀ w→w.heap=h→Sat n env a →
  wpOp P ops (fun e a' w'=>e = .normal∧Same w₀ w'∧∃ env',Sat n env' a'∧K env' w'.heap) i (fun a' w'=>(F i=true∨S w'.heap)∧anyF P ops (fun e a' w'=>e = .normal∧Same w₀ w'∧∃ env',Sat n env' a'∧K env' w'.heap) (fun w=>S w.heap) F fuel (listed.setIfInBounds i true) a' w') a w
theorem WF.two (i j:Nat) (hr:Region.ready .any ops listed=[i,j]) (hi:WFI P n ops SH F fuel listed K env h i) (hj:WFI P n ops SH F fuel listed K env h j):WF P n ops SH F (fuel+1) listed K env h:=fun w₀ w a hs₀ hw ha=>by
 refine ⟨fun e=>(by rw [hr] at e;cases e),fun k hk=>?_⟩
 rw [hr] at hk
 simp at hk
 rcases hk with rfl | rfl
 ·exact hi w₀ w a hs₀ hw ha
 ·exact hj w₀ w a hs₀ hw ha
theorem WFI.ex (i:Nat) {d:Nat} (hi:ops[i]? = some o) (hg:gd ops env o=some true) (hd:o.dst=some d) (hn:Nat.blt d n=true)
  (hv:OpEx P n env o h fun v h'=>(F i=true∨SH h')∧WF P n ops SH F fuel (listed.setIfInBounds i true) K ((d,v)::env) h'):WFI P n ops SH F fuel listed K env h i:=fun w₀ w a hs₀ hw ha=>by
 unfold wpOp
 simp only [hi,wanted_of_gd ha hg,if_true]
 left
 obtain ⟨v,w',hr',hs',hS,hK⟩:=hv w a hw ha
 simp only [Oper.wp,hr',Oper.upon,hd]
 exact ⟨hS,hK w₀ w' _ (hs₀.trans hs') rfl (ha.put hn v)⟩
theorem WFI.call (i:Nat) {d:Nat} {g:FuncId} {xs:List Operand} {ats:Array TypeId} {vs:List Value} {post:Value→Heap→Prop} (hi:ops[i]? = some o)
  (ho:o.op = .call { callee:=.value (.func g),args:=xs.toArray,argTypes:=ats }) (hg:gd ops env o=some true) (hd:o.dst=some d) (hn:Nat.blt d n=true) (hp:Plain P g)
  (hv:evs env xs=some vs) (hc:Ret P g vs.toArray h post) (hk:∀ v h',post v h'→(F i=true∨SH h')∧WF P n ops SH F fuel (listed.setIfInBounds i true) K ((d,v)::env) h'):WFI P n ops SH F fuel listed K env h i:=fun w₀ w a hs₀ hw ha=>by
 unfold wpOp
 simp only [hi,wanted_of_gd ha hg,if_true]
 left
 simp only [Oper.wp,run_call ho hp hv ha,Oper.upon]
 refine (hc w hw).mono fun e w' ⟨v,he,hs',hq⟩=>?_
 subst he
 simp only [hd]
 obtain ⟨hS,hK⟩:=hk v w'.heap hq
 exact ⟨hS,hK w₀ w' _ (hs₀.trans hs') rfl (ha.put hn v)⟩
theorem WFI.alloc (i:Nat) {t:TypeId} {sz by_ d:Nat} {z:Value} {tk:TK} {zs:List Value} (hT:T.ok P) (hi:ops[i]? = some o) (ho:o.op = .alloc t) (hg:gd ops env o=some true) (hd:o.dst=some d) (hn:Nat.blt d n=true) (ht:T.get? t=some ⟨sz,by_,z,tk⟩) (hz:oneList z=some zs)
  (hS:∀ h',Ext h h'→SH h')
  (hk:∀ h1,Blk h1 h.size zs t→Ext h h1→h1.size=h.size+1→WF P n ops SH F fuel (listed.setIfInBounds i true) K ((d,.pointer (some ⟨h.size,0,none⟩))::env) h1):WFI P n ops SH F fuel listed K env h i:=by
 refine WFI.ex i hi hg hd hn (ox_alloc hT ho ht ⟨.inr (hS _ (Fr.push _ _ _)),?_⟩)
 refine hk _ ?_ (Fr.push _ _ _) (by simp)
 show Blk (h.push (.cells z.cells t (0,0))) h.size zs t
 rw [oneList_cells hz]
 exact Blk.push h zs t
theorem WF.putS {t:TypeId} {x y:Operand} {b p:Nat} {v:Value} {vs c c':List Value} {sz by_:Nat} {z:Value} {tk:TK} {e:TypeId} (i:Nat) (hT:T.ok P) (hr:Region.ready .any ops listed=[i]) (hi:ops[i]? = some o) (ho:o.op = .store t x y) (hg:gd ops env o=some true) (hd:o.dst=none)
  (hx:env.ev? x=some (.pointer (some ⟨b,p,none⟩))) (hy:env.ev? y=some v) (ht:T.get? t=some ⟨sz,by_,z,tk⟩) (hv:oneList v=some vs) (hl:Nat.beq vs.length sz=true) (h1:One vs)
  (hblk:Blk h b c e) (hs:setO c p vs=some c') (hS:∀ h',Fr (fun k=>k=b) h h'→SH h')
  (hk:∀ h1,Blk h1 b c' e→Fr (fun k=>k=b) h h1→h1.size=h.size→WF P n ops SH F fuel (listed.setIfInBounds i true) K env h1):WF P n ops SH F (fuel+1) listed K env h:=by
 obtain ⟨e1,e2⟩:=setO_spec hs
 refine WF.skip (h':=putRow h b c' e) i hr hi hg hd (fun w a hw ha=>?_) (.inr (hS _ (Fr.put h b c' e))) (hk _ (hblk.put c') (Fr.put h b c' e) (by simp [putRow]))
 subst hw
 rw [e1]
 have hv':=oneList_cells hv
 have hst:=run_storeCells_at P b p e vs 0 c.toArray w hblk (by simpa using e2) h1
 have hl':=Nat.eq_of_beq_eq_true hl
 refine ⟨w.setRow b (setAt c p vs).toArray,?_,⟨rfl,rfl,rfl⟩,?_⟩
 ·simp only [Nat.add_zero] at hst
  simp [execOp,ho,ha.ev hx,ha.ev hy,Instr.storeAt,Instr.sureAddr,storeVar,run_sizeOf (Tab.fits hT ht),hv',hl',hst,setAt]
 ·rw [setRow_eq w b c.toArray _ e hblk]
end
end Go.Pat
namespace Go.Pat
open Go
def bytesC (l:List UInt8):List Value:=l.map fun (q:UInt8)=>Value.int .u8 (q.toNat:Int)
section
variable {P:Program} {T:Tab} {n:Nat} {ops:Array Oper} {K:Env→Heap→Prop} {env:Env} {h:Heap} {o:Oper} {SH:Heap→Prop} {F:Nat→Bool} {fuel:Nat} {listed:Array Bool}
theorem ox_sbytes {s d e:TypeId} {x:Operand} {l:List UInt8} {sz by_ sz' by' esz eby:Nat} {z z' ez:Value} {K:Value→Heap→Prop} (hT:T.ok P) (ho:o.op = .convert s d x) (hx:env.ev? x=some (.string (str l)))
  (hs:T.get? s=some ⟨sz,by_,z,.string⟩) (hd:T.get? d=some ⟨sz',by',z',.slice e⟩) (he:T.get? e=some ⟨esz,eby,ez,.int .u8⟩)
  (hk:∀ cap zs,l.length≤cap→K (.slice (some ⟨h.size,0,none⟩) l.length cap) (h.push (.cells (bytesC l++zs).toArray e (l.length+zs.length,l.length+zs.length+1)))):OpEx P n env o h K:=fun w a hw ha=>by
 subst hw
 have us:P.underlying s=some .string:=(Tab.fits hT hs).2
 have ud:P.underlying d=some (.slice e):=(Tab.fits hT hd).2
 have ue:P.underlying e=some (.int .u8):=(Tab.fits hT he).2
 have hr:=run_bytes_of_string (P:=P) w s d e (str l) us ud ue
 have hge:=grownCap_ge w (str l).size 0 e
 rw [str_size] at hr hge
 have hrow:bytesRow (str l) (grownCap w l.length 0 e)=(bytesC l++List.replicate (grownCap w l.length 0 e-l.length) (Value.int .u8 0)).toArray:=by
  unfold bytesRow
  rw [str_size]
  apply Array.ext'
  simp [bytesC,str]
 rw [hrow] at hr
 have:=hk (grownCap w l.length 0 e) (List.replicate (grownCap w l.length 0 e-l.length) (Value.int .u8 0)) hge
 refine ⟨.slice (some ⟨w.heap.size,0,none⟩) l.length (grownCap w l.length 0 e),w.drew.alloc (.cells (bytesC l++List.replicate (grownCap w l.length 0 e-l.length) (Value.int .u8 0)).toArray e ((bytesC l++List.replicate (grownCap w l.length 0 e-l.length) (Value.int .u8 0)).toArray.size,(bytesC l++List.replicate (grownCap w l.length 0 e-l.length) (Value.int .u8 0)).toArray.size+1)),?_,⟨rfl,rfl,rfl⟩,?_⟩
 ·simp only [execOp,ho,ha.ev hx];rw [Sem.run_bind];simp [hr]
 ·have e2:(bytesC l++List.replicate (grownCap w l.length 0 e-l.length) (Value.int .u8 0)).toArray.size=l.length+(List.replicate (grownCap w l.length 0 e-l.length) (Value.int .u8 0)).length:=by simp [bytesC]
  rw [e2];exact this
theorem ov_convw {s d:TypeId} {x:Operand} {k k':IntKind} {q:Int} {i:TI} {sz by_:Nat} {z:Value} (hT:T.ok P) (ho:o.op = .convert s d x) (hx:env.ev? x=some (.int k q)) (hs:T.get? s=some i) (hd:T.get? d=some ⟨sz,by_,z,.int k'⟩) :
  OpVal P n env o h (.int k' (k'.wrap q)):=fun w a _ ha=>by
 have hu:P.underlying d=some (.int k'):=(Tab.fits hT hd).2
 have hus:∃ ds,P.underlying s=some ds:=by
  have:=(Tab.fits hT hs).2
  rcases hk:i.kind with k | (_ | _) | e | e | fs | ⟨m,e⟩<;>rw [hk] at this<;>simp only [TK.fits] at this
  case inr.inr.inr.inr.inl=>obtain ⟨f,h1,_⟩:=this;exact ⟨_,h1⟩
  all_goals exact ⟨_,this⟩
 obtain ⟨ds,hus⟩:=hus
 simp [execOp,ho,ha.ev hx,convert,und (Tab.fits hT hs) hus,und (Tab.fits hT hd) hu,Conv.intToInt]
theorem setRow_eqF (w:World) (g:Nat) (old cs:Array Value) (e:TypeId) (fz:Nat × Nat) (hg:w.heap[g]? = some (.cells old e fz)):(w.setRow g cs).heap=w.heap.setIfInBounds g (.cells cs e fz):=by
 have hlt:g<w.heap.size:=(Array.getElem?_eq_some_iff.1 hg).1
 apply Array.ext_getElem?
 intro k
 by_cases hk:k=g
 ·subst hk
  rw [setRow_heap w k old cs e fz hg]
  simp [hlt]
 ·rw [setRow_other w g k cs hk]
  simp [Array.getElem?_setIfInBounds_ne (Ne.symm hk)]
def FBlk (h:Heap) (b:Nat) (c:List Value) (e:TypeId) (fz:Nat × Nat):Prop:=h[b]? = some (.cells c.toArray e fz)
theorem WF.put1F {t:TypeId} {x y:Operand} {b p:Nat} {v:Value} {c:List Value} {by_:Nat} {z:Value} {tk:TK} {e:TypeId} {fz:Nat × Nat} (i:Nat) (hT:T.ok P) (hr:Region.ready .any ops listed=[i]) (hi:ops[i]? = some o) (ho:o.op = .store t x y) (hg:gd ops env o=some true) (hd:o.dst=none)
  (hx:env.ev? x=some (.pointer (some ⟨b,p,none⟩))) (hy:env.ev? y=some v) (ht:T.get? t=some ⟨1,by_,z,tk⟩) (hv:oneList v=some [v]) (h1:One [v])
  (hblk:FBlk h b c e fz) (hp:p<c.length) (hpf:p<fz.1) (hF:F i=true)
  (hk:∀ h1,FBlk h1 b (c.set p v) e fz→Fr (fun k=>k=b) h h1→h1.size=h.size→WF P n ops SH F fuel (listed.setIfInBounds i true) K env h1):WF P n ops SH F (fuel+1) listed K env h:=by
 have hblt:b<h.size:=(Array.getElem?_eq_some_iff.1 hblk).1
 refine WF.skip (h':=h.setIfInBounds b (.cells (c.set p v).toArray e fz)) i hr hi hg hd (fun w a hw ha=>?_) (.inl hF) (hk _ ?_ ⟨by simp,fun k hk hne=>?_⟩ (by simp))
 ·subst hw
  have hv':=oneList_cells hv
  have hcell:w.cell? ⟨b,p,none⟩=some c[p]:=by simp [World.cell?,FBlk] at *;simp [hblk,hp]
  have hfro:w.frozen? ⟨b,p,none⟩=false:=by
   unfold FBlk at hblk
   simp only [World.frozen?,hblk]
   have:¬ fz.1≤p:=by omega
   simp [this]
  have hst:(store ⟨b,p,none⟩ v).run P w = .ok () (w.setRow b (c.toArray.setIfInBounds p v)):=by
   rw [run_store P w _ v _ (h1 v (by simp)),hcell]
   simp [hfro,setCell_eq_setRow w b p c.toArray e fz v hblk]
  have hadd:(⟨b,p,none⟩:Addr).add 0=⟨b,p,none⟩:=by simp [Addr.add]
  refine ⟨w.setRow b (c.toArray.setIfInBounds p v),?_,⟨rfl,rfl,rfl⟩,?_⟩
  ·simp [execOp,ho,ha.ev hx,ha.ev hy,Instr.storeAt,Instr.sureAddr,storeVar,run_sizeOf (Tab.fits hT ht),hv',storeCells,hadd,hst]
  ·have:=setRow_eqF w b c.toArray (c.toArray.setIfInBounds p v) e fz hblk
   rw [this]
   simp
 ·simp [FBlk,hblt]
 ·rw [Array.getElem?_setIfInBounds]
  split
  ·rename_i e;exact absurd e.symm hne
  ·rfl
end
end Go.Pat
