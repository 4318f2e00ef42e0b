import Derived.Test.YtlaffgagmncgjabDoorOps
namespace Go.Pat
open Go
def strs (ps:List (List UInt8)):List Value:=ps.map fun p=>.string (str p)
theorem one_str (p:List UInt8):One [.string (str p)]:=by intro u hu;simp at hu;subst hu;rfl
theorem strs_get {l:List (List UInt8)} {i:Nat} {x:List UInt8} (h:l[i]? = some x):(strs l)[i]? = some (.string (str x)):=by simp [strs,h]
theorem one_int (x:Int):One [.int .i64 x]:=by intro u hu;simp at hu;subst hu;rfl
def ints (l:List Nat):List Value:=l.map fun (x:Nat)=>Value.int .i64 (x:Int)
theorem ints_get {l:List Nat} {i x:Nat} (h:l[i]? = some x):(ints l)[i]? = some (.int .i64 (x:Int)):=by simp [ints,h]
theorem Rd.cell {h:Heap} {v:Value} {n:Nat} {xs:List Value} (hr:Rd h 1 v n xs) {i:Nat} {u:Value} (hi:xs[i]? = some u):∃ b p cap,v = .slice (some ⟨b,p,none⟩) n cap∧n≤cap∧cellAt h b (p+i*1)=some u:=by
 have hlt:i<xs.length:=by
  rcases Nat.lt_or_ge i xs.length with e | e
  ·exact e
  ·simp [List.getElem?_eq_none e] at hi
 rcases hr.2 with ⟨rfl,rfl⟩ | ⟨b,p,cap,rfl,hc,hcs⟩
 ·have:=hr.1;simp at this;subst this;simp at hlt
 ·exact ⟨b,p,cap,rfl,hc,by rw [Nat.mul_one];exact hcs i u hi⟩
theorem Rd.form {h:Heap} {sz:Nat} {v:Value} {n:Nat} {xs:List Value} (hr:Rd h sz v n xs):∃ ad cap,v = .slice ad n cap:=by
 rcases hr.2 with ⟨rfl,rfl⟩ | ⟨b,p,cap,rfl,_⟩
 ·exact ⟨_,_,rfl⟩
 ·exact ⟨_,_,rfl⟩
theorem ret1 {fn:Func} {n:Nat} {env:Env} {h:Heap} {t:Nat} {v:Value} (hr:fn.results = #[.tmp t]) (hv:env.get? t=some v) {P:Program} (a:Act) (w:World) (ha:Sat n env a) (_:w.heap=h):(results fn a.tmps).run P w = .ok v w:=by
 have:=ha.known t v hv
 simp [results,hr,Array.getD_eq_getD_getElem?,this]
theorem ret2 {fn:Func} {n:Nat} {env:Env} {h:Heap} {t u:Nat} {v v':Value} (hr:fn.results = #[.tmp t,.tmp u]) (hv:env.get? t=some v) (hv':env.get? u=some v') {P:Program} (a:Act) (w:World) (ha:Sat n env a) (_:w.heap=h):(results fn a.tmps).run P w = .ok (.tuple #[v,v']) w:=by
 have h1:=ha.known t v hv
 have h2:=ha.known u v' hv'
 simp [results,hr,Array.getD_eq_getD_getElem?,h1,h2]
theorem Rd.formc {h:Heap} {sz:Nat} {v:Value} {n:Nat} {xs:List Value} (hr:Rd h sz v n xs):∃ ad cap,v = .slice ad n cap∧n≤cap:=by
 rcases hr.2 with ⟨rfl,rfl⟩ | ⟨b,p,cap,rfl,h,_⟩
 ·exact ⟨_,_,rfl,Nat.le_refl _⟩
 ·exact ⟨_,_,rfl,h⟩
theorem Rd.pos {h:Heap} {sz:Nat} {v:Value} {n:Nat} {xs:List Value} (hr:Rd h sz v n xs) (hn:0<n):∃ b p cap,v = .slice (some ⟨b,p,none⟩) n cap∧n≤cap∧Cells h b p xs:=by
 rcases hr.2 with ⟨rfl,rfl⟩ | ⟨b,p,cap,rfl,hc,hcs⟩
 ·omega
 ·exact ⟨b,p,cap,rfl,hc,hcs⟩
def Blk (h:Heap) (b:Nat) (c:List Value) (e:TypeId):Prop:=h[b]? = some (.cells c.toArray e (0,0))
theorem Blk.lt {h:Heap} {b:Nat} {c:List Value} {e:TypeId} (x:Blk h b c e):b<h.size:=(Array.getElem?_eq_some_iff.1 x).1
theorem Blk.fr {S:Nat→Prop} {h h':Heap} {b:Nat} {c:List Value} {e:TypeId} (x:Blk h b c e) (f:Fr S h h') (hs:¬ S b):Blk h' b c e:=by
 unfold Blk at *;rw [f.same b (Array.getElem?_eq_some_iff.1 x).1 hs];exact x
theorem Blk.ext {h h':Heap} {b:Nat} {c:List Value} {e:TypeId} (x:Blk h b c e) (f:Ext h h'):Blk h' b c e:=x.fr f (by simp)
theorem Blk.push (h:Heap) (c:List Value) (e:TypeId):Blk (h.push (.cells c.toArray e (0,0))) h.size c e:=by simp [Blk]
theorem Blk.cells {h:Heap} {b:Nat} {c:List Value} {e:TypeId} (x:Blk h b c e):Cells h b 0 c:=fun j v hj=>by
 unfold Blk at x;simp [cellAt,x,hj]
theorem Blk.cell {h:Heap} {b:Nat} {c:List Value} {e:TypeId} (x:Blk h b c e) {j:Nat} {v:Value} (hj:c[j]? = some v):cellAt h b j=some v:=by
 unfold Blk at x;simp [cellAt,x,hj]
theorem Blk.put {h:Heap} {b:Nat} {c:List Value} {e:TypeId} (x:Blk h b c e) (c':List Value):Blk (putRow h b c' e) b c' e:=by
 simp [Blk,putRow,x.lt]
theorem Fr.put (h:Heap) (b:Nat) (c:List Value) (e:TypeId):Fr (fun k=>k=b) h (putRow h b c e) :=
 ⟨by simp [putRow],fun k _ hk=>by simp [putRow,Array.getElem?_setIfInBounds_ne (Ne.symm hk)]⟩
theorem Ext.put {h h':Heap} (x:Ext h h') {b:Nat} (hb:h.size≤b) (c:List Value) (e:TypeId):Ext h (putRow h' b c e) :=
 x.trans_new ((Fr.put h' b c e).mono fun k _ hk=>.inr (by omega))
theorem retc {fn:Func} {n:Nat} {env:Env} {h:Heap} {T:Tab} {P:Program} {t u b:Nat} {ty:TypeId} {l:List Value} {v':Value} {i:TI} (hT:T.ok P) (hr:fn.results = #[.cell t ty,.tmp u]) (hv:env.get? t=some (.pointer (some ⟨b,0,none⟩))) (hv':env.get? u=some v')
  (ht:T.get? ty=some i) (hag:i.kind.agg=true) (hl:l.length=i.size) (hc:Cells h b 0 l) (a:Act) (w:World) (ha:Sat n env a) (hw:w.heap=h):(results fn a.tmps).run P w = .ok (.tuple #[.agg l.toArray,v']) w:=by
 have h1:=ha.known t _ hv
 have h2:=ha.known u v' hv'
 subst hw
 have:=run_loadCellsFrom (P:=P) l 0 #[] (by simpa using hc)
 simp [results,hr,Array.getD_eq_getD_getElem?,h1,h2,asAddr,loadVar,run_isAgg (Tab.fits hT ht),hag,run_sizeOf (Tab.fits hT ht),loadCells,← hl,this]
def over:List Value→List Value→Option (List Value)
 | c,[]=>some c
 | _::c,v::vs=>match over c vs with
  | some r=>some (v::r)
  | none=>none
 | [],_::_=>none
def setO:List Value→Nat→List Value→Option (List Value)
 | c,0,vs=>over c vs
 | x::c,p+1,vs=>match setO c p vs with
  | some r=>some (x::r)
  | none=>none
 | [],_+1,_=>none
theorem over_spec:∀ {vs c r:List Value},over c vs=some r→r=vs++c.drop vs.length∧vs.length≤c.length:=by
 intro vs
 induction vs with
 | nil=>intro c r h;cases c<;>simp [over] at h<;>subst h<;>simp
 | cons v vs ih =>
  intro c r h
  cases c with
  | nil=>simp [over] at h
  | cons x c =>
   simp only [over] at h
   cases ho:over c vs with
   | none=>simp [ho] at h
   | some q =>
    simp only [ho] at h
    cases h
    obtain ⟨h1,h2⟩:=ih ho
    exact ⟨by simp [h1],by simp;exact h2⟩
theorem setO_spec:∀ {p:Nat} {vs c r:List Value},setO c p vs=some r→r=setAt c p vs∧p+vs.length≤c.length:=by
 intro p
 induction p with
 | zero =>
  intro vs c r h
  have:over c vs=some r:=by cases c<;>exact h
  obtain ⟨h1,h2⟩:=over_spec this
  exact ⟨by simp [setAt,h1],by omega⟩
 | succ p ih =>
  intro vs c r h
  cases c with
  | nil=>simp [setO] at h
  | cons x c =>
   simp only [setO] at h
   cases ho:setO c p vs with
   | none=>simp [ho] at h
   | some q =>
    simp only [ho] at h
    cases h
    obtain ⟨h1,h2⟩:=ih ho
    refine ⟨?_,by simp;omega⟩
    rw [h1,setAt,setAt,show p+1+vs.length=(p+vs.length)+1 by omega]
    simp
section
variable {P:Program} {n:Nat} {env:Env} {h:Heap} {o:Oper} {T:Tab} {ops:Array Oper} {l:List Oper} {K:Env→Heap→Prop}
def fillO:List Value→List (Nat × Value)→Option (List Value)
 | l,[]=>some l
 | l,(off,v)::r=>match oneList v with
  | some vs=>match setO l off vs with
   | some l'=>fillO l' r
   | none=>none
  | none=>none
theorem setAll_setAt:∀ (vs l:List Value) (i:Nat),i+vs.length≤l.length→setAll l i vs=setAt l i vs:=by
 intro vs
 induction vs with
 | nil=>intro l i _;simp [setAll,setAt]
 | cons v vs ih =>
  intro l i hl
  simp only [List.length_cons] at hl
  simp only [setAll]
  rw [ih (l.set i v) (i+1) (by simp;omega)]
  simp only [setAt,List.length_cons]
  rw [List.take_set,List.drop_set_of_lt (by omega),show i+1+vs.length=i+(vs.length+1) by omega]
  congr 1
  rw [List.take_succ_eq_append_getElem (by omega:i<l.length),List.set_append_right _ _ (by simp;omega)]
  simp [Nat.min_eq_left (by omega:i≤l.length)]
theorem fillO_spec:∀ {q:List (Nat × Value)} {l r:List Value},fillO l q=some r→fillL l q=r:=by
 intro q
 induction q with
 | nil=>intro l r h;simp [fillO] at h;exact h
 | cons p q ih =>
  obtain ⟨off,v⟩:=p
  intro l r h
  simp only [fillO] at h
  split at h
  ·rename_i vs hv
   split at h
   ·rename_i l' hl'
    obtain ⟨h1,h2⟩:=setO_spec hl'
    simp only [fillL]
    rw [oneList_cells hv]
    simp only
    rw [setAll_setAt vs l off h2,← h1]
    exact ih h
   ·cases h
  ·cases h
def mk (T:Tab) (env:Env) (t:TypeId) (ps:List (Nat × Operand)):Option (List Value) :=
 match T.get? t with
 | some ⟨_,_,.agg ⟨zs⟩,.inr (.inr (.inr (.inr (.inl fs))))⟩=>match evps env ps with
  | some vs=>match places T fs with
   | some pl=>match placed (fun i=>pl[i]?) zs.length vs with
    | some q=>fillO zs q
    | none=>none
   | none=>none
  | none=>none
 | _=>none
theorem ov_mk {t:TypeId} {ps:List (Nat × Operand)} {cs:List Value} (hT:T.ok P) (ho:o.op = .build t ps.toArray) (hm:mk T env t ps=some cs):OpVal P n env o h (.agg cs.toArray):=by
 unfold mk at hm
 split at hm
 ·rename_i zs fs ht
  split at hm
  ·split at hm
   ·split at hm
    ·rename_i vs hv _ pl hpl _ q hq
     have:=fillO_spec hm
     rw [← this]
     exact ov_build hT ho ht hv hpl (by simpa [Value.cells] using hq)
    ·cases hm
   ·cases hm
  ·cases hm
 ·cases hm
theorem ox_buildN {t e:TypeId} {len:Nat} {ps:List (Nat × Operand)} {vs q:List (Nat × Value)} {sz by_ esz eby:Nat} {z ez:Value} {ek:TK} {zs cs:List Value} {K:Value→Heap→Prop} (hT:T.ok P) (ho:o.op = .buildSlice t len ps.toArray)
  (ht:T.get? t=some ⟨sz,by_,z,.slice e⟩) (he:T.get? e=some ⟨esz,eby,ez,ek⟩) (hz:oneList ez=some zs) (hpos:Nat.blt 0 (len*esz)=true) (hle:Nat.ble (len*esz) 16777216=true)
  (hv:evps env ps=some vs) (hq:placed (fun j=>some (j*esz,esz)) (len*esz) vs=some q) (hc:fillO ((List.range (len*esz)).map fun j=>zs[j % zs.length]!) q=some cs)
  (hk:K (.slice (some ⟨h.size,0,none⟩) len len) (h.push (.cells cs.toArray e (0,0)))):OpEx P n env o h K :=
 ox_buildSlice hT ho ht he (by rw [oneList_cells hz]) hpos hle hv hq (fun cs' hcs'=>by rw [hcs',fillO_spec hc];exact hk)
theorem WO.alloc {t:TypeId} {sz by_ d:Nat} {z:Value} {tk:TK} {zs:List Value} (hT:T.ok P) (ho:o.op = .alloc t) (hg:gd ops env o=some true) (hd:o.dst=some d) (hn:Nat.blt d n=true) (ht:T.get? t=some ⟨sz,by_,z,tk⟩) (hz:oneList z=some zs)
  (hk:∀ h1,Blk h1 h.size zs t→Ext h h1→h1.size=h.size+1→WO P n ops l K ((d,.pointer (some ⟨h.size,0,none⟩))::env) h1):WO P n ops (o::l) K env h:=by
 refine WO.ex hg hd hn (ox_alloc hT ho ht ?_)
 refine hk _ ?_ (Fr.push _ _ _) (by simp)
 show Blk (h.push (.cells z.cells t (0,0))) h.size zs t
 rw [oneList_cells hz]
 exact Blk.push h zs t
theorem WO.box {t:TypeId} {x:Operand} {d:Nat} {v:Value} {vs:List Value} (ho:o.op = .box t x) (hg:gd ops env o=some true) (hd:o.dst=some d) (hn:Nat.blt d n=true) (hx:env.ev? x=some v) (hz:oneList v=some vs)
  (hk:∀ h1,Blk h1 h.size vs t→Ext h h1→h1.size=h.size+1→WO P n ops l K ((d,.pointer (some ⟨h.size,0,none⟩))::env) h1):WO P n ops (o::l) K env h:=by
 refine WO.ex hg hd hn (ox_box ho hx ?_)
 refine hk _ ?_ (Fr.push _ _ _) (by simp)
 rw [oneList_cells hz]
 exact Blk.push h vs t
theorem WO.put {t:TypeId} {x y:Operand} {b p:Nat} {v:Value} {vs c c':List Value} {sz by_:Nat} {z:Value} {tk:TK} {e:TypeId} (hT:T.ok P) (ho:o.op = .store t x y) (hg:gd ops env o=some true) (hd:o.dst=none)
  (hx:env.ev? x=some (.pointer (some ⟨b,p,none⟩))) (hy:env.ev? y=some v) (ht:T.get? t=some ⟨sz,by_,z,tk⟩) (hv:oneList v=some vs) (hl:Nat.beq vs.length sz=true) (h1:One vs)
  (hblk:Blk h b c e) (hs:setO c p vs=some c')
  (hk:∀ h1,Blk h1 b c' e→Fr (fun k=>k=b) h h1→h1.size=h.size→WO P n ops l K env h1):WO P n ops (o::l) K env h:=by
 obtain ⟨e1,e2⟩:=setO_spec hs
 refine WO.store hT ho hg hd hx hy ht (vs:=vs) (by rw [oneList_cells hv]) hl h1 hblk e2 ?_
 rw [← e1]
 exact hk _ (hblk.put c') (Fr.put h b c' e) (by simp [putRow])
theorem WO.lit {t e:TypeId} {len d:Nat} {ps:List (Nat × Operand)} {vs q:List (Nat × Value)} {sz by_ esz eby:Nat} {z ez:Value} {ek:TK} {zs:List Value} (cs:List Value) (hT:T.ok P) (ho:o.op = .buildSlice t len ps.toArray) (hg:gd ops env o=some true) (hd:o.dst=some d) (hn:Nat.blt d n=true)
  (ht:T.get? t=some ⟨sz,by_,z,.slice e⟩) (he:T.get? e=some ⟨esz,eby,ez,ek⟩) (hz:oneList ez=some zs) (hpos:Nat.blt 0 (len*esz)=true) (hle:Nat.ble (len*esz) 16777216=true)
  (hv:evps env ps=some vs) (hq:placed (fun j=>some (j*esz,esz)) (len*esz) vs=some q) (hc:fillO ((List.range (len*esz)).map fun j=>zs[j % zs.length]!) q=some cs)
  (hk:∀ h1,Blk h1 h.size cs e→Ext h h1→h1.size=h.size+1→WO P n ops l K ((d,.slice (some ⟨h.size,0,none⟩) len len)::env) h1):WO P n ops (o::l) K env h :=
 WO.ex hg hd hn (ox_buildN hT ho ht he hz hpos hle hv hq hc (hk _ (Blk.push h cs e) (Fr.push _ _ _) (by simp)))
theorem WO.var {o₂:Oper} {t:TypeId} {y:Operand} {sz by_ d:Nat} {z v:Value} {tk:TK} {zs vs c':List Value} (hT:T.ok P) (ho:o.op = .alloc t) (hg:gd ops env o=some true) (hd:o.dst=some d) (hn:Nat.blt d n=true) (ht:T.get? t=some ⟨sz,by_,z,tk⟩) (hz:oneList z=some zs)
  (ho₂:o₂.op = .store t (.tmp d) y) (hg₂:o₂.guard=none) (hd₂:o₂.dst=none) (hy:Env.ev? ((d,.pointer (some ⟨h.size,0,none⟩))::env) y=some v) (hv:oneList v=some vs) (hl:Nat.beq vs.length sz=true) (h1:One vs) (hs:setO zs 0 vs=some c')
  (hk:∀ h1,Blk h1 h.size c' t→Ext h h1→h1.size=h.size+1→WO P n ops l K ((d,.pointer (some ⟨h.size,0,none⟩))::env) h1):WO P n ops (o::o₂::l) K env h:=by
 refine WO.alloc hT ho hg hd hn ht hz fun h2 hb2 hx2 hs2=>?_
 refine WO.put hT ho₂ (by simp [gd,hg₂]) hd₂ (by simp only [Env.ev?];rw [Env.get?_cons,if_pos rfl]) hy ht hv hl h1 hb2 hs fun h3 hb3 hx3 hs3=>?_
 exact hk h3 hb3 (hx2.trans_new (hx3.mono fun k _ e=>.inr (by omega))) (by omega)
end
theorem one_slice (a:Option Addr) (b c:Nat):One [.slice a b c]:=by intro u hu;simp at hu;subst hu;rfl
theorem one_ptr (a:Option Addr):One [.pointer a]:=by intro u hu;simp at hu;subst hu;rfl
theorem one2 (a b:Int):One [.int .i64 a,.int .i64 b]:=by intro u hu;simp at hu;rcases hu with rfl | rfl<;>rfl
structure RefD where
 (p i:Nat)
def RefD.eqb (a b:RefD):Bool:=decide (a.p=b.p)&&decide (a.i=b.i)
@[simp] theorem RefD.eqb_iff {a b:RefD}:a.eqb b=true↔a=b:=by cases a;cases b;simp [RefD.eqb]
@[simp] theorem RefD.eqb_no {a b:RefD}:a.eqb b=false↔¬ a=b:=by rw [← RefD.eqb_iff,Bool.not_eq_true]
structure ChangeD where
 (kind:Nat) (up down:RefD) (text:List UInt8)
structure PatchD where
 (id:Nat) (needs:List Nat) (changes:List ChangeD)
def RefD.cells (r:RefD):List Value:=[.int .i64 (r.p:Int),.int .i64 (r.i:Int)]
def ChangeD.cells (c:ChangeD):List Value:=[.int .i64 (c.kind:Int),.int .i64 (c.up.p:Int),.int .i64 (c.up.i:Int),.int .i64 (c.down.p:Int),.int .i64 (c.down.i:Int),.string (str c.text)]
theorem RefD.one (r:RefD):One r.cells:=by intro u hu;simp [RefD.cells] at hu;rcases hu with rfl | rfl<;>rfl
theorem ChangeD.one (c:ChangeD):One c.cells:=by intro u hu;simp [ChangeD.cells] at hu;rcases hu with rfl | rfl | rfl | rfl | rfl | rfl<;>rfl
def changes (l:List ChangeD):List Value:=l.flatMap ChangeD.cells
theorem changes_get {h:Heap}:∀ {l:List ChangeD} {b p:Nat},Cells h b p (changes l)→∀ {i:Nat} {c:ChangeD},l[i]? = some c→Cells h b (p+i*6) c.cells:=by
 intro l
 induction l with
 | nil=>intro b p _ i c hi;simp at hi
 | cons x l ih =>
  intro b p hc i c hi
  have hx:Cells h b p x.cells∧Cells h b (p+6) (changes l):=by
   constructor
   ·intro j v hj
    exact hc j v (by simp only [changes,List.flatMap_cons];rw [List.getElem?_append_left];exact hj;have:=(List.getElem?_eq_some_iff.1 hj).1;exact this)
   ·intro j v hj
    have:=hc (6+j) v (by simp only [changes,List.flatMap_cons];rw [List.getElem?_append_right (by simp [ChangeD.cells]),show 6+j-x.cells.length=j by simp [ChangeD.cells]];exact hj)
    rw [Nat.add_assoc];exact this
  cases i with
  | zero=>simp at hi;subst hi;simpa using hx.1
  | succ i =>
   have:=ih hx.2 (i:=i) (c:=c) (by simpa using hi)
   rw [Nat.add_assoc,show 6+i*6=(i+1)*6 by omega] at this
   exact this
theorem length_changes (l:List ChangeD):(changes l).length=l.length*6:=by
 induction l with
 | nil=>rfl
 | cons x l ih=>simp only [changes,List.flatMap_cons,List.length_append] at ih ⊢;rw [ih];simp [ChangeD.cells];omega
theorem changes_append (l m:List ChangeD):changes (l++m)=changes l++changes m:=by simp [changes]
def PA (F:Nat→Prop) (h:Heap) (b:Nat) (p:PatchD):Prop :=
 ∃ nv cv,Cells h b 0 [.int .i64 (p.id:Int),nv,cv]∧Rd h 1 nv p.needs.length (ints p.needs)∧Rd h 6 cv p.changes.length (changes p.changes)∧F b∧(∀ k,nv.ownBlock=some k→F k)∧∀ k,cv.ownBlock=some k→F k
theorem PA.fr {F S:Nat→Prop} {h h':Heap} {b:Nat} {p:PatchD} (x:PA F h b p) (f:Fr S h h') (hs:∀ k,F k→¬ S k):PA F h' b p:=by
 obtain ⟨nv,cv,h1,h2,h3,h4,h5,h6⟩:=x
 exact ⟨nv,cv,f.cells (hs b h4) h1,h2.fr f (fun k hk=>hs k (h5 k hk)),h3.fr f (fun k hk=>hs k (h6 k hk)),h4,h5,h6⟩
theorem PA.ext {F:Nat→Prop} {h h':Heap} {b:Nat} {p:PatchD} (x:PA F h b p) (f:Ext h h'):PA F h' b p:=x.fr f (by simp)
theorem PA.mono {F F':Nat→Prop} {h:Heap} {b:Nat} {p:PatchD} (x:PA F h b p) (hs:∀ k,F k→F' k):PA F' h b p:=by
 obtain ⟨nv,cv,h1,h2,h3,h4,h5,h6⟩:=x
 exact ⟨nv,cv,h1,h2,h3,hs b h4,fun k hk=>hs k (h5 k hk),fun k hk=>hs k (h6 k hk)⟩
def ownN (l:List ChangeD):Nat:=(l.filter fun c=>decide (c.kind=1)).length
theorem ownN_le (l:List ChangeD):ownN l≤l.length:=List.length_filter_le _ _
theorem ownN_snoc (l:List ChangeD) (c:ChangeD):ownN (l++[c])=ownN l+if c.kind=1 then 1 else 0:=by
 unfold ownN;rw [List.filter_append];by_cases h:c.kind=1<;>simp [h]
theorem Cells.take {h:Heap} {b o:Nat} {l:List Value} (x:Cells h b o l) (n:Nat):Cells h b o (l.take n):=fun j v hj=>by
 rw [List.getElem?_take] at hj
 split at hj
 ·exact x j v hj
 ·cases hj
def twoB (P:Program) (t:TypeId) (k₁ k₂:IntKind):Bool :=
 (match P.underlying t with
 | some (.struct fs)=>match fs with
  | ⟨[f₁,f₂]⟩=>!(f₁.name == "_") && !(f₂.name == "_")&&Nat.beq f₁.offset 0&&Nat.beq f₂.offset 1 &&
   (match P.underlying f₁.type with | some (.int k)=>decide (k=k₁) | _=>false)&&(match P.underlying f₂.type with | some (.int k)=>decide (k=k₂) | _=>false) &&
   (P.info? f₁.type).isSome&&(P.info? f₂.type).isSome
  | _=>false
 | _=>false) && !P.stoodInHeld t && !P.eqGuardType P.depth t
theorem two_of {P:Program} {t:TypeId} {k₁ k₂:IntKind} (h:twoB P t k₁ k₂=true):Two P t k₁ k₂:=by
 unfold twoB at h
 simp only [Bool.and_eq_true,Bool.not_eq_true'] at h
 obtain ⟨⟨h1,h2⟩,h3⟩:=h
 refine ⟨?_,h2,h3⟩
 split at h1
 ·rename_i hu
  split at h1
  ·rename_i f₁ f₂
   simp only [Bool.and_eq_true,Bool.not_eq_true'] at h1
   obtain ⟨⟨⟨⟨⟨⟨⟨a1,a2⟩,a3⟩,a4⟩,a5⟩,a6⟩,a7⟩,a8⟩:=h1
   refine ⟨f₁,f₂,hu,a1,a2,Nat.eq_of_beq_eq_true a3,Nat.eq_of_beq_eq_true a4,?_,?_,a7,a8⟩
   ·split at a5
    ·rename_i k hk;rw [hk,of_decide_eq_true a5]
    ·cases a5
   ·split at a6
    ·rename_i k hk;rw [hk,of_decide_eq_true a6]
    ·cases a6
  ·cases h1
 ·cases h1
theorem Rd.cut {h:Heap} {sz b p n cap:Nat} {xs:List Value} (hr:Rd h sz (.slice (some ⟨b,p,none⟩) n cap) n xs) (i j:Nat) (hij:i≤j) (hj:j≤n) :
  Rd h sz (.slice (some (if cap=i then ⟨b,p,none⟩ else ⟨b,p+i*sz,none⟩)) (j-i) (cap-i)) (j-i) ((xs.take (j*sz)).drop (i*sz)):=by
 have hl:=hr.1
 have hc:=hr.cells_of
 have hcap:n≤cap:=by
  rcases hr.2 with ⟨e,_⟩ | ⟨_,_,_,e,h,_⟩
  ·cases e
  ·cases e;exact h
 refine ⟨?_,?_⟩
 ·rw [List.length_drop,List.length_take,hl,Nat.min_eq_left (Nat.mul_le_mul_right _ hj),Nat.sub_mul]
 ·by_cases e:cap=i
  ·right
   have:j-i=0:=by omega
   refine ⟨b,p,cap-i,by rw [if_pos e],by omega,?_⟩
   have:(xs.take (j*sz)).drop (i*sz)=[]:=by
    apply List.drop_eq_nil_of_le
    rw [List.length_take,hl]
    have h1:j*sz≤i*sz:=Nat.mul_le_mul_right _ (by omega)
    omega
   rw [this]
   exact Cells.nil _ _ _
  ·right
   refine ⟨b,p+i*sz,cap-i,by rw [if_neg e],by omega,fun q v hq=>?_⟩
   rw [List.getElem?_drop,List.getElem?_take] at hq
   split at hq
   ·have:=hc _ v hq;rw [Nat.add_assoc];exact this
   ·cases hq
def allSome {α β:Type} (f:α→Option β):List α→Option (List β)
 | []=>some []
 | a::r=>match f a with
  | none=>none
  | some b=>match allSome f r with
   | none=>none
   | some bs=>some (b::bs)
theorem allSome_snoc {α β:Type} (f:α→Option β) (l:List α) (a:α) {bs:List β} {b:β} (h1:allSome f l=some bs) (h2:f a=some b):allSome f (l++[a])=some (bs++[b]):=by
 induction l generalizing bs with
 | nil=>simp [allSome] at h1;subst h1;simp [allSome,h2]
 | cons x l ih =>
  simp only [allSome,List.cons_append] at h1 ⊢
  cases hx:f x with
  | none=>simp [hx] at h1
  | some y =>
   simp only [hx] at h1 ⊢
   cases hl:allSome f l with
   | none=>simp [hl] at h1
   | some ys=>simp only [hl] at h1;cases h1;rw [ih hl];simp
theorem allSome_none {α β:Type} (f:α→Option β) {l:List α} {a:α} (hm:a∈l) (h:f a=none):allSome f l=none:=by
 induction l with
 | nil=>cases hm
 | cons x l ih =>
  simp only [allSome]
  rcases List.mem_cons.1 hm with rfl | hm
  ·simp [h]
  ·rw [ih hm];cases f x<;>rfl
theorem allSome_length {α β:Type} (f:α→Option β) {l:List α} {bs:List β} (h:allSome f l=some bs):bs.length=l.length:=by
 induction l generalizing bs with
 | nil=>simp [allSome] at h;subst h;rfl
 | cons x l ih =>
  simp only [allSome] at h
  cases hx:f x with
  | none=>simp [hx] at h
  | some y =>
   simp only [hx] at h
   cases hl:allSome f l with
   | none=>simp [hl] at h
   | some ys=>simp only [hl] at h;cases h;simp [ih hl]
end Go.Pat
