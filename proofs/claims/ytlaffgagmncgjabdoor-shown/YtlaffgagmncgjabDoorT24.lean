import Derived.Test.YtlaffgagmncgjabDoorT23
import Derived.Test.YtlaffgagmncgjabDoorMem3
namespace Go.Pat
open Go
section
variable {P:Program} {n:Nat} {env:Env} {h:Heap} {o:Oper} {T:Tab}
theorem ov_buildA {t e:TypeId} {ps:List (Nat × Operand)} {vs q:List (Nat × Value)} {len sz by_ esz eby:Nat} {z ez:Value} {ek:TK} {zs cs:List Value} (hT:T.ok P) (ho:o.op = .build t ps.toArray)
  (ht:T.get? t=some ⟨sz,by_,z,.array len e⟩) (he:T.get? e=some ⟨esz,eby,ez,ek⟩) (hz:oneList z=some zs) (hv:evps env ps=some vs) (hq:placed (fun j=>some (j*esz,esz)) zs.length vs=some q) (hc:fillO zs q=some cs) :
  OpVal P n env o h (.agg cs.toArray):=fun w a _ ha=>by
 have hu:P.underlying t=some (.array len e):=(Tab.fits hT ht).2
 have h2:=evps_spec ha hv
 have hzc:=oneList_cells hz
 have h4:=fill_placed (place:=fun j=>some (j*esz,esz)) vs z.cells q (by rw [hzc];simpa using hq)
 have h5:ps.map (fun x=>match x with | (i,x)=>(i,a.eval x))=vs:=h2
 have h6:=fillO_spec hc
 rw [hzc] at h4
 simp [execOp,ho,Instr.build,run_zero (Tab.fits hT ht),und (Tab.fits hT ht) hu,run_sizeOf (Tab.fits hT he),h5,hzc,h4,h6]
theorem ox_append_rd {s x:Operand} {t e:TypeId} {xv:Value} {ad:Option Addr} {N m:Nat} {xs news:List Value} {i:TI} {sz by_:Nat} {z:Value} {K:Value→Heap→Prop} (hT:T.ok P)
  (ho:o.op = .call { callee:=.builtin .append,args:=#[s,x],argTypes:=#[t,t] }) (hs:env.ev? s=some (.slice ad N N)) (hx:env.ev? x=some xv)
  (ht:T.get? t=some ⟨sz,by_,z,.slice e⟩) (he:T.get? e=some i) (hz:i.zero.cells.size=i.size) (hsz:Nat.blt 0 i.size=true)
  (hbase:Rd h i.size (.slice ad N N) N xs) (hr:Rd h i.size xv m news) (h1:One news) (hb:(N+m)*(i.bytes+1)≤140737488355328)
  (hk:∀ v' h',Rd h' i.size v' (N+m) (xs++news)→Ext h h'→(v' = .slice ad N N∨v'.ownBlock=some h.size)→K v' h'):OpEx P n env o h K:=by
 rcases Nat.eq_zero_or_pos m with hm | hm
 ·subst hm
  have hnil:news=[]:=by have:=hr.1;simp at this;exact this
  subst hnil
  refine (ov_append_none hT ho hs hx ht he hr (Nat.le_refl _)).ex (hk _ _ ?_ (Fr.refl _ _) (.inl rfl))
  simpa using hbase
 ·rcases hbase.2 with ⟨e1,e2⟩ | ⟨b,p,cap,e1,e2,e3⟩
  ·cases e1
   have hnil:xs=[]:=by have:=hbase.1;simp at this;exact this
   subst hnil
   refine ox_append hT ho hs hx ht he hz hsz (Own.nil h e i.size) hr h1 hb fun v' h' q1 q2 q3=>hk v' h' q1.rd ?_ ?_
   ·exact q2.mono fun k _ e=>by simp [Value.ownBlock] at e
   ·rcases q3 with q3 | q3
    ·rcases q1.2 with ⟨_,e⟩ | ⟨g,c,cur,e,_⟩
     ·omega
     ·subst e;simp [Value.ownBlock] at q3
    ·exact .inr q3
  ·cases e1
   exact ox_append_full hT ho hs hx ht he hz hbase.1 e3 hr hm hb fun v' h' q1 q2 q3=>hk v' h' q1.rd q2 (.inr q3)
end
theorem Runs.joinK {P:Program} {f:FuncId} {n:Nat} {post:Value→Heap→Prop} {k:List Item} {env:Env} {h:Heap} {c:Code} (J:Env→Heap→Prop) (hr:∀ k',(∀ env' h',J env' h'→Runs P f n post k' env' h')→Runs P f n post (.code c::k') env h) (hJ:∀ env' h',J env' h'→Runs P f n post k env' h') :
  Runs P f n post (.code c::k) env h:=hr k hJ
end Go.Pat
namespace Go.Proofs.YtlaffgagmncgjabDoor
open Go Go.Pat Go.Proofs
structure ShD where
 (i mark:Nat) (block:Int) (strand:Nat)
def ShD.cells (s:ShD):List Value:=[.int .i64 (s.i:Int),.int .u8 (s.mark:Int),.int .i64 s.block,.int .i64 (s.strand:Int)]
theorem ShD.one (s:ShD):One s.cells:=by intro u hu;simp [ShD.cells] at hu;rcases hu with rfl | rfl | rfl | rfl<;>rfl
def shC (l:List ShD):List Value:=l.flatMap ShD.cells
theorem shC_append (l m:List ShD):shC (l++m)=shC l++shC m:=by simp [shC]
theorem length_shC (l:List ShD):(shC l).length=l.length*4:=by
 induction l with
 | nil=>rfl
 | cons x l ih=>simp only [shC,List.flatMap_cons,List.length_append] at ih ⊢;rw [ih];simp [ShD.cells];omega
theorem one_shC (l:List ShD):One (shC l):=by
 intro u hu
 obtain ⟨s,_,hs⟩:=List.mem_flatMap.1 hu
 exact s.one u hs
theorem shC_split (l:List ShD) (k:Nat) (hk:k≤l.length):(shC l).take (k*4)=shC (l.take k)∧(shC l).drop (k*4)=shC (l.drop k):=by
 have h1:shC l=shC (l.take k)++shC (l.drop k):=by rw [← shC_append,List.take_append_drop]
 have h2:(shC (l.take k)).length=k*4:=by rw [length_shC,List.length_take];congr 1;omega
 rw [h1]
 exact ⟨by rw [← h2,List.take_left],by rw [← h2,List.drop_left]⟩
theorem shC_get {h:Heap} {l:List ShD} {b p:Nat} (hc:Cells h b p (shC l)) {i:Nat} {x:ShD} (hi:l[i]? = some x):Cells h b (p+i*4) x.cells:=by
 have hlt:i<l.length:=(List.getElem?_eq_some_iff.1 hi).1
 intro j v hj
 have hj4:j<4:=by have:=(List.getElem?_eq_some_iff.1 hj).1;simpa [ShD.cells] using this
 have hv:(shC l)[i*4+j]? = some v:=by
  have h0:l=l.take i++x::l.drop (i+1):=by
   obtain ⟨_,e⟩:=List.getElem?_eq_some_iff.1 hi
   rw [← e,List.getElem_cons_drop,List.take_append_drop]
  rw [h0,shC_append]
  have hl:(shC (l.take i)).length=i*4:=by rw [length_shC,List.length_take];congr 1;omega
  rw [List.getElem?_append_right (by omega),hl,show i*4+j-i*4=j by omega]
  simp only [shC,List.flatMap_cons]
  rw [List.getElem?_append_left (by simp [ShD.cells];omega)]
  exact hj
 have:=hc (i*4+j) v hv
 rw [← Nat.add_assoc] at this
 exact this
def cntP (ld:List (List Bool)) (fx:List Bool) (i j:Nat):Bool:=(!decide (j=i)&&fx.getD j false)&&aheadS ld j i
def cntS (n:Nat) (ld:List (List Bool)) (fx:List Bool) (i:Nat):Nat:=((List.range n).filter (cntP ld fx i)).length
structure OP where
 (n:Nat) (ld:List (List Bool)) (fx:List Bool) (bl:List Int) (st:Nat→Nat) (orp:Nat→Bool)
def OP.blk (o:OP) (i:Nat):Int:=o.bl.getD i 0
def OP.strd (o:OP) (i:Nat):Nat:=if o.blk i<0 then 0 else o.st i
def OP.key (o:OP) (i:Nat):Key:=⟨((2*cntS o.n o.ld o.fx i+(if o.blk i<0 then 1 else 0):Nat):Int),(o.strd i:Int),(rankS o.n o.ld i:Int),(i:Int)⟩
def OP.mark (o:OP) (i:Nat):Nat:=if o.orp i=true then 33 else if ringS o.n o.ld i=true then 64 else if o.blk i<0 then 32 else 124
def OP.sh (o:OP) (i:Nat):ShD:=⟨i,o.mark i,o.blk i,o.strd i⟩
def OP.ins (o:OP) (i:Nat) (out:List ShD):List ShD:=out.takeWhile (fun x=>lessS (o.key x.i) (o.key i))++o.sh i::out.dropWhile (fun x=>lessS (o.key x.i) (o.key i))
def OP.to (o:OP) (k:Nat):List ShD:=(List.range k).foldl (fun out i=>o.ins i out) []
theorem OP.to_succ (o:OP) (k:Nat):o.to (k+1)=o.ins k (o.to k):=by simp [OP.to,List.range_succ,List.foldl_append]
theorem OP.to_length (o:OP) (k:Nat):(o.to k).length=k:=by
 induction k with
 | zero=>rfl
 | succ k ih =>
  rw [OP.to_succ,OP.ins]
  have h1:((o.to k).takeWhile (fun x=>lessS (o.key x.i) (o.key k))).length+((o.to k).dropWhile (fun x=>lessS (o.key x.i) (o.key k))).length=(o.to k).length:=by
   rw [← List.length_append,List.takeWhile_append_dropWhile]
  simp only [List.length_append,List.length_cons];omega
theorem OP.to_mem (o:OP) (k:Nat):∀ x∈o.to k,x.i<k∧x=o.sh x.i:=by
 induction k with
 | zero=>simp [OP.to]
 | succ k ih =>
  intro x hx
  rw [OP.to_succ,OP.ins] at hx
  have h0:∀ y∈o.to k,y.i<k+1∧y=o.sh y.i:=fun y hy=>⟨by have:=(ih y hy).1;omega,(ih y hy).2⟩
  rcases List.mem_append.1 hx with e | e
  ·exact h0 x ((List.takeWhile_sublist _).mem e)
  ·rcases List.mem_cons.1 e with e | e
   ·subst e;exact ⟨Nat.lt_succ_self k,rfl⟩
   ·exact h0 x ((List.dropWhile_sublist _).mem e)
theorem span_ltS {α:Type} {f:α→Bool} {l:List α} {i:Nat} (h1:∀ y∈l.take i,f y=true) (h2:∀ y,l[i]? = some y→f y=false):l.takeWhile f=l.take i∧l.dropWhile f=l.drop i:=by
 induction l generalizing i with
 | nil=>simp
 | cons a l ih =>
  cases i with
  | zero=>have:=h2 a (by simp);simp [this]
  | succ i =>
   have ha:=h1 a (by simp)
   have:=ih (i:=i) (fun y hy=>h1 y (by simp [hy])) (fun y hy=>h2 y (by simpa using hy))
   simp [ha,this]
theorem OP.ins_at (o:OP) {i k:Nat} (hless:∀ y∈(o.to i).take k,lessS (o.key y.i) (o.key i)=true) (hno:∀ y,(o.to i)[k]? = some y→lessS (o.key y.i) (o.key i)=false):o.to (i+1)=(o.to i).take k++o.sh i::(o.to i).drop k:=by
 obtain ⟨e1,e2⟩:=span_ltS (f:=fun y:ShD=>lessS (o.key y.i) (o.key i)) (l:=o.to i) (i:=k) (fun y hy=>hless y hy) (fun y hy=>hno y hy)
 rw [OP.to_succ]
 show (o.to i).takeWhile (fun x=>lessS (o.key x.i) (o.key i))++o.sh i::(o.to i).dropWhile (fun x=>lessS (o.key x.i) (o.key i))=_
 rw [e1,e2]
theorem strand_uniq {n:Nat} {ld:List (List Bool)} {bl:List Int} {i r s:Nat} (h1:IsStrand n ld bl i r) (h2:IsStrand n ld bl i s):r=s:=by
 have e1:=h1.least s h2.conn
 have e2:=h2.least r h1.conn
 omega
theorem one_u8 (x:Int):One [.int .u8 x]:=by intro u hu;simp at hu;subst hu;rfl
theorem Key.one (k:Key):One k.cells:=by intro u hu;simp [Key.cells] at hu;rcases hu with rfl | rfl | rfl | rfl<;>rfl
structure JC where
 (j c:Nat)
end Go.Proofs.YtlaffgagmncgjabDoor
