import Derived.Test.YtlaffgagmncgjabDoorBase
namespace Go.Pat
open Go
section
variable {P:Program} {f:FuncId} {n:Nat} {post:Value→Heap→Prop} {k:List Item} {env:Env} {h:Heap}
def WS (P:Program) (n:Nat) (ops:Array Oper) (l:List Oper) (K:Env→Prop) (env:Env) (h:Heap):Prop :=
 ∀ (w:World) (a:Act),w.heap=h→Sat n env a→wpStill P ops w (fun a'=>∃ env',Sat n env' a'∧K env') l a
theorem Runs.still {id:Nat} {l:List Oper} (hm:P.follows .mixedOrders=true) (hB:Region.lexB .any l.toArray=true) (hr:WS P n l.toArray l (fun env=>Runs P f n post k env h) env h) :
  Runs P f n post (.code (.region id l.toArray true)::k) env h :=
 Runs.of_wp (K:=fun env h'=>h'=h∧Runs P f n post k env h) (fun w a hw ha=>wp_region_still_lit hm hB (by
  have hq:=hr { w with drawn:=w.drawn+1 } a hw ha
  have hm:∀ (l':List Oper) (a:Act) (Q Q':Act→Prop),(∀ a,Q a→Q' a)→wpStill P l.toArray { w with drawn:=w.drawn+1 } Q l' a→wpStill P l.toArray { w with drawn:=w.drawn+1 } Q' l' a:=by
   intro l'
   induction l' with
   | nil=>intro a Q Q' hQ h;exact hQ a h
   | cons o r ih =>
    intro a Q Q' hQ h
    simp only [wpStill] at h ⊢
    split
    ·rename_i hw;simp only [hw,if_true] at h;exact Oper.still_mono (fun a h=>ih a Q Q' hQ h) h
    ·rename_i hw;simp only [hw] at h;exact ih _ Q Q' hQ h
  refine hm l a _ _ (fun a' ⟨env',ha',hK⟩=>?_) hq
  exact ⟨rfl,⟨rfl,rfl,rfl⟩,env',ha',hw,hK⟩)) (fun _ _ ⟨e,hK⟩=>e ▸ hK)
theorem WS.nil {ops:Array Oper} {K:Env→Prop} (hk:K env):WS P n ops [] K env h:=fun _ _ _ ha=>⟨env,ha,hk⟩
theorem WS.val {ops:Array Oper} {l:List Oper} {K:Env→Prop} {o:Oper} {d:Nat} {v:Value} (hv:OpVal P n env o h v) (hg:gd ops env o=some true) (hd:o.dst=some d) (hn:Nat.blt d n=true)
  (hk:WS P n ops l K ((d,v)::env) h):WS P n ops (o::l) K env h:=fun w a hw ha=>by
 simp only [wpStill,wanted_of_gd ha hg,if_true,Oper.still,hv w a hw ha,Oper.stillUpon,hd,true_and]
 exact hk w _ hw (ha.put hn v)
theorem WS.pass {ops:Array Oper} {l:List Oper} {K:Env→Prop} {o:Oper} {d:Nat} (hg:gd ops env o=some false) (hd:o.dst=some d) (hn:Nat.blt d n=true)
  (hk:WS P n ops l K ((d,undef)::env) h):WS P n ops (o::l) K env h:=fun w a hw ha=>by
 simp only [wpStill,wanted_of_gd ha hg,hd]
 exact hk w _ hw (ha.put hn undef)
theorem WS.split {ops:Array Oper} {l:List Oper} {K:Env→Prop} (d:Nat) (b:Bool) (hd:env.get? d=some (.bool b))
  (ht:b=true→WS P n ops l K ((d,.bool true)::env) h) (hf:b=false→WS P n ops l K ((d,.bool false)::env) h):WS P n ops l K env h:=fun w a hw ha=>by
 have key:∀ c,b=c→Sat n ((d,.bool c)::env) a:=fun c hc=>⟨ha.size,ha.defers,fun t u hu=>by
  rw [Env.get?_cons] at hu
  by_cases e:d=t
  ·rw [if_pos e] at hu;cases hu;subst e;subst hc;exact ha.known _ _ hd
  ·rw [if_neg e] at hu;exact ha.known t u hu⟩
 cases b
 ·exact hf rfl w a hw (key _ rfl)
 ·exact ht rfl w a hw (key _ rfl)
def WH (P:Program) (n:Nat) (ops:Array Oper) (S:Heap→Prop) (fuel:Nat) (listed:Array Bool) (K:Env→Heap→Prop) (env:Env) (h:Heap):Prop :=
 ∀ (w₀ w:World) (a:Act),Same w₀ w→w.heap=h→Sat n env a →
  wpAnyH P .any ops (fun e a' w'=>e = .normal∧Same w₀ w'∧∃ env',Sat n env' a'∧K env' w'.heap) (fun w=>S w.heap) fuel listed a w
theorem Runs.held {id:Nat} {ops:Array Oper} (S:Heap→Prop) (hm:P.follows .mixedOrders=true) (hr:WH P n ops S ops.size (Array.replicate ops.size false) (fun env h=>Runs P f n post k env h) env h) :
  Runs P f n post (.code (.region id ops true)::k) env h :=
 Runs.of_wp (K:=fun env h=>Runs P f n post k env h) (fun w a hw ha=>wp_region_held hm (hr w { w with drawn:=w.drawn+1 } a ⟨rfl,rfl,rfl⟩ hw ha)) (fun _ _ h=>h)
def OpValS (P:Program) (n:Nat) (env:Env) (o:Oper) (S:Heap→Prop) (v:Value):Prop:=∀ h,S h→OpVal P n env o h v
theorem WH.take {ops:Array Oper} {S:Heap→Prop} {fuel:Nat} {listed:Array Bool} {K:Env→Heap→Prop} (i:Nat) {o:Oper} {d:Nat} {v:Value} (hi:ops[i]? = some o) (hv:OpValS P n env o S v) (hS:S h)
  (hg:gd ops env o=some true) (hd:o.dst=some d) (hn:Nat.blt d n=true) (hs:Region.noSelect ops=true) (hf:Region.free .any ops listed i=true) (hr:(Region.ready .any ops listed).contains i=true)
  (hk:WH P n ops S fuel (listed.setIfInBounds i true) K ((d,v)::env) h):WH P n ops S (fuel+1) listed K env h:=fun w₀ w a hs₀ hw ha=>by
 refine wpAnyH_take (oi:=o) (v:=v) hi hs hf hr ?_ (.inl ⟨wanted_of_gd ha hg,fun w' hS'=>hv w'.heap hS' w' a rfl ha⟩) (hw ▸ hS) ?_
 ·intro c a w h;exact absurd h.1 (by simp)
 ·rw [hd]
  exact hk w₀ w _ hs₀ hw (ha.put hn v)
theorem WH.take_pass {ops:Array Oper} {S:Heap→Prop} {fuel:Nat} {listed:Array Bool} {K:Env→Heap→Prop} (i:Nat) {o:Oper} {d:Nat} (hi:ops[i]? = some o) (hS:S h)
  (hg:gd ops env o=some false) (hd:o.dst=some d) (hn:Nat.blt d n=true) (hs:Region.noSelect ops=true) (hf:Region.free .any ops listed i=true) (hr:(Region.ready .any ops listed).contains i=true)
  (hk:WH P n ops S fuel (listed.setIfInBounds i true) K ((d,undef)::env) h):WH P n ops S (fuel+1) listed K env h:=fun w₀ w a hs₀ hw ha=>by
 refine wpAnyH_take (oi:=o) (v:=undef) hi hs hf hr ?_ (.inr ⟨wanted_of_gd ha hg,rfl⟩) (hw ▸ hS) ?_
 ·intro c a w h;exact absurd h.1 (by simp)
 ·rw [hd]
  exact hk w₀ w _ hs₀ hw (ha.put hn undef)
def WI (P:Program) (n:Nat) (ops:Array Oper) (S:Heap→Prop) (fuel:Nat) (listed:Array Bool) (K:Env→Heap→Prop) (env:Env) (h:Heap) (i:Nat):Prop :=
 ∀ (w₀ w:World) (a:Act),Same w₀ w→w.heap=h→Sat n env a →
  wpOp P ops (fun e a' w'=>e = .normal∧Same w₀ w'∧∃ env',Sat n env' a'∧K env' w'.heap) i
   (fun a' w'=>S w'.heap∧wpAnyH P .any ops (fun e a' w'=>e = .normal∧Same w₀ w'∧∃ env',Sat n env' a'∧K env' w'.heap) (fun w=>S w.heap) fuel (listed.setIfInBounds i true) a' w') a w
theorem WH.all {ops:Array Oper} {S:Heap→Prop} {fuel:Nat} {listed:Array Bool} {K:Env→Heap→Prop} {rs:List Nat} (hr:Region.ready .any ops listed=rs) (hne:rs≠[])
  (hk:∀ i∈rs,WI P n ops S fuel listed K env h i):WH P n ops S (fuel+1) listed K env h:=fun w₀ w a hs₀ hw ha =>
 wpAnyH_all hr hne fun i hi=>hk i hi w₀ w a hs₀ hw ha
theorem WH.done {ops:Array Oper} {S:Heap→Prop} {fuel:Nat} {listed:Array Bool} {K:Env→Heap→Prop} (hr:Region.ready .any ops listed=[]) (hk:K env h):WH P n ops S fuel listed K env h :=
 fun _ _ _ hs₀ hw ha=>wpAnyH_done hr ⟨rfl,hs₀,env,ha,hw ▸ hk⟩ fuel
theorem WI.ex {ops:Array Oper} {S:Heap→Prop} {fuel:Nat} {listed:Array Bool} {K:Env→Heap→Prop} {i:Nat} {o:Oper} {d:Nat} (hi:ops[i]? = some o) (hg:gd ops env o=some true) (hd:o.dst=some d) (hn:Nat.blt d n=true)
  (hv:OpEx P n env o h fun v h'=>S h'∧WH P n ops S fuel (listed.setIfInBounds i true) K ((d,v)::env) h'):WI P n ops S fuel listed K env h i:=fun w₀ w a hs₀ hw ha=>by
 unfold wpOp
 simp only [hi,wanted_of_gd ha hg,if_true]
 left
 obtain ⟨v,w',hr,hs',hS,hK⟩:=hv w a hw ha
 simp only [Oper.wp,hr,Oper.upon,hd]
 exact ⟨hS,hK w₀ w' _ (hs₀.trans hs') rfl (ha.put hn v)⟩
theorem WI.call {ops:Array Oper} {S:Heap→Prop} {fuel:Nat} {listed:Array Bool} {K:Env→Heap→Prop} {i:Nat} {o:Oper} {d:Nat} {g:FuncId} {xs:List Operand} {ats:Array TypeId} {vs:List Value} {post:Value→Heap→Prop} (hi:ops[i]? = some o)
  (ho:o.op = .call { callee:=.value (.func g),args:=xs.toArray,argTypes:=ats }) (hg:gd ops env o=some true) (hd:o.dst=some d) (hn:Nat.blt d n=true) (hp:Plain P g)
  (hv:evs env xs=some vs) (hr:Ret P g vs.toArray h post) (hk:∀ v h',post v h'→S h'∧WH P n ops S fuel (listed.setIfInBounds i true) K ((d,v)::env) h'):WI P n ops S fuel listed K env h i:=fun w₀ w a hs₀ hw ha=>by
 unfold wpOp
 simp only [hi,wanted_of_gd ha hg,if_true]
 left
 simp only [Oper.wp,run_call ho hp hv ha,Oper.upon]
 refine (hr w hw).mono fun e w' ⟨v,he,hs',hq⟩=>?_
 subst he
 simp only [hd]
 obtain ⟨hS,hK⟩:=hk v w'.heap hq
 exact ⟨hS,hK w₀ w' _ (hs₀.trans hs') rfl (ha.put hn v)⟩
theorem WI.skip {ops:Array Oper} {S:Heap→Prop} {fuel:Nat} {listed:Array Bool} {K:Env→Heap→Prop} {i:Nat} {o:Oper} {h':Heap} (hi:ops[i]? = some o) (hg:gd ops env o=some true) (hd:o.dst=none)
  (hv:∀ (w:World) (a:Act),w.heap=h→Sat n env a→∃ w',(execOp a.eval o).run P w = .ok .skip w'∧Same w w'∧w'.heap=h')
  (hS:S h') (hk:WH P n ops S fuel (listed.setIfInBounds i true) K env h'):WI P n ops S fuel listed K env h i:=fun w₀ w a hs₀ hw ha=>by
 unfold wpOp
 simp only [hi,wanted_of_gd ha hg,if_true]
 left
 obtain ⟨w',hr,hs',hh⟩:=hv w a hw ha
 simp only [Oper.wp,hr,Oper.upon,hd]
 exact ⟨hh ▸ hS,hk w₀ w' _ (hs₀.trans hs') hh ha⟩
end
end Go.Pat
namespace Go.Pat
open Go
section
variable {P:Program} {ops:Array Oper} {Q:Exit→Act→World→Prop} {S:World→Prop} {F:Nat→Bool}
def anyF (P:Program) (ops:Array Oper) (Q:Exit→Act→World→Prop) (S:World→Prop) (F:Nat→Bool):Nat→Array Bool→Act→World→Prop
 | 0,listed,a,w=>Region.ready .any ops listed=[]∧Q .normal a w
 | fuel+1,listed,a,w =>
  (Region.ready .any ops listed=[]→Q .normal a w) ∧
  ∀ i∈Region.ready .any ops listed,wpOp P ops Q i (fun a' w'=>(F i=true∨S w')∧anyF P ops Q S F fuel (listed.setIfInBounds i true) a' w') a w
theorem any_of_anyF:∀ (fuel:Nat) (listed:Array Bool) (a:Act) (w:World),anyF P ops Q S F fuel listed a w→wpAny P .any ops Q fuel listed a w
 | 0,_,_,_,h=>h
 | fuel+1,_,_,_,h=>⟨h.1,fun i hi=>wpOp_mono (fun a' w' h'=>any_of_anyF fuel _ a' w' h'.2) (h.2 i hi)⟩
theorem anyF_first {i:Nat} {oi:Oper} {v:Value} (hi:ops[i]? = some oi) (hsel:∀ (j:Nat) (o:Oper) cs b,ops[j]? = some o→o.op ≠ .select cs b)
  (hQ:∀ c a w,Q (.panic c) (a.put oi.dst v) w→Q (.panic c) a w) (hF:∀ j oj,ops[j]? = some oj→F j=true→∃ e∈oj.after,Region.binds .any e=true∧e.on=i) :
  ∀ (fuel:Nat) (listed:Array Bool) (a:Act) (w:World),
   (∀ j oj,ops[j]? = some oj→j≠i→listed.getD j true=false→(∀ e∈oj.after,Region.binds .any e=true→e.on≠i)→oi.apart ops oj=true) →
   i∈Region.ready .any ops listed→YieldsIf P ops S oi v a→S w →
   anyF P ops Q S F fuel (listed.setIfInBounds i true) (a.put oi.dst v) w→anyF P ops Q S F (fuel+1) listed a w:=by
 intro fuel
 induction fuel with
 | zero =>
  intro listed a w _ hr hy hS H
  refine ⟨fun h=>(by rw [h] at hr;cases hr),fun j hj=>?_⟩
  by_cases hji:j=i
  ·subst hji;exact hy.wpOp hi hS ⟨.inr hS,H⟩
  ·have:=ready_mono hj hji
   rw [H.1] at this
   cases this
 | succ fuel ih =>
  intro listed a w hfree hr hy hS H
  refine ⟨fun h=>(by rw [h] at hr;cases hr),fun j hj=>?_⟩
  by_cases hji:j=i
  ·subst hji;exact hy.wpOp hi hS ⟨.inr hS,H⟩
  ·have h1:=H.2 j (ready_mono hj hji)
   obtain ⟨hjun,oj,hoj,hall⟩:=mem_ready.1 hj
   have hnot:∀ e∈oj.after,Region.binds .any e=true→e.on≠i:=fun e he hb heq=>by
    have h1:=hall e he hb
    have h0:=(mem_ready.1 hr).1
    rw [heq] at h1
    rcases Nat.lt_or_ge i listed.size with h' | h'
    ·simp [h'] at h0 h1;rw [h0] at h1;cases h1
    ·simp [Array.getElem?_eq_none h'] at h1
   have hFj:F j=false:=by
    cases hf:F j
    ·rfl
    ·obtain ⟨e,he,hb,ho⟩:=hF j oj hoj hf
     exact absurd ho (hnot e he hb)
   have h2:=wpOp_putIf hoj (hfree j oj hoj hji hjun hnot) (fun cs b=>hsel i oi cs b hi) (fun cs b=>hsel j oj cs b hoj) hQ hy h1
   have hfree':∀ k ok,ops[k]? = some ok→k≠i→(listed.setIfInBounds j true).getD k true=false →
     (∀ e∈ok.after,Region.binds .any e=true→e.on≠i)→oi.apart ops ok=true:=fun k ok hk hki hun hno=>by
    refine hfree k ok hk hki ?_ hno
    by_cases hjk:j=k
    ·subst hjk;exact hjun
    ·rw [getD_set_ne true hjk] at hun;exact hun
   refine wpOp_mono (fun a' w' h3=>?_) h2
   obtain ⟨h31,h32,h33⟩:=h3
   rcases h32 with h32 | h32
   ·rw [hFj] at h32;cases h32
   ·refine ⟨.inr h32,ih (listed.setIfInBounds j true) a' w' hfree' (ready_mono hr (Ne.symm hji)) h31 h32 ?_⟩
    rw [Array.setIfInBounds_comm _ _ hji]
    exact h33
def waitsB (ops:Array Oper) (F:Nat→Bool) (i:Nat):Bool :=
 (List.range ops.size).all fun j=>!F j||match ops[j]? with
  | some oj=>oj.after.any fun e=>Region.binds .any e&&Nat.beq e.on i
  | none=>true
theorem waits_spec {i:Nat} (h:waitsB ops F i=true):∀ j oj,ops[j]? = some oj→F j=true→∃ e∈oj.after,Region.binds .any e=true∧e.on=i:=by
 intro j oj hj hf
 have hlt:j<ops.size:=(Array.getElem?_eq_some_iff.1 hj).1
 have:=List.all_eq_true.1 h j (List.mem_range.2 hlt)
 rw [hf] at this
 simp only [Bool.not_true,Bool.false_or] at this
 rw [hj] at this
 simp only [Array.any_eq_true] at this
 obtain ⟨k,hk,hb⟩:=this
 simp only [Bool.and_eq_true] at hb
 exact ⟨oj.after[k],Array.getElem_mem hk,hb.1,Nat.eq_of_beq_eq_true hb.2⟩
variable {f:FuncId} {n:Nat} {post:Value→Heap→Prop} {k:List Item} {env:Env} {h:Heap} {SH:Heap→Prop}
def WF (P:Program) (n:Nat) (ops:Array Oper) (S:Heap→Prop) (F:Nat→Bool) (fuel:Nat) (listed:Array Bool) (K:Env→Heap→Prop) (env:Env) (h:Heap):Prop :=
 ∀ (w₀ w:World) (a:Act),Same w₀ w→w.heap=h→Sat n env a →
  anyF P ops (fun e a' w'=>e = .normal∧Same w₀ w'∧∃ env',Sat n env' a'∧K env' w'.heap) (fun w=>S w.heap) F fuel listed a w
theorem Runs.drawn {id:Nat} {l:List Oper} {m:Nat} (S:Heap→Prop) (F:Nat→Bool) (hm:P.follows .mixedOrders=true) (hl:Nat.beq l.length m=true)
  (hr:WF P n l.toArray S F m (Array.replicate m false) (fun env h=>Runs P f n post k env h) env h):Runs P f n post (.code (.region id l.toArray true)::k) env h:=by
 have hl':=Nat.eq_of_beq_eq_true hl
 exact Runs.of_wp (K:=fun env h=>Runs P f n post k env h) (fun w a hw ha=>wp_region_any hm (any_of_anyF _ _ _ _ (by
  have:=hr w { w with drawn:=w.drawn+1 } a ⟨rfl,rfl,rfl⟩ hw ha
  simpa [hl'] using this))) (fun _ _ h=>h)
theorem WF.take {fuel:Nat} {listed:Array Bool} {K:Env→Heap→Prop} (i:Nat) {o:Oper} {d:Nat} {v:Value} (hi:ops[i]? = some o) (hv:∀ h',SH h'→OpVal P n env o h' v) (hS:SH h)
  (hg:gd ops env o=some true) (hd:o.dst=some d) (hn:Nat.blt d n=true) (hc:(Region.noSelect ops&&Region.free .any ops listed i&&(Region.ready .any ops listed).contains i&&waitsB ops F i)=true)
  (hk:WF P n ops SH F fuel (listed.setIfInBounds i true) K ((d,v)::env) h):WF P n ops SH F (fuel+1) listed K env h:=fun w₀ w a hs₀ hw ha=>by
 simp only [Bool.and_eq_true] at hc
 obtain ⟨⟨⟨hs,hf⟩,hr⟩,hw8⟩:=hc
 refine anyF_first (v:=v) hi (Region.noSelect_spec hs) ?_ (waits_spec hw8) fuel listed a w (Region.free_spec hi hf) (by simpa using hr) (.inl ⟨wanted_of_gd ha hg,fun w' hS'=>hv w'.heap hS' w' a rfl ha⟩) (by show SH w.heap;rw [hw];exact hS) ?_
 ·intro c a w h;exact absurd h.1 (by simp)
 ·rw [hd]
  exact hk w₀ w _ hs₀ hw (ha.put hn v)
theorem WF.take_pass {fuel:Nat} {listed:Array Bool} {K:Env→Heap→Prop} (i:Nat) {o:Oper} {d:Nat} (hi:ops[i]? = some o) (hS:SH h)
  (hg:gd ops env o=some false) (hd:o.dst=some d) (hn:Nat.blt d n=true) (hc:(Region.noSelect ops&&Region.free .any ops listed i&&(Region.ready .any ops listed).contains i&&waitsB ops F i)=true)
  (hk:WF P n ops SH F fuel (listed.setIfInBounds i true) K ((d,undef)::env) h):WF P n ops SH F (fuel+1) listed K env h:=fun w₀ w a hs₀ hw ha=>by
 simp only [Bool.and_eq_true] at hc
 obtain ⟨⟨⟨hs,hf⟩,hr⟩,hw8⟩:=hc
 refine anyF_first (v:=undef) hi (Region.noSelect_spec hs) ?_ (waits_spec hw8) fuel listed a w (Region.free_spec hi hf) (by simpa using hr) (.inr ⟨wanted_of_gd ha hg,rfl⟩) (by show SH w.heap;rw [hw];exact hS) ?_
 ·intro c a w h;exact absurd h.1 (by simp)
 ·rw [hd]
  exact hk w₀ w _ hs₀ hw (ha.put hn undef)
theorem WF.ex {fuel:Nat} {listed:Array Bool} {K:Env→Heap→Prop} (i:Nat) {o:Oper} {d:Nat} (hr:Region.ready .any ops listed=[i]) (hi:ops[i]? = some o) (hg:gd ops env o=some true) (hd:o.dst=some d) (hn:Nat.blt d n=true)
  (hv:OpEx P n env o h fun v h'=>(F i=true∨SH h')∧WF P n ops SH F fuel (listed.setIfInBounds i true) K ((d,v)::env) h'):WF P n ops SH F (fuel+1) listed K env h:=fun w₀ w a hs₀ hw ha=>by
 refine ⟨fun e=>(by rw [hr] at e;cases e),fun j hj=>?_⟩
 rw [hr] at hj
 simp at hj
 subst hj
 unfold wpOp
 simp only [hi,wanted_of_gd ha hg,if_true]
 left
 obtain ⟨v,w',hr',hs',hS,hK⟩:=hv w a hw ha
 simp only [Oper.wp,hr',Oper.upon,hd]
 exact ⟨hS,hK w₀ w' _ (hs₀.trans hs') rfl (ha.put hn v)⟩
theorem WF.call {fuel:Nat} {listed:Array Bool} {K:Env→Heap→Prop} (i:Nat) {o:Oper} {d:Nat} {g:FuncId} {xs:List Operand} {ats:Array TypeId} {vs:List Value} {post:Value→Heap→Prop} (hr:Region.ready .any ops listed=[i]) (hi:ops[i]? = some o)
  (ho:o.op = .call { callee:=.value (.func g),args:=xs.toArray,argTypes:=ats }) (hg:gd ops env o=some true) (hd:o.dst=some d) (hn:Nat.blt d n=true) (hp:Plain P g)
  (hv:evs env xs=some vs) (hc:Ret P g vs.toArray h post) (hk:∀ v h',post v h'→(F i=true∨SH h')∧WF P n ops SH F fuel (listed.setIfInBounds i true) K ((d,v)::env) h'):WF P n ops SH F (fuel+1) listed K env h:=fun w₀ w a hs₀ hw ha=>by
 refine ⟨fun e=>(by rw [hr] at e;cases e),fun j hj=>?_⟩
 rw [hr] at hj
 simp at hj
 subst hj
 unfold wpOp
 simp only [hi,wanted_of_gd ha hg,if_true]
 left
 simp only [Oper.wp,run_call ho hp hv ha,Oper.upon]
 refine (hc w hw).mono fun e w' ⟨v,he,hs',hq⟩=>?_
 subst he
 simp only [hd]
 obtain ⟨hS,hK⟩:=hk v w'.heap hq
 exact ⟨hS,hK w₀ w' _ (hs₀.trans hs') rfl (ha.put hn v)⟩
theorem WF.skip {fuel:Nat} {listed:Array Bool} {K:Env→Heap→Prop} (i:Nat) {o:Oper} {h':Heap} (hr:Region.ready .any ops listed=[i]) (hi:ops[i]? = some o) (hg:gd ops env o=some true) (hd:o.dst=none)
  (hv:∀ (w:World) (a:Act),w.heap=h→Sat n env a→∃ w',(execOp a.eval o).run P w = .ok .skip w'∧Same w w'∧w'.heap=h')
  (hS:F i=true∨SH h') (hk:WF P n ops SH F fuel (listed.setIfInBounds i true) K env h'):WF P n ops SH F (fuel+1) listed K env h:=fun w₀ w a hs₀ hw ha=>by
 refine ⟨fun e=>(by rw [hr] at e;cases e),fun j hj=>?_⟩
 rw [hr] at hj
 simp at hj
 subst hj
 unfold wpOp
 simp only [hi,wanted_of_gd ha hg,if_true]
 left
 obtain ⟨w',hr',hs',hh⟩:=hv w a hw ha
 simp only [Oper.wp,hr',Oper.upon,hd]
 exact ⟨hS.imp id (fun e=>by show SH w'.heap;rw [hh];exact e),hk w₀ w' _ (hs₀.trans hs') hh ha⟩
theorem WF.done {fuel:Nat} {listed:Array Bool} {K:Env→Heap→Prop} (hr:Region.ready .any ops listed=[]) (hk:K env h):WF P n ops SH F fuel listed K env h:=fun w₀ w a hs₀ hw ha=>by
 have hq:(fun e a' w'=>e=Exit.normal∧Same w₀ w'∧∃ env',Sat n env' a'∧K env' w'.heap) .normal a w:=⟨rfl,hs₀,env,ha,hw ▸ hk⟩
 cases fuel with
 | zero=>exact ⟨hr,hq⟩
 | succ fuel=>exact ⟨fun _=>hq,by rw [hr];simp⟩
end
end Go.Pat
