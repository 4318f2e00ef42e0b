import Derived.Tactics
import Derived.Orders
import Derived.OrdersHeld
import Derived.Still
import Derived.StillTail
import Derived.KernelRfl
namespace Go.Pat
open Go
abbrev Heap:=Array Obj
abbrev Env:=List (Nat × Value)
def Env.get? : Env→Nat→Option Value
 | [],_=>none
 | (i,v)::r,t=>cond (Nat.beq i t) (some v) (Env.get? r t)
def Env.ev? (env:Env):Operand→Option Value
 | .tmp t=>env.get? t
 | .const v=>some v
 | .global g=>some (.pointer (some ⟨g,0,none⟩))
 | .func f=>some (.func (.func f) #[] #[])
def Sub:Env→Env→Prop
 | [],_=>True
 | (t,v)::r,env=>env.get? t=some v∧Sub r env
structure Sat (n:Nat) (env:Env) (a:Act):Prop where
 size:a.tmps.size=n
 defers:a.defers=[]
 known:∀ t v,env.get? t=some v→a.tmps[t]? = some v
theorem Env.get?_cons (i:Nat) (v:Value) (r:Env) (t:Nat):Env.get? ((i,v)::r) t=if i=t then some v else Env.get? r t:=by
 simp only [Env.get?]
 by_cases h:i=t
 ·subst h;simp
 ·simp [h]
  cases hb:Nat.beq i t
  ·simp
  ·exact absurd (Nat.eq_of_beq_eq_true hb) h
theorem Sat.ev {n:Nat} {env:Env} {a:Act} (h:Sat n env a) {x:Operand} {v:Value} (hx:env.ev? x=some v):a.eval x=v:=by
 cases x with
 | tmp t=>simp only [Env.ev?] at hx;have:=h.known t v hx;simp [Act.eval,Array.getD_eq_getD_getElem?,this]
 | const c=>simpa [Env.ev?,Act.eval] using hx
 | global g=>simpa [Env.ev?,Act.eval] using hx
 | func f=>simpa [Env.ev?,Act.eval] using hx
theorem Sat.put {n:Nat} {env:Env} {a:Act} (h:Sat n env a) {d:Nat} (hd:Nat.blt d n=true) (v:Value):Sat n ((d,v)::env) (a.put (some d) v):=by
 have hd':d<n:=by simpa [Nat.blt_eq] using hd
 refine ⟨by simp [Act.put,h.size],by simp [Act.put,h.defers],fun t u hu=>?_⟩
 rw [Env.get?_cons] at hu
 simp only [Act.put]
 by_cases e:d=t
 ·subst e
  simp at hu
  subst hu
  simp [h.size,hd']
 ·rw [if_neg e] at hu
  rw [Array.getElem?_setIfInBounds_ne e]
  exact h.known t u hu
theorem Sat.put_none {n:Nat} {env:Env} {a:Act} (h:Sat n env a) (v:Value):Sat n env (a.put none v):=h
theorem Sub.get {e env:Env} (h:Sub e env):∀ t v,e.get? t=some v→env.get? t=some v:=by
 induction e with
 | nil=>intro t v ht;simp [Env.get?] at ht
 | cons p r ih =>
  obtain ⟨i,u⟩:=p
  intro t v ht
  rw [Env.get?_cons] at ht
  by_cases e:i=t
  ·rw [if_pos e] at ht
   cases ht
   subst e
   exact h.1
  ·rw [if_neg e] at ht
   exact ih h.2 t v ht
theorem Sat.sub {n:Nat} {e env:Env} {a:Act} (h:Sat n env a) (hs:Sub e env):Sat n e a :=
 ⟨h.size,h.defers,fun t v ht=>h.known t v (hs.get t v ht)⟩
structure Same (w w':World):Prop where
 os:w'.os=w.os
 tape:w'.tape=w.tape
 output:w'.output=w.output
theorem Same.refl (w:World):Same w w:=⟨rfl,rfl,rfl⟩
theorem Same.trans {a b c:World} (h:Same a b) (k:Same b c):Same a c:=⟨k.os.trans h.os,k.tape.trans h.tape,k.output.trans h.output⟩
def Ret (P:Program) (f:FuncId) (args:Array Value) (h:Heap) (post:Value→Heap→Prop):Prop :=
 ∀ w:World,w.heap=h→Calls P f args w fun e w'=>∃ v,e = .returned v∧Same w w'∧post v w'.heap
theorem Ret.mono {P:Program} {f:FuncId} {args:Array Value} {h:Heap} {post post':Value→Heap→Prop} (hr:Ret P f args h post)
  (hp:∀ v h',post v h'→post' v h'):Ret P f args h post' :=
 fun w hw=>(hr w hw).mono fun _ _ ⟨v,he,hs,hq⟩=>⟨v,he,hs,hp _ _ hq⟩
def Runs (P:Program) (f:FuncId) (n:Nat) (post:Value→Heap→Prop) (todo:List Item) (env:Env) (h:Heap):Prop :=
 ∀ (w:World) (a:Act) (b:Frame) (cs:List Frame),w.heap=h→Sat n env a→b.fn=f→b.kind = .normal →
  ∃ v w' fr,Same w w'∧post v w'.heap∧Steps P (lone (b.at a todo) cs w) (lone fr cs w')∧fr.fn=f∧fr.leaving P w' (.returned v)
section
variable {P:Program} {f:FuncId} {n:Nat} {post:Value→Heap→Prop} {k:List Item} {env:Env} {h:Heap}
theorem Runs.step {todo todo':List Item} (hs:∀ (b:Frame) (a:Act) (cs:List Frame) (w:World),Sat n env a→step P (lone (b.at a todo) cs w) = .next (lone (b.at a todo') cs w))
  (hr:Runs P f n post todo' env h):Runs P f n post todo env h:=fun w a b cs hw ha hf hk =>
 let ⟨v,w',fr,h1,h2,h3,h4,h5⟩:=hr w a b cs hw ha hf hk
 ⟨v,w',fr,h1,h2,.head (hs b a cs w ha) h3,h4,h5⟩
theorem Runs.skip (hr:Runs P f n post k env h):Runs P f n post (.code .skip::k) env h:=hr.step fun _ _ _ _ _=>step_skip
theorem Runs.seq {x y:Code} (hr:Runs P f n post (.code x :: .code y::k) env h):Runs P f n post (.code (.seq x y)::k) env h:=hr.step fun _ _ _ _ _=>step_seq
theorem Runs.block {id:Nat} {c:Code} (hr:Runs P f n post (.code c :: .inBlock id::k) env h):Runs P f n post (.code (.block id c)::k) env h:=hr.step fun _ _ _ _ _=>step_block
theorem Runs.inBlock {id:Nat} (hr:Runs P f n post k env h):Runs P f n post (.inBlock id::k) env h:=hr.step fun _ _ _ _ _=>step_inBlock
theorem Runs.exit {id:Nat} {k':List Item} (hk:exitTo id k=some k') (hr:Runs P f n post k' env h):Runs P f n post (.code (.exit id)::k) env h:=hr.step fun _ _ _ _ _=>step_exit hk
theorem Runs.inLoop {c:Code} (hr:Runs P f n post (.code c :: .inLoop c::k) env h):Runs P f n post (.inLoop c::k) env h:=hr.step fun _ _ _ _ _=>step_inLoop
theorem Runs.loop1 {c:Code} (hr:Runs P f n post (.code c :: .inLoop c::k) env h):Runs P f n post (.code (.loop c)::k) env h:=hr.step fun _ _ _ _ _=>step_loop
theorem Runs.sub {e:Env} {todo:List Item} (hs:Sub e env) (hr:Runs P f n post todo e h):Runs P f n post todo env h:=fun w a b cs hw ha hf hk=>hr w a b cs hw (ha.sub hs) hf hk
theorem Runs.cond_true {c:Operand} {x y:Code} (hc:env.ev? c=some (.bool true)) (hr:Runs P f n post (.code x::k) env h):Runs P f n post (.code (.cond c x y)::k) env h :=
 hr.step fun _ _ _ _ ha=>step_cond (t:=true) (ha.ev hc)
theorem Runs.cond_false {c:Operand} {x y:Code} (hc:env.ev? c=some (.bool false)) (hr:Runs P f n post (.code y::k) env h):Runs P f n post (.code (.cond c x y)::k) env h :=
 hr.step fun _ _ _ _ ha=>step_cond (t:=false) (ha.ev hc)
theorem Runs.cond {c:Operand} {x y:Code} {b:Bool} (hc:env.ev? c=some (.bool b)) (ht:b=true→Runs P f n post (.code x::k) env h) (hf:b=false→Runs P f n post (.code y::k) env h) :
  Runs P f n post (.code (.cond c x y)::k) env h:=by
 cases b
 ·exact .cond_false hc (hf rfl)
 ·exact .cond_true hc (ht rfl)
theorem Runs.cond_dec {c:Operand} {x y:Code} {p:Prop} [Decidable p] (hc:env.ev? c=some (.bool (decide p))) (ht:p→Runs P f n post (.code x::k) env h) (hf:¬ p→Runs P f n post (.code y::k) env h) :
  Runs P f n post (.code (.cond c x y)::k) env h :=
 .cond hc (fun e=>ht (of_decide_eq_true e)) (fun e=>hf (of_decide_eq_false e))
theorem Runs.cond_ndec {c:Operand} {x y:Code} {p:Prop} [Decidable p] (hc:env.ev? c=some (.bool (!decide p))) (ht:¬ p→Runs P f n post (.code x::k) env h) (hf:p→Runs P f n post (.code y::k) env h) :
  Runs P f n post (.code (.cond c x y)::k) env h :=
 .cond hc (fun e=>ht (of_decide_eq_false (by simpa using e))) (fun e=>hf (of_decide_eq_true (by simpa using e)))
theorem Runs.loop {c:Code} {X:Type} (E:X→Env) (J:X→Heap→Prop) (μ:X→Nat) (x:X) (hE:Sub (E x) env) (hJ:J x h)
  (hround:∀ x h,J x h→(∀ x' env' h',μ x'<μ x→Sub (E x') env'→J x' h'→Runs P f n post (.inLoop c::k) env' h')→Runs P f n post (.code c :: .inLoop c::k) (E x) h) :
  Runs P f n post (.code (.loop c)::k) env h:=by
 refine Runs.sub hE (Runs.loop1 ?_)
 clear hE
 generalize hm:μ x=m
 induction m using Nat.strongRecOn generalizing x h with
 | _ m ih =>
  subst hm
  refine hround x h hJ fun x' env' h' hlt hE' hJ'=>?_
  exact Runs.sub hE' (Runs.inLoop (ih (μ x') hlt x' hJ' rfl))
theorem Runs.ret {fn:Func} {v:Value} (hf':P.funcs[f]? = some fn) (hv:∀ (a:Act) (w:World),Sat n env a→w.heap=h→(results fn a.tmps).run P w = .ok v w) (hp:post v h) :
  Runs P f n post (.code .ret::k) env h:=fun w a b cs hw ha hf hk =>
 ⟨v,w,_,Same.refl w,hw ▸ hp,.one step_ret,hf,rfl,ha.defers,hk,fn,by rw [← hf'] ;exact congrArg (P.funcs[·]?) hf,hv a w ha hw⟩
theorem Runs.fall {fn:Func} {v:Value} (hf':P.funcs[f]? = some fn) (hv:∀ (a:Act) (w:World),Sat n env a→w.heap=h→(results fn a.tmps).run P w = .ok v w) (hp:post v h) :
  Runs P f n post [] env h:=fun w a b cs hw ha hf hk =>
 ⟨v,w,_,Same.refl w,hw ▸ hp,.one step_end,hf,rfl,ha.defers,hk,fn,by rw [← hf'] ;exact congrArg (P.funcs[·]?) hf,hv a w ha hw⟩
def WO (P:Program) (n:Nat) (ops:Array Oper) (l:List Oper) (K:Env→Heap→Prop) (env:Env) (h:Heap):Prop :=
 ∀ (w₀ w:World) (a:Act),Same w₀ w→w.heap=h→Sat n env a →
  wpList P ops (fun e a' w'=>e = .normal∧Same w₀ w'∧∃ env',Sat n env' a'∧K env' w'.heap) l a w
theorem Runs.of_wp {c:Code} {K:Env→Heap→Prop}
  (hc:∀ (w:World) (a:Act),w.heap=h→Sat n env a→c.wp P (fun e a' w'=>e = .normal∧Same w w'∧∃ env',Sat n env' a'∧K env' w'.heap) a w)
  (hK:∀ env' h',K env' h'→Runs P f n post k env' h'):Runs P f n post (.code c::k) env h:=fun w a b cs hw ha hf hk=>by
 obtain ⟨e,a',w',⟨he,hs,env',ha',hq⟩,harr⟩:=hc w a hw ha b k cs
 subst he
 obtain ⟨v,w'',fr,h1,h2,h3,h4,h5⟩:=hK env' w'.heap hq w' a' b cs rfl ha' hf hk
 exact ⟨v,w'',fr,hs.trans h1,h2,Steps.trans harr h3,h4,h5⟩
theorem Runs.region {id:Nat} {l:List Oper} (hr:WO P n l.toArray l (fun env h=>Runs P f n post k env h) env h) :
  Runs P f n post (.code (.region id l.toArray false)::k) env h :=
 Runs.of_wp (K:=fun env h=>Runs P f n post k env h) (fun w a hw ha=>wp_region_lit (hr w w a (Same.refl w) hw ha)) (fun _ _ h=>h)
theorem WO.nil {ops:Array Oper} {K:Env→Heap→Prop} (hk:K env h):WO P n ops [] K env h:=fun _ _ _ hs hw ha=>⟨rfl,hs,env,ha,hw ▸ hk⟩
def gd (ops:Array Oper) (env:Env) (o:Oper):Option Bool :=
 match o.guard with
 | none=>some true
 | some (j,want) =>
  match (ops[j]?).bind (·.dst) with
  | none=>none
  | some d=>match env.get? d with
   | some (.bool b)=>some (b == want)
   | some _=>some false
   | none=>none
theorem wanted_of_gd {ops:Array Oper} {o:Oper} {a:Act} {b:Bool} (ha:Sat n env a) (hg:gd ops env o=some b):Region.wanted o (yielded ops a.tmps)=b:=by
 unfold gd at hg
 unfold Region.wanted
 cases ho:o.guard with
 | none=>simp [ho] at hg;simp [hg]
 | some q =>
  obtain ⟨j,want⟩:=q
  simp only [ho] at hg
  cases hd:(ops[j]?).bind (·.dst) with
  | none=>simp [hd] at hg
  | some d =>
   simp only [hd] at hg
   cases hv:env.get? d with
   | none=>simp [hv] at hg
   | some v =>
    have hk:=ha.known d v hv
    simp only [yielded,hd,Option.bind_some,hk]
    cases v<;>simp [hv] at hg ⊢<;>exact hg
def OpEx (P:Program) (n:Nat) (env:Env) (o:Oper) (h:Heap) (K:Value→Heap→Prop):Prop :=
 ∀ (w:World) (a:Act),w.heap=h→Sat n env a→∃ v w',(execOp a.eval o).run P w = .ok (.value v) w'∧Same w w'∧K v w'.heap
def OpVal (P:Program) (n:Nat) (env:Env) (o:Oper) (h:Heap) (v:Value):Prop :=
 ∀ (w:World) (a:Act),w.heap=h→Sat n env a→(execOp a.eval o).run P w = .ok (.value v) w
theorem OpVal.ex {o:Oper} {v:Value} {K:Value→Heap→Prop} (hv:OpVal P n env o h v) (hk:K v h):OpEx P n env o h K:=fun w a hw ha=>⟨v,w,hv w a hw ha,Same.refl w,hw ▸ hk⟩
theorem WO.ex {ops:Array Oper} {l:List Oper} {K:Env→Heap→Prop} {o:Oper} {d:Nat} (hg:gd ops env o=some true) (hd:o.dst=some d) (hn:Nat.blt d n=true)
  (hv:OpEx P n env o h fun v h'=>WO P n ops l K ((d,v)::env) h'):WO P n ops (o::l) K env h:=fun w₀ w a hs hw ha=>by
 simp only [wpList,wanted_of_gd ha hg,if_true]
 left
 obtain ⟨v,w',hr,hs',hK⟩:=hv w a hw ha
 simp only [Oper.wp,hr,Oper.upon,hd]
 exact hK w₀ w' _ (hs.trans hs') rfl (ha.put hn v)
theorem WO.val {ops:Array Oper} {l:List Oper} {K:Env→Heap→Prop} {o:Oper} {d:Nat} {v:Value} (hv:OpVal P n env o h v) (hg:gd ops env o=some true) (hd:o.dst=some d) (hn:Nat.blt d n=true)
  (hk:WO P n ops l K ((d,v)::env) h):WO P n ops (o::l) K env h:=WO.ex hg hd hn (hv.ex hk)
theorem WO.pass {ops:Array Oper} {l:List Oper} {K:Env→Heap→Prop} {o:Oper} {d:Nat} (hg:gd ops env o=some false) (hd:o.dst=some d) (hn:Nat.blt d n=true)
  (hk:WO P n ops l K ((d,undef)::env) h):WO P n ops (o::l) K env h:=fun w₀ w a hs hw ha=>by
 simp only [wpList,wanted_of_gd ha hg,hd]
 exact hk w₀ w _ hs hw (ha.put hn undef)
theorem WO.split {ops:Array Oper} {l:List Oper} {K:Env→Heap→Prop} (d:Nat) (b:Bool) (hd:env.get? d=some (.bool b))
  (ht:b=true→WO P n ops l K ((d,.bool true)::env) h) (hf:b=false→WO P n ops l K ((d,.bool false)::env) h):WO P n ops l K env h:=fun w₀ w a hs hw ha=>by
 have key:∀ c,b=c→Sat n ((d,.bool c)::env) a:=fun c hc=>⟨ha.size,ha.defers,fun t u hu=>by
  rw [Env.get?_cons] at hu
  by_cases e:d=t
  ·rw [if_pos e] at hu;cases hu;subst e;subst hc;exact ha.known _ _ hd
  ·rw [if_neg e] at hu;exact ha.known t u hu⟩
 cases b
 ·exact hf rfl w₀ w a hs hw (key _ rfl)
 ·exact ht rfl w₀ w a hs hw (key _ rfl)
theorem WO.skip {ops:Array Oper} {l:List Oper} {K:Env→Heap→Prop} {o:Oper} {h':Heap} (hg:gd ops env o=some true) (hd:o.dst=none)
  (hv:∀ (w:World) (a:Act),w.heap=h→Sat n env a→∃ w',(execOp a.eval o).run P w = .ok .skip w'∧Same w w'∧w'.heap=h')
  (hk:WO P n ops l K env h'):WO P n ops (o::l) K env h:=fun w₀ w a hs hw ha=>by
 simp only [wpList,wanted_of_gd ha hg,if_true]
 left
 obtain ⟨w',hr,hs',hh⟩:=hv w a hw ha
 simp only [Oper.wp,hr,Oper.upon,hd]
 exact hk w₀ w' _ (hs.trans hs') hh ha
def evs (env:Env):List Operand→Option (List Value)
 | []=>some []
 | x::r=>match env.ev? x with
  | none=>none
  | some v=>match evs env r with
   | none=>none
   | some vs=>some (v::vs)
theorem evs_spec {a:Act} (ha:Sat n env a):∀ {xs:List Operand} {vs:List Value},evs env xs=some vs→xs.map a.eval=vs:=by
 intro xs
 induction xs with
 | nil=>intro vs hv;simp [evs] at hv;simp [hv]
 | cons x r ih =>
  intro vs hv
  simp only [evs] at hv
  cases hx:env.ev? x with
  | none=>simp [hx] at hv
  | some v =>
   simp only [hx] at hv
   cases hr:evs env r with
   | none=>simp [hr] at hv
   | some us =>
    simp only [hr] at hv
    cases hv
    simp [ha.ev hx,ih hr]
def Plain (P:Program) (f:FuncId):Prop:=∃ fn,P.funcs[f]? = some fn∧(fn.name == "runtime.NumGoroutine")=false∧fn.body.isNone=false
theorem run_callFunc {g:FuncId} (hg:Plain P g) (args:Array Value) (w:World):(callFunc g args).run P w = .ok (.enter g args) w:=by
 obtain ⟨fn,h1,h2,h3⟩:=hg
 unfold callFunc
 simp only [Sem.run_bind,program,Sem.run,Result.andThen_ok,h1,h2,h3,Bool.false_eq_true,if_false]
 rfl
theorem run_call {o:Oper} {g:FuncId} {xs:List Operand} {ats:Array TypeId} {vs:List Value} (ho:o.op = .call { callee:=.value (.func g),args:=xs.toArray,argTypes:=ats })
  (hg:Plain P g) (hv:evs env xs=some vs) {a:Act} (ha:Sat n env a) (w:World):(execOp a.eval o).run P w = .ok (.enter g vs.toArray) w:=by
 have h4:=evs_spec ha hv
 have h5:=run_callFunc hg vs.toArray w
 simp only [execOp,ho,resolve,Act.eval,Deferred.ofValue,invoke,Sem.run_bind,Sem.run_pure,Result.andThen_ok,List.map_toArray,h4]
 simpa using h5
theorem WO.call {ops:Array Oper} {l:List Oper} {K:Env→Heap→Prop} {o:Oper} {d:Nat} {g:FuncId} {xs:List Operand} {ats:Array TypeId} {vs:List Value} {post:Value→Heap→Prop}
  (ho:o.op = .call { callee:=.value (.func g),args:=xs.toArray,argTypes:=ats }) (hg:gd ops env o=some true) (hd:o.dst=some d) (hn:Nat.blt d n=true) (hp:Plain P g)
  (hv:evs env xs=some vs) (hr:Ret P g vs.toArray h post) (hk:∀ v h',post v h'→WO P n ops l K ((d,v)::env) h'):WO P n ops (o::l) K env h:=fun w₀ w a hs hw ha=>by
 simp only [wpList,wanted_of_gd ha hg,if_true]
 left
 simp only [Oper.wp,run_call ho hp hv ha,Oper.upon]
 refine (hr w hw).mono fun e w' ⟨v,he,hs',hq⟩=>?_
 subst he
 simp only [hd]
 exact hk v w'.heap hq w₀ w' _ (hs.trans hs') rfl (ha.put hn v)
theorem Ret.of_runs {fn:Func} {c:Code} {args:Array Value} (hf:P.funcs[f]? = some fn) (hb:fn.body=some c) (hn:fn.ntmps=n) (hsz:args.size≤n)
  (hr:Runs P f n post [.code c] (args.toList.zipIdx.map fun p=>(p.2,p.1)) h):Ret P f args h post:=by
 intro w hw cs
 let b:Frame:={ (default:Frame) with fn:=f,kind:=.normal }
 have henter:Frame.enter P f args .normal =
   b.at { tmps:=args++Array.replicate (fn.ntmps-args.size) undef,defers:=[] } [.code c]:=by
  simp [Frame.enter,Frame.at,hf,hb,b]
 have hget:∀ (l:List Value) (k t:Nat) (v:Value),Env.get? ((l.zipIdx k).map fun p=>(p.2,p.1)) t=some v→k≤t∧l[t-k]? = some v:=by
  intro l
  induction l with
  | nil=>intro k t v h;simp [Env.get?] at h
  | cons x r ih =>
   intro k t v h
   simp only [List.zipIdx_cons,List.map_cons] at h
   rw [Env.get?_cons] at h
   by_cases e:k=t
   ·rw [if_pos e] at h;cases h;subst e;simp
   ·rw [if_neg e] at h
    obtain ⟨h1,h2⟩:=ih (k+1) t v h
    refine ⟨by omega,?_⟩
    have:t-k=(t-(k+1))+1:=by omega
    rw [this];simpa using h2
 have ha:Sat n (args.toList.zipIdx.map fun p=>(p.2,p.1)) { tmps:=args++Array.replicate (fn.ntmps-args.size) undef,defers:=[] }:=by
  refine ⟨by simp [hn];omega,rfl,fun t v ht=>?_⟩
  have h1:=(hget args.toList 0 t v ht).2
  simp only [Nat.sub_zero,Array.getElem?_toList] at h1
  have h2:t<args.size:=by
   rcases Nat.lt_or_ge t args.size with h' | h'
   ·exact h'
   ·simp [Array.getElem?_eq_none h'] at h1
  rw [Array.getElem?_append_left h2]
  exact h1
 obtain ⟨v,w',fr,h1,h2,h3,h4,h5⟩:=hr w _ b cs hw ha rfl rfl
 rw [← henter] at h3
 exact ⟨.returned v,w',fr,⟨v,rfl,h1,h2⟩,h3,h4,h5⟩
def envOf:Nat→List Value→Option Env
 | _,[]=>some []
 | k,v::r=>match envOf (k+1) r with
  | some e=>some ((k,v)::e)
  | none=>none
theorem envOf_eq:∀ (vs:List Value) (k:Nat),envOf k vs=some ((vs.zipIdx k).map fun p=>(p.2,p.1)):=by
 intro vs
 induction vs with
 | nil=>intro k;rfl
 | cons v r ih=>intro k;simp [envOf,ih]
theorem Ret.of_body {fn:Func} {c:Code} {vs:List Value} (hf:P.funcs[f]? = some fn) (hb:fn.body=some c) (hn:fn.ntmps=n) (hsz:Nat.ble vs.length n=true) (he:envOf 0 vs=some env)
  (hr:Runs P f n post [.code c] env h):Ret P f vs.toArray h post:=by
 rw [envOf_eq] at he
 cases he
 exact Ret.of_runs hf hb hn (by simpa using Nat.le_of_ble_eq_true hsz) (by simpa using hr)
end
end Go.Pat
