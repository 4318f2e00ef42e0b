import Derived.Test.YtlaffgagmncgjabDoorMem
import Derived.Test.YtlaffgagmncgjabDoorDraw
namespace Go.Pat
open Go
theorem ltl {j len:Nat} (k:Nat) (hk:Nat.beq j k=true) (h:k<len):j<len:=by rw [Nat.eq_of_beq_eq_true hk];exact h
def ctl (env:Env):List Item→Option (List Item)
 | .code .skip::k=>some k
 | .code (.seq x y)::k=>some (.code x :: .code y::k)
 | .code (.block i c)::k=>some (.code c :: .inBlock i::k)
 | .inBlock _::k=>some k
 | .code (.exit i)::k=>exitTo i k
 | .code (.cond c x y)::k=>match env.ev? c with
  | some (.bool true)=>some (.code x::k)
  | some (.bool false)=>some (.code y::k)
  | _=>none
 | _=>none
def lt? (a b:Int):Value:=.bool (decide (a<b))
def pvCall (T:Tab) (env:Env) (c:Call):Option Value :=
 match c with
 | ⟨.builtin .len,⟨[x]⟩,⟨[t]⟩⟩=>match env.ev? x with
  | some (.slice _ n _)=>match T.get? t with
   | some ⟨_,_,_,.inr (.inr (.inr (.inl _)))⟩=>some (.int .i64 (n:Int))
   | _=>none
  | some (.string ⟨⟨l⟩⟩)=>match T.get? t with
   | some ⟨_,_,_,.inr (.inl false)⟩=>some (.int .i64 (l.length:Int))
   | _=>none
  | _=>none
 | _=>none
def pv (T:Tab) (env:Env):Op→Option Value
 | .move x=>env.ev? x
 | .assign x=>env.ev? x
 | .pick c x y=>match env.ev? c with
  | some (.bool true)=>env.ev? x
  | some (.bool false)=>env.ev? y
  | _=>none
 | .nilCheck x=>match env.ev? x with
  | some (.pointer (some a))=>some (.pointer (some a))
  | _=>none
 | .extract x i=>match env.ev? x with
  | some (.tuple ⟨vs⟩)=>vs[i]?
  | _=>none
 | .unOp u _ x=>match u with
  | .not=>match env.ev? x with
   | some (.bool b)=>some (.bool (!b))
   | _=>none
  | _=>none
 | .fieldAddr s x i=>match env.ev? x with
  | some (.pointer (some ⟨b,p,none⟩))=>match T.get? s with
   | some ⟨_,_,_,.inr (.inr (.inr (.inr (.inl fs))))⟩=>match fs[i]? with
    | some (off,ft)=>match T.get? ft with
     | some ⟨sz,_,_,_⟩=>cond (Nat.beq sz 0) none (some (.pointer (some ⟨b,p+off,none⟩)))
     | _=>none
    | _=>none
   | _=>none
  | _=>none
 | .call c=>pvCall T env c
 | .build t ⟨ps⟩=>match mk T env t ps with
  | some cs=>some (.agg ⟨cs⟩)
  | none=>none
 | .binOp op t x y _=>match env.ev? x with
  | some (.int k p)=>match env.ev? y with
   | some (.int k' q)=>cond (decide (k=k')) (match op with
    | .lss=>some (.bool (decide (p<q)))
    | .leq=>some (.bool (decide (p≤q)))
    | .gtr=>some (.bool (decide (q<p)))
    | .geq=>some (.bool (decide (q≤p)))
    | .eql=>some (.bool (decide (p=q)))
    | .neq=>some (.bool (!decide (p=q)))
    | _=>none) none
   | _=>none
  | some (.string ⟨⟨p⟩⟩)=>match env.ev? y with
   | some (.string ⟨⟨q⟩⟩)=>match op with
    | .eql=>some (.bool (decide (p=q)))
    | .neq=>some (.bool (!decide (p=q)))
    | _=>none
   | _=>none
  | some (.pointer p)=>match env.ev? y with
   | some (.pointer none)=>match T.get? t with
    | some ⟨_,_,_,.inr (.inr (.inl _))⟩=>match op with
     | .eql=>some (.bool p.isNone)
     | .neq=>some (.bool p.isSome)
     | _=>none
    | _=>none
   | _=>none
  | some (.slice p _ _)=>match env.ev? y with
   | some (.slice none _ _)=>match T.get? t with
    | some ⟨_,_,_,.inr (.inr (.inr (.inl _)))⟩=>match op with
     | .eql=>some (.bool p.isNone)
     | _=>none
    | _=>none
   | _=>none
  | _=>none
 | _=>none
section
variable {P:Program} {f:FuncId} {n:Nat} {post:Value→Heap→Prop} {k:List Item} {env:Env} {h:Heap} {o:Oper} {T:Tab}
theorem Runs.ctl {todo todo':List Item} (hc:ctl env todo=some todo') (hr:Runs P f n post todo' env h):Runs P f n post todo env h:=by
 unfold Pat.ctl at hc
 split at hc
 ·cases hc;exact Runs.skip hr
 ·cases hc;exact Runs.seq hr
 ·cases hc;exact Runs.block hr
 ·cases hc;exact Runs.inBlock hr
 ·exact Runs.exit hc hr
 ·split at hc
  ·cases hc;exact Runs.cond_true ‹_› hr
  ·cases hc;exact Runs.cond_false ‹_› hr
  ·cases hc
 ·cases hc
theorem str_mk (l:List UInt8):(⟨⟨l⟩⟩:ByteArray)=str l:=rfl
theorem ov_pv {v:Value} (hT:T.ok P) (hv:pv T env o.op=some v):OpVal P n env o h v:=by
 generalize ho:o.op=op at hv
 cases op<;>simp only [pv] at hv
 case move x=>exact ov_move ho hv
 case assign x=>exact ov_assign ho hv
 case pick c x y =>
  split at hv
  ·exact ov_pick_true ho ‹_› hv
  ·exact ov_pick_false ho ‹_› hv
  ·cases hv
 case nilCheck x =>
  split at hv
  ·cases hv;exact ov_nil ho ‹_›
  ·cases hv
 case extract x i =>
  split at hv
  ·exact ov_extract ho ‹_› hv
  ·cases hv
 case unOp u t x =>
  split at hv
  ·split at hv
   ·cases hv;exact ov_not ho ‹_›
   ·cases hv
  ·cases hv
 case fieldAddr s x i =>
  split at hv
  ·split at hv
   ·split at hv
    ·split at hv
     ·rename_i h4
      revert hv
      generalize hb:Nat.beq _ 0=bb
      cases bb<;>intro hv<;>cases hv
      exact ov_field hT ho ‹_› ‹_› ‹_› h4 hb
     ·cases hv
    ·cases hv
   ·cases hv
  ·cases hv
 case call c =>
  unfold pvCall at hv
  split at hv
  ·split at hv
   ·split at hv
    ·cases hv;exact ov_len hT ho ‹_› ‹_›
    ·cases hv
   ·split at hv
    ·cases hv;exact ov_slen hT ho ‹_› ‹_›
    ·cases hv
   ·cases hv
  ·cases hv
 case build t ps =>
  obtain ⟨ps⟩:=ps
  simp only at hv
  split at hv
  ·cases hv;exact ov_mk hT ho ‹_›
  ·cases hv
 case binOp op t x y u =>
  split at hv
  ·split at hv
   ·rename_i k p hx _ k' q hy
    by_cases e:k=k'
    ·subst e
     simp only [decide_true,cond_true] at hv
     cases op<;>simp only at hv<;>cases hv
     ·exact ov_eql ho hx hy
     ·exact ov_neq ho hx hy
     ·exact ov_lss ho hx hy
     ·exact ov_leq ho hx hy
     ·exact ov_gtr ho hx hy
     ·exact ov_geq ho hx hy
    ·simp [e] at hv
   ·cases hv
  ·split at hv
   ·rename_i p hx _ q hy
    cases op<;>simp only at hv<;>cases hv
    ·exact ov_seql ho hx hy
    ·exact ov_sneq ho hx hy
   ·cases hv
  ·split at hv
   ·rename_i p hx _ hy
    split at hv
    ·cases op<;>simp only at hv<;>cases hv
     ·exact ov_peql_nil hT ho hx hy ‹_›
     ·exact ov_pneq_nil hT ho hx hy ‹_›
    ·cases hv
   ·cases hv
  ·split at hv
   ·rename_i hx _ _ _ hy
    split at hv
    ·cases op<;>simp only at hv<;>cases hv
     exact ov_leql_nil hT ho hx hy ‹_›
    ·cases hv
   ·cases hv
  ·cases hv
 all_goals cases hv
theorem WO.join {ops:Array Oper} {l:List Oper} {K:Env→Heap→Prop} (J:Env→Heap→Prop) (hr:WO P n ops l J env h) (hJ:∀ env' h',J env' h'→K env' h'):WO P n ops l K env h:=fun w₀ w a hs hw ha=>by
 have hm:∀ (l':List Oper) (a:Act) (w:World) (Q Q':Exit→Act→World→Prop),(∀ e a w,Q e a w→Q' e a w)→wpList P ops Q l' a w→wpList P ops Q' l' a w:=by
  intro l'
  induction l' with
  | nil=>intro a w Q Q' hQ h;exact hQ _ _ _ h
  | cons o r ih =>
   intro a w Q Q' hQ h
   simp only [wpList] at h ⊢
   split
   ·rename_i hw
    simp only [hw,if_true] at h
    refine h.imp (fun h=>?_) (fun ⟨h1,a',w',h2⟩=>⟨h1,a',w',hQ _ _ _ h2⟩)
    have h':=Oper.wp_mono (K':=wpList P ops Q' r) (fun a w h=>ih a w Q Q' hQ h) h
    unfold Oper.wp at h' ⊢
    generalize (execOp a.eval o).run P w=res at *
    cases res with
    | ok x w' =>
     cases x<;>simp only [Oper.upon] at h' ⊢<;>try exact h'
     refine h'.mono fun e w'' he=>?_
     cases e with
     | returned v=>exact he
     | panicked c=>exact hQ _ _ _ he
     | outgrown=>obtain ⟨a',w',h2⟩:=he;exact ⟨a',w',hQ _ _ _ h2⟩
    | halt x w'=>cases x<;>simp only [Oper.upon] at h' ⊢;exact hQ _ _ _ h'
   ·rename_i hw
    simp only [hw] at h
    exact ih _ _ Q Q' hQ h
 exact hm l a w _ _ (fun e a w ⟨h1,h2,env',h3,h4⟩=>⟨h1,h2,env',h3,hJ _ _ h4⟩) (hr w₀ w a hs hw ha)
theorem WS.join {ops:Array Oper} {l:List Oper} {K:Env→Prop} (J:Env→Prop) (hr:WS P n ops l J env h) (hJ:∀ env',J env'→K env'):WS P n ops l K env h:=fun w a hw ha=>by
 have hm:∀ (l':List Oper) (a:Act) (Q Q':Act→Prop),(∀ a,Q a→Q' a)→wpStill P ops w Q l' a→wpStill P ops w Q' l' a:=by
  intro l'
  induction l' with
  | nil=>intro a Q Q' hQ h;exact hQ a h
  | cons o r ih =>
   intro a Q Q' hQ h
   simp only [wpStill] at h ⊢
   split
   ·rename_i hw;simp only [hw,if_true] at h;exact Oper.still_mono (fun a h=>ih a Q Q' hQ h) h
   ·rename_i hw;simp only [hw] at h;exact ih _ Q Q' hQ h
 exact hm l a _ _ (fun a' ⟨env',ha',hK⟩=>⟨env',ha',hJ _ hK⟩) (hr w a hw ha)
theorem Runs.join {c:Code} (J:Env→Heap→Prop) (hr:(∀ env' h',J env' h'→Runs P f n post k env' h')→Runs P f n post (.code c::k) env h) (hJ:∀ env' h',J env' h'→Runs P f n post k env' h') :
  Runs P f n post (.code c::k) env h:=hr hJ
variable {ops:Array Oper} {o₂:Oper} {SH:Heap→Prop} {F:Nat→Bool} {K:Env→Heap→Prop} {fuel:Nat} {listed:Array Bool}
theorem WF.push {t e:TypeId} {x s:Operand} {u v:Value} {vs xs:List Value} {N sz by_ d d₂ esz eby:Nat} {z ez:Value} {ek:TK} (i j:Nat) (hT:T.ok P) (hr:Region.ready .any ops listed=[i]) (hr₂:Region.ready .any ops (listed.setIfInBounds i true)=[j]) (hi:ops[i]? = some o) (hj:ops[j]? = some o₂)
  (ho:o.op = .buildSlice t 1 #[(0,x)]) (hg:gd ops env o=some true) (hd:o.dst=some d) (hn:Nat.blt d n=true)
  (ho₂:o₂.op = .call { callee:=.builtin .append,args:=#[s,.tmp d],argTypes:=#[t,t] }) (hg₂:o₂.guard=none) (hd₂:o₂.dst=some d₂) (hn₂:Nat.blt d₂ n=true)
  (ht:T.get? t=some ⟨sz,by_,z,.slice e⟩) (he:T.get? e=some ⟨esz,eby,ez,ek⟩) (hpos:Nat.blt 0 esz=true) (hle:Nat.ble esz 16777216=true) (hz:ez.cells.size=esz)
  (hx:env.ev? x=some u) (hvs:oneList u=some vs) (hl:Nat.beq vs.length esz=true) (hs:env.ev? s=some v) (hsd:s ≠ .tmp d) (h1:One vs)
  (hown:Own h e esz v N xs) (hb:(N+1)*(eby+1)≤140737488355328) (hS:∀ h',Fr (fun k=>v.ownBlock=some k) h h'→SH h')
  (hk:∀ v' h',Own h' e esz v' (N+1) (xs++vs)→Fr (fun k=>v.ownBlock=some k) h h'→Moved h v v'→WF P n ops SH F fuel ((listed.setIfInBounds i true).setIfInBounds j true) K ((d₂,v')::(d,.slice (some ⟨h.size,0,none⟩) 1 1)::env) h') :
  WF P n ops SH F (fuel+1+1) listed K env h:=by
 refine WF.ex i hr hi hg hd hn (ox_build1 hT ho ht he hpos hle hx hvs hl ⟨.inr (hS _ (Fr.push _ _ _)),?_⟩)
 have hs':Env.ev? ((d,.slice (some ⟨h.size,0,none⟩) 1 1)::env) s=some v:=by
  cases s with
  | tmp q=>simp only [Env.ev?] at hs ⊢;rw [Env.get?_cons,if_neg (fun e=>hsd (by rw [e])),hs]
  | _=>exact hs
 have hd':Env.ev? ((d,.slice (some ⟨h.size,0,none⟩) 1 1)::env) (.tmp d)=some (.slice (some ⟨h.size,0,none⟩) 1 1):=by
  simp only [Env.ev?];rw [Env.get?_cons,if_pos rfl]
 have hg₂':gd ops ((d,.slice (some ⟨h.size,0,none⟩) 1 1)::env) o₂=some true:=by simp [gd,hg₂]
 refine WF.ex j hr₂ hj hg₂' hd₂ hn₂ (ox_append (xs:=xs) (N:=N) hT ho₂ hs' hd' ht he hz hpos (hown.fr (Fr.push (fun _=>False) h _) (by simp)) ⟨by rw [Nat.one_mul];exact Nat.eq_of_beq_eq_true hl,.inr ⟨_,_,_,rfl,Nat.le_refl _,cells_push_new vs e _⟩⟩ h1 hb ?_)
 intro v' h' q1 q2 q3
 have hfr:Fr (fun k=>v.ownBlock=some k) h h':=by
  refine ⟨?_,fun b hb hb'=>?_⟩
  ·have:=q2.size;simp at this;omega
  ·rw [q2.same b (by simp;omega) hb',Array.getElem?_push,if_neg (by omega)]
 refine ⟨.inr (hS _ hfr),hk v' h' q1 hfr ?_⟩
 intro k hk
 rcases q3 with q3 | q3
 ·exact .inl (by rw [← q3];exact hk)
 ·right;rw [q3] at hk;cases hk;simp
theorem WF.put {t:TypeId} {x y:Operand} {b p:Nat} {v:Value} {vs c c':List Value} {sz by_:Nat} {z:Value} {tk:TK} {e:TypeId} (i:Nat) (hT:T.ok P) (hr:Region.ready .any ops listed=[i]) (hi:ops[i]? = some o) (ho:o.op = .store t x y) (hg:gd ops env o=some true) (hd:o.dst=none)
  (hx:env.ev? x=some (.pointer (some ⟨b,p,none⟩))) (hy:env.ev? y=some v) (ht:T.get? t=some ⟨sz,by_,z,tk⟩) (hv:oneList v=some vs) (hl:Nat.beq vs.length sz=true) (h1:One vs)
  (hblk:Blk h b c e) (hs:setO c p vs=some c') (hF:F i=true)
  (hk:∀ h1,Blk h1 b c' e→Fr (fun k=>k=b) h h1→h1.size=h.size→WF P n ops SH F fuel (listed.setIfInBounds i true) K env h1):WF P n ops SH F (fuel+1) listed K env h:=by
 obtain ⟨e1,e2⟩:=setO_spec hs
 refine WF.skip (h':=putRow h b c' e) i hr hi hg hd (fun w a hw ha=>?_) (.inl hF) (hk _ (hblk.put c') (Fr.put h b c' e) (by simp [putRow]))
 subst hw
 rw [e1]
 have hv':=oneList_cells hv
 have hst:=run_storeCells_at P b p e vs 0 c.toArray w hblk (by simpa using e2) h1
 have hl':=Nat.eq_of_beq_eq_true hl
 refine ⟨w.setRow b (setAt c p vs).toArray,?_,⟨rfl,rfl,rfl⟩,?_⟩
 ·simp only [Nat.add_zero] at hst
  simp [execOp,ho,ha.ev hx,ha.ev hy,Instr.storeAt,Instr.sureAddr,storeVar,run_sizeOf (Tab.fits hT ht),hv',hl',hst,setAt]
 ·rw [setRow_eq w b c.toArray _ e hblk]
end
end Go.Pat
