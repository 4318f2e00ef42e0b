import Derived.Test.YtfkkphojjfnjnaaGreatDoorL3
namespace Go.Pat
open Go
section
variable {P : Program} {n : Nat} {env : Env} {h : Heap} {o : Oper} {T : Tab}
/-- append onto a slice whose capacity is its length: the same slice, or one of one's own in new memory. -/
theorem ox_append_fl {s x : Operand} {t e : TypeId} {xv : Value} {ad : Option Addr} {N m : Nat} {xs news : List Value} {i : TI} {sz by_ : Nat} {z : Value} {K : Value → Heap → Prop} (hT : T.ok P)
    (ho : o.op = .call { callee := .builtin .append, args := #[s, x], argTypes := #[t, t] }) (hs : env.ev? s = some (.slice ad N N)) (hx : env.ev? x = some xv)
    (ht : T.get? t = some ⟨sz, by_, z, .slice e⟩) (he : T.get? e = some i) (hz : i.zero.cells.size = i.size) (hsz : Nat.blt 0 i.size = true)
    (hbase : Rd h i.size (.slice ad N N) N xs) (hr : Rd h i.size xv m news) (h1 : One news) (hb : (N + m) * (i.bytes + 1) ≤ 140737488355328)
    (hk : ∀ v' h', Rd h' i.size v' (N + m) (xs ++ news) → Ext h h' → ((m = 0 ∧ v' = .slice ad N N) ∨ (Own h' e i.size v' (N + m) (xs ++ news) ∧ v'.ownBlock = some h.size)) → K v' h') : OpEx P n env o h K := by
  rcases Nat.eq_zero_or_pos m with hm | hm
  · subst hm
    have hnil : news = [] := by have := hr.1; simp at this; exact this
    subst hnil
    refine (ov_append_none hT ho hs hx ht he hr (Nat.le_refl _)).ex (hk _ _ ?_ (Fr.refl _ _) (.inl ⟨rfl, rfl⟩))
    simpa using hbase
  · rcases hbase.2 with ⟨e1, e2⟩ | ⟨b, p, cap, e1, e2, e3⟩
    · cases e1
      have hnil : xs = [] := by have := hbase.1; simp at this; exact this
      subst hnil
      refine ox_append hT ho hs hx ht he hz hsz (Own.nil h e i.size) hr h1 hb fun v' h' q1 q2 q3 => hk v' h' q1.rd ?_ (.inr ⟨q1, ?_⟩)
      · exact q2.mono fun k _ e => by simp [Value.ownBlock] at e
      · rcases q3 with q3 | q3
        · rcases q1.2 with ⟨_, e⟩ | ⟨g, c, cur, e, _⟩
          · omega
          · subst e; simp [Value.ownBlock] at q3
        · exact q3
    · cases e1
      exact ox_append_full hT ho hs hx ht he hz hbase.1 e3 hr hm hb fun v' h' q1 q2 q3 => hk v' h' q1.rd q2 (.inr ⟨q1, q3⟩)
end
end Go.Pat
namespace Go.Proofs.YtfkkphojjfnjnaaGreatDoor
open Go Go.Pat Go.Proofs

/-! ### The world of a script -/
structure WS1 where
  (S : List SP) (texts file : List (List UInt8)) (sv tv fv iv : Value) (m : Nat) (ivs : List Value)
def SP.cells (s : SP) : List Value := [.pointer (some ⟨s.xb, 0, none⟩), .pointer (some ⟨s.mb, 0, none⟩)]
theorem SP.one (s : SP) : One s.cells := by intro u hu; simp [SP.cells] at hu; rcases hu with rfl | rfl <;> rfl
def pairC (S : List SP) : List Value := S.flatMap SP.cells
theorem pairC_append (l m : List SP) : pairC (l ++ m) = pairC l ++ pairC m := by simp [pairC]
theorem length_pairC (l : List SP) : (pairC l).length = l.length * 2 := by
  induction l with
  | nil => rfl
  | cons x l ih => simp only [pairC, List.flatMap_cons, List.length_append] at ih ⊢; rw [ih]; simp [SP.cells]; omega
theorem pairC_get {h : Heap} {l : List SP} {b p : Nat} (hc : Cells h b p (pairC l)) {i : Nat} {x : SP} (hi : l[i]? = some x) : Cells h b (p + i * 2) x.cells := by
  have hlt : i < l.length := (List.getElem?_eq_some_iff.1 hi).1
  intro j v hj
  have hj4 : j < 2 := by have := (List.getElem?_eq_some_iff.1 hj).1; simpa [SP.cells] using this
  have hv : (pairC l)[i * 2 + j]? = some v := by
    have h0 : l = l.take i ++ x :: l.drop (i + 1) := by
      obtain ⟨_, e⟩ := List.getElem?_eq_some_iff.1 hi
      rw [← e, List.getElem_cons_drop, List.take_append_drop]
    rw [h0, pairC_append]
    have hl : (pairC (l.take i)).length = i * 2 := by rw [length_pairC, List.length_take]; congr 1; omega
    rw [List.getElem?_append_right (by omega), hl, show i * 2 + j - i * 2 = j by omega]
    simp only [pairC, List.flatMap_cons]
    rw [List.getElem?_append_left (by simp [SP.cells]; omega)]
    exact hj
  have := hc (i * 2 + j) v hv
  rw [← Nat.add_assoc] at this
  exact this

/-- The file: a list of one's own, or one without room. -/
def Fl (h : Heap) (v : Value) (l : List (List UInt8)) : Prop := Rd h 1 v l.length (strs l) ∧ (Own h 9 1 v l.length (strs l) ∨ ∃ ad, v = .slice ad l.length l.length)
theorem Fl.fr {S : Nat → Prop} {h h' : Heap} {v : Value} {l : List (List UInt8)} (x : Fl h v l) (f : Fr S h h') (hs : ∀ k, v.ownBlock = some k → ¬ S k) : Fl h' v l := by
  refine ⟨x.1.fr f hs, ?_⟩
  rcases x.2 with e | e
  · exact .inl (e.fr f hs)
  · exact .inr e
theorem Fl.nil (h : Heap) : Fl h (.slice none 0 0) [] := ⟨(Own.nil h 9 1).rd, .inl (Own.nil _ _ _)⟩

/-- What is only read: role 0. -/
def FR (ρ : Nat → Nat) (h : Heap) (k : Nat) : Prop := ρ k = 0 ∧ k < h.size
def Role (base : Nat) (ρ : Nat → Nat) (h : Heap) (v : Value) (r : Nat) : Prop := ∀ k, v.ownBlock = some k → ρ k = r ∧ base ≤ k ∧ k < h.size
def PairAt (base : Nat) (ρ : Nat → Nat) (h : Heap) (i : Nat) (s : SP) : Prop := PairOK (FR ρ h) h s ∧ ρ s.xb = 10 + 2 * i ∧ ρ s.mb = 11 + 2 * i ∧ base ≤ s.xb ∧ base ≤ s.mb

structure WI (base : Nat) (h : Heap) (wb : Nat) (ρ : Nat → Nat) (c : Nat) (w : WS1) : Prop where
  blk : Blk h wb [w.sv, w.tv, w.fv, .slice none 0 0, w.iv] 33
  wr : ρ wb = 1
  wbase : base ≤ wb
  s : Own h 43 2 w.sv w.S.length (pairC w.S)
  rs : Role base ρ h w.sv 2
  t : Own h 9 1 w.tv w.texts.length (strs w.texts)
  rt : Role base ρ h w.tv 3
  f : Fl h w.fv w.file
  rf : Role base ρ h w.fv 4
  i : Own h 56 1 w.iv w.m w.ivs
  ri : Role base ρ h w.iv 5
  p : ∀ i s, w.S[i]? = some s → PairAt base ρ h i s
  tab : Tab10 h
  r0 : ρ 0 = 0
  cs : w.S.length ≤ c
  ct : w.texts.length ≤ c
  cf : w.file.length ≤ 300 + c
  ci : w.m ≤ c
  tl : ∀ t ∈ w.texts, t.length ≤ 1100000

/-- What stays as it is, where what is written has the roles R. -/
structure Kept (base : Nat) (h' : Heap) (wb : Nat) (ρ' : Nat → Nat) (w : WS1) (R : Nat → Prop) : Prop where
  blk : ¬ R 1 → Blk h' wb [w.sv, w.tv, w.fv, .slice none 0 0, w.iv] 33
  wr : ρ' wb = 1
  s : ¬ R 2 → Own h' 43 2 w.sv w.S.length (pairC w.S)
  rs : Role base ρ' h' w.sv 2
  t : ¬ R 3 → Own h' 9 1 w.tv w.texts.length (strs w.texts)
  rt : Role base ρ' h' w.tv 3
  f : ¬ R 4 → Fl h' w.fv w.file
  rf : Role base ρ' h' w.fv 4
  i : ¬ R 5 → Own h' 56 1 w.iv w.m w.ivs
  ri : Role base ρ' h' w.iv 5
  p : ∀ i s, w.S[i]? = some s → ¬ R (10 + 2 * i) → ¬ R (11 + 2 * i) → PairAt base ρ' h' i s
  tab : Tab10 h'
  r0 : ρ' 0 = 0

theorem Tab10.lt {h : Heap} (x : Tab10 h) : 0 < h.size := by
  obtain ⟨_, _, hx⟩ := x
  exact (Array.getElem?_eq_some_iff.1 hx).1

theorem WI.keep {base : Nat} {h h' : Heap} {wb c : Nat} {ρ ρ' : Nat → Nat} {w : WS1} (x : WI base h wb ρ c w) {S : Nat → Prop} (f : Fr S h h') (R : Nat → Prop) (hS : ∀ k, k < h.size → S k → R (ρ k)) (h0 : ¬ R 0) (hρ : ∀ k, k < h.size → ρ' k = ρ k) : Kept base h' wb ρ' w R := by
  have hz := f.size
  have role : ∀ v r, Role base ρ h v r → Role base ρ' h' v r := fun v r hr k hk => by
    obtain ⟨h1, h2, h3⟩ := hr k hk
    exact ⟨by rw [hρ k h3]; exact h1, h2, by omega⟩
  have away : ∀ v r, Role base ρ h v r → ¬ R r → ∀ k, v.ownBlock = some k → ¬ S k := fun v r hr hn k hk hs => by
    obtain ⟨h1, h2, h3⟩ := hr k hk
    exact hn (h1 ▸ hS k h3 hs)
  refine ⟨fun hn => x.blk.fr f fun hs => hn (x.wr ▸ hS wb x.blk.lt hs), by rw [hρ wb x.blk.lt]; exact x.wr, fun hn => x.s.fr f (away _ _ x.rs hn), role _ _ x.rs, fun hn => x.t.fr f (away _ _ x.rt hn), role _ _ x.rt, fun hn => x.f.fr f (away _ _ x.rf hn), role _ _ x.rf, fun hn => x.i.fr f (away _ _ x.ri hn), role _ _ x.ri, fun i s hi h1 h2 => ?_, ?_, ?_⟩
  · obtain ⟨p1, p2, p3, p4, p5⟩ := x.p i s hi
    have lx := p1.x.lt
    have lm := p1.m.lt
    refine ⟨(p1.fr f (fun e => h1 (p2 ▸ hS _ lx e)) (fun e => h2 (p3 ▸ hS _ lm e)) fun k hk e => h0 (hk.1 ▸ hS k hk.2 e)).mono fun k hk => ⟨by rw [hρ k hk.2]; exact hk.1, by have := hk.2; omega⟩, by rw [hρ _ lx]; exact p2, by rw [hρ _ lm]; exact p3, p4, p5⟩
  · exact x.tab.fr f fun e => h0 (x.r0 ▸ hS 0 x.tab.lt e)
  · rw [hρ 0 x.tab.lt]; exact x.r0

/-- New memory takes the role r. -/
def ext (ρ : Nat → Nat) (n r : Nat) (k : Nat) : Nat := if k < n then ρ k else r
theorem ext_lt {ρ : Nat → Nat} {n r k : Nat} (h : k < n) : ext ρ n r k = ρ k := if_pos h
theorem ext_ge {ρ : Nat → Nat} {n r k : Nat} (h : n ≤ k) : ext ρ n r k = r := if_neg (by omega)

theorem Role.moved {base : Nat} {ρ : Nat → Nat} {h h1 h' : Heap} {v v' : Value} {r : Nat} {S : Nat → Prop} (x : Role base ρ h v r) (hm : Moved h1 v v') (hf : Fr S h h1) (hl : ∀ k, v'.ownBlock = some k → k < h'.size) (hb : base ≤ h.size) : Role base (ext ρ h.size r) h' v' r := fun k hk => by
  rcases hm k hk with e | e
  · obtain ⟨h1, h2, h3⟩ := x k e
    exact ⟨by rw [ext_lt h3]; exact h1, h2, hl k hk⟩
  · have := hf.size
    exact ⟨ext_ge (by omega), by omega, hl k hk⟩

end Go.Proofs.YtfkkphojjfnjnaaGreatDoor
