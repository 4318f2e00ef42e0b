import Derived.Test.YtdglhhegmabeoaaGreatDoorTab
namespace Go.Proofs.YtdglhhegmabeoaaGreatDoor
open Go Go.Pat Go.Proofs

/-- split -/
def splitL (c : UInt8) : List UInt8 → List (List UInt8)
  | [] => [[]]
  | x :: r => if x = c then [] :: splitL c r else
    match splitL c r with
    | p :: ps => (x :: p) :: ps
    | [] => [[x]]

def consPre (p : List UInt8) : List (List UInt8) → List (List UInt8)
  | [] => [p]
  | q :: qs => (p ++ q) :: qs

theorem splitL_ne (c : UInt8) (l : List UInt8) : splitL c l ≠ [] := by
  cases l with
  | nil => simp [splitL]
  | cons x r => simp only [splitL]; split <;> (try split) <;> simp

theorem consPre_snoc {c x : UInt8} (hx : x ≠ c) (p r : List UInt8) : consPre p (splitL c (x :: r)) = consPre (p ++ [x]) (splitL c r) := by
  simp only [splitL, if_neg hx]
  cases h : splitL c r with
  | nil => exact absurd h (splitL_ne c r)
  | cons q qs => simp [consPre]


structure SX where
  (i fr : Nat) (v : Value) (ps : List (List UInt8))

set_option maxRecDepth 20000 in
set_option maxHeartbeats 400000 in
theorem split_ret (l : List UInt8) (c : UInt8) (h : Heap) (hl : l.length ≤ 16777216) : Ret Tryz.prog 106 #[.string (str l), .int .u8 (c.toNat : Int)] h fun v h' =>
    Ext h h' ∧ Own h' 9 1 v (splitL c l).length (strs (splitL c l)) ∧ Moved h (.slice none 0 0) v := by
  refine Ret.of_body Tryz.func106 rfl Tryz.ntmps106 rfl rfl ?_
  repeat (first | refine Runs.ctl rfl ?_ | refine Runs.region ?_ | with_reducible refine WO.nil ?_ | refine zo1 ?_ | refine zo2 ?_ | refine zo3 ?_ | refine zo4 ?_ | refine zo5 ?_ | refine zo6 ?_ | refine zo7 ?_ | refine zo8 ?_ | refine zo9 ?_ | refine zo10 ?_ | refine zo11 ?_ | refine zo12 ?_ | refine zo0 ?_)
  refine Runs.loop (X := SX) (fun x => [(0, .string (str l)), (1, .int .u8 (c.toNat : Int)), (5, x.v), (6, .int .i64 (x.fr : Int)), (7, .int .i64 (x.i : Int))])
    (fun x h' => Ext h h' ∧ Own h' 9 1 x.v x.ps.length (strs x.ps) ∧ Moved h (.slice none 0 0) x.v ∧ x.fr ≤ x.i ∧ x.i ≤ l.length ∧ x.ps.length ≤ x.i ∧ splitL c l = x.ps ++ consPre ((l.take x.i).drop x.fr) (splitL c (l.drop x.i)))
    (fun x => l.length - x.i) ⟨0, 0, .slice none 0 0, []⟩ ⟨rfl, rfl, rfl, rfl, rfl, trivial⟩ ⟨Fr.refl _ _, Own.nil _ _ _, by intro k hk; simp [Value.ownBlock] at hk, Nat.le_refl _, Nat.zero_le _, Nat.le_refl _, ?_⟩ ?_
  · simp only [List.take_zero, List.drop_nil, List.drop_zero, List.nil_append]
    cases hs : splitL c l with
    | nil => exact absurd hs (splitL_ne c l)
    | cons q qs => rfl
  rintro ⟨i, fr, v, ps⟩ h1 ⟨hx, hown, hmv, hfi, hil, hpi, hspec⟩ ih
  dsimp only at hx hown hmv hfi hil hpi hspec ih ⊢
  repeat (first | refine Runs.ctl rfl ?_ | refine Runs.region ?_ | with_reducible refine WO.nil ?_ | refine zo1 ?_ | refine zo2 ?_ | refine zo3 ?_ | refine zo4 ?_ | refine zo5 ?_ | refine zo6 ?_ | refine zo7 ?_ | refine zo8 ?_ | refine zo9 ?_ | refine zo10 ?_ | refine zo11 ?_ | refine zo12 ?_ | refine zo0 ?_)
  refine Runs.cond_dec rfl (fun hlt => ?_) (fun hge => ?_)
  · have hlt' : i < l.length := by omega
    obtain ⟨x, hget⟩ : ∃ x, l[i]? = some x := ⟨l[i], List.getElem?_eq_getElem hlt'⟩
    repeat (first | refine Runs.ctl rfl ?_ | refine Runs.region ?_ | with_reducible refine WO.nil ?_ | refine zo1 ?_ | refine zo2 ?_ | refine zo3 ?_ | refine zo4 ?_ | refine zo5 ?_ | refine zo6 ?_ | refine zo7 ?_ | refine zo8 ?_ | refine zo9 ?_ | refine zo10 ?_ | refine zo11 ?_ | refine zo12 ?_ | refine zo0 ?_)
    refine Runs.cond_dec rfl (fun heq => ?_) (fun hne => ?_)
    · repeat (first | refine Runs.ctl rfl ?_ | refine Runs.region ?_ | with_reducible refine WO.nil ?_ | refine zo1 ?_ | refine zo2 ?_ | refine zo3 ?_ | refine zo4 ?_ | refine zo5 ?_ | refine zo6 ?_ | refine zo7 ?_ | refine zo8 ?_ | refine zo9 ?_ | refine zo10 ?_ | refine zo11 ?_ | refine zo12 ?_ | refine zo0 ?_)
      refine WO.push tab_ok rfl rfl rfl rfl rfl rfl rfl rfl rfl rfl rfl rfl rfl rfl rfl rfl rfl (by simp) (one_str _) hown (by omega) ?_
      intro v' h' q1 q2 q3
      repeat (first | refine Runs.ctl rfl ?_ | refine Runs.region ?_ | with_reducible refine WO.nil ?_ | refine zo1 ?_ | refine zo2 ?_ | refine zo3 ?_ | refine zo4 ?_ | refine zo5 ?_ | refine zo6 ?_ | refine zo7 ?_ | refine zo8 ?_ | refine zo9 ?_ | refine zo10 ?_ | refine zo11 ?_ | refine zo12 ?_ | refine zo0 ?_)
      have hxc : x = c := UInt8.toNat.inj (by omega)
      refine ih ⟨i + 1, i + 1, v', ps ++ [(l.take i).drop fr]⟩ _ _ (by dsimp only; omega) ⟨rfl, rfl, rfl, rfl, rfl, trivial⟩ ⟨hx.trans_new (q2.mono ?_), by simpa [strs] using q1, ?_, Nat.le_refl _, hlt', by simp; omega, ?_⟩
      · intro k _ hk; right; have := hmv k hk; simpa [Value.ownBlock] using this
      · intro k hk
        right
        rcases q3 k hk with e | e
        · have := hmv k e; simpa [Value.ownBlock] using this
        · have := hx.size; omega
      · rw [hspec, List.drop_eq_getElem_cons hlt']
        have : l[i] = c := by rw [List.getElem?_eq_getElem hlt'] at hget; cases hget; exact hxc
        rw [this]
        have hd : List.drop (i + 1) (List.take (i + 1) l) = [] := by simp
        simp only [splitL, if_true, consPre, List.append_nil, hd]
        cases hs : splitL c (List.drop (i + 1) l) with
        | nil => exact absurd hs (splitL_ne c _)
        | cons q qs => simp
    · repeat (first | refine Runs.ctl rfl ?_ | refine Runs.region ?_ | with_reducible refine WO.nil ?_ | refine zo1 ?_ | refine zo2 ?_ | refine zo3 ?_ | refine zo4 ?_ | refine zo5 ?_ | refine zo6 ?_ | refine zo7 ?_ | refine zo8 ?_ | refine zo9 ?_ | refine zo10 ?_ | refine zo11 ?_ | refine zo12 ?_ | refine zo0 ?_)
      refine ih ⟨i + 1, fr, v, ps⟩ _ _ (by dsimp only; omega) ⟨rfl, rfl, rfl, rfl, rfl, trivial⟩ ⟨hx, hown, hmv, by dsimp only; omega, hlt', by dsimp only; omega, ?_⟩
      have hxc : x ≠ c := fun e => hne (by rw [e])
      have hxe : l[i] = x := by rw [List.getElem?_eq_getElem hlt'] at hget; cases hget; rfl
      rw [hspec, List.drop_eq_getElem_cons hlt', hxe, consPre_snoc hxc]
      congr 2
      rw [List.take_succ_eq_append_getElem hlt', hxe, List.drop_append_of_le_length (by simp; omega)]
  · repeat (first | refine Runs.ctl rfl ?_ | refine Runs.region ?_ | with_reducible refine WO.nil ?_ | refine zo1 ?_ | refine zo2 ?_ | refine zo3 ?_ | refine zo4 ?_ | refine zo5 ?_ | refine zo6 ?_ | refine zo7 ?_ | refine zo8 ?_ | refine zo9 ?_ | refine zo10 ?_ | refine zo11 ?_ | refine zo12 ?_ | refine zo0 ?_)
    refine WO.push tab_ok rfl rfl rfl rfl rfl rfl rfl rfl rfl rfl rfl rfl rfl rfl rfl rfl rfl (by simp) (one_str _) hown (by omega) ?_
    intro v' h' q1 q2 q3
    repeat (first | refine Runs.ctl rfl ?_ | refine Runs.region ?_ | with_reducible refine WO.nil ?_ | refine zo1 ?_ | refine zo2 ?_ | refine zo3 ?_ | refine zo4 ?_ | refine zo5 ?_ | refine zo6 ?_ | refine zo7 ?_ | refine zo8 ?_ | refine zo9 ?_ | refine zo10 ?_ | refine zo11 ?_ | refine zo12 ?_ | refine zo0 ?_)
    have hi : i = l.length := by omega
    subst hi
    have hfin : splitL c l = ps ++ [l.drop fr] := by rw [hspec]; simp [splitL, consPre]
    refine Runs.ret Tryz.func106 (ret1 Tryz.results106 rfl) ⟨hx.trans_new (q2.mono ?_), ?_, ?_⟩
    · intro k _ hk; right; have := hmv k hk; simpa [Value.ownBlock] using this
    · rw [hfin]; simpa [strs] using q1
    · intro k hk
      right
      rcases q3 k hk with e | e
      · have := hmv k e; simpa [Value.ownBlock] using this
      · have := hx.size; omega

end Go.Proofs.YtdglhhegmabeoaaGreatDoor
