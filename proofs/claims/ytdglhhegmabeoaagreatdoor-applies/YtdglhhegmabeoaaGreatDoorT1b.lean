import Derived.Test.YtdglhhegmabeoaaGreatDoorT1
namespace Go.Proofs.YtdglhhegmabeoaaGreatDoor
open Go Go.Pat Go.Proofs

set_option maxRecDepth 20000 in
set_option maxHeartbeats 400000 in
theorem among_ret (l : List Nat) (x : Nat) (v : Value) (h : Heap) (hl : l.length ≤ 16777216) (hr : Rd h 1 v l.length (ints l)) : Ret Tryz.prog 111 #[v, .int .i64 (x : Int)] h fun r h' =>
    r = .bool (decide (x ∈ l)) ∧ h' = h := by
  obtain ⟨ad, cap, hv⟩ := hr.form
  subst hv
  refine Ret.of_body Tryz.func111 rfl Tryz.ntmps111 rfl rfl ?_
  repeat (first | refine Runs.ctl rfl ?_ | refine Runs.region ?_ | with_reducible refine WO.nil ?_ | refine zo1 ?_ | refine zo2 ?_ | refine zo3 ?_ | refine zo4 ?_ | refine zo5 ?_ | refine zo6 ?_ | refine zo7 ?_ | refine zo8 ?_ | refine zo9 ?_ | refine zo10 ?_ | refine zo11 ?_ | refine zo12 ?_ | refine zo0 ?_)
  refine Runs.loop (X := Nat) (fun i => [(1, .int .i64 (x : Int)), (4, .bool false), (7, .slice ad l.length cap), (8, .int .i64 (l.length : Int)), (9, .int .i64 (i : Int))])
    (fun i h' => h' = h ∧ i ≤ l.length ∧ x ∉ l.take i) (fun i => l.length - i) 0 ⟨rfl, rfl, rfl, rfl, rfl, trivial⟩ ⟨rfl, Nat.zero_le _, by simp⟩ ?_
  rintro i h1 ⟨rfl, hi, hnot⟩ ih
  repeat (first | refine Runs.ctl rfl ?_ | refine Runs.region ?_ | with_reducible refine WO.nil ?_ | refine zo1 ?_ | refine zo2 ?_ | refine zo3 ?_ | refine zo4 ?_ | refine zo5 ?_ | refine zo6 ?_ | refine zo7 ?_ | refine zo8 ?_ | refine zo9 ?_ | refine zo10 ?_ | refine zo11 ?_ | refine zo12 ?_ | refine zo0 ?_)
  refine Runs.cond_dec rfl (fun hlt => ?_) (fun hge => ?_)
  · have hlt' : i < l.length := by omega
    obtain ⟨y, hget⟩ : ∃ y, l[i]? = some y := ⟨l[i], List.getElem?_eq_getElem hlt'⟩
    obtain ⟨b, p, cap', hv, hcap, hcell⟩ := hr.cell (ints_get hget)
    cases hv
    repeat (first | refine Runs.ctl rfl ?_ | refine Runs.region ?_ | with_reducible refine WO.nil ?_ | refine zo1 ?_ | refine zo2 ?_ | refine zo3 ?_ | refine zo4 ?_ | refine zo5 ?_ | refine zo6 ?_ | refine zo7 ?_ | refine zo8 ?_ | refine zo9 ?_ | refine zo10 ?_ | refine zo11 ?_ | refine zo12 ?_ | refine zo0 ?_)
    refine Runs.cond_dec rfl (fun heq => ?_) (fun hne => ?_)
    · repeat (first | refine Runs.ctl rfl ?_ | refine Runs.region ?_ | with_reducible refine WO.nil ?_ | refine zo1 ?_ | refine zo2 ?_ | refine zo3 ?_ | refine zo4 ?_ | refine zo5 ?_ | refine zo6 ?_ | refine zo7 ?_ | refine zo8 ?_ | refine zo9 ?_ | refine zo10 ?_ | refine zo11 ?_ | refine zo12 ?_ | refine zo0 ?_)
      refine Runs.ret Tryz.func111 (ret1 Tryz.results111 rfl) ⟨?_, rfl⟩
      have : x ∈ l := by
        have h1 : y = x := by omega
        rw [← h1]; exact List.mem_of_getElem? hget
      simp [this]
    · repeat (first | refine Runs.ctl rfl ?_ | refine Runs.region ?_ | with_reducible refine WO.nil ?_ | refine zo1 ?_ | refine zo2 ?_ | refine zo3 ?_ | refine zo4 ?_ | refine zo5 ?_ | refine zo6 ?_ | refine zo7 ?_ | refine zo8 ?_ | refine zo9 ?_ | refine zo10 ?_ | refine zo11 ?_ | refine zo12 ?_ | refine zo0 ?_)
      refine ih (i + 1) _ _ (by omega) ⟨rfl, rfl, rfl, rfl, rfl, trivial⟩ ⟨rfl, by omega, ?_⟩
      rw [List.take_succ_eq_append_getElem hlt']
      have : l[i] = y := by rw [List.getElem?_eq_getElem hlt'] at hget; cases hget; rfl
      simp only [List.mem_append, List.mem_singleton, this, not_or]
      exact ⟨hnot, by omega⟩
  · repeat (first | refine Runs.ctl rfl ?_ | refine Runs.region ?_ | with_reducible refine WO.nil ?_ | refine zo1 ?_ | refine zo2 ?_ | refine zo3 ?_ | refine zo4 ?_ | refine zo5 ?_ | refine zo6 ?_ | refine zo7 ?_ | refine zo8 ?_ | refine zo9 ?_ | refine zo10 ?_ | refine zo11 ?_ | refine zo12 ?_ | refine zo0 ?_)
    refine Runs.ret Tryz.func111 (ret1 Tryz.results111 rfl) ⟨?_, rfl⟩
    rw [List.take_of_length_le (by omega)] at hnot
    simp [hnot]

/-! number -/
def numAcc (acc : Nat) : List UInt8 → Option Nat
  | [] => some acc
  | c :: r => if c.toNat < 48 ∨ 57 < c.toNat then none else numAcc (10 * acc + (c.toNat - 48)) r
def numberS (w : List UInt8) : Option Nat := if w.length < 1 ∨ 4 < w.length ∨ (1 < w.length ∧ w[0]? = some 48) then none else numAcc 0 w

theorem numAcc_lt {i n : Nat} (h : n < 10 ^ i) {x : UInt8} (h1 : ¬ x.toNat < 48) (h2 : ¬ 57 < x.toNat) : 10 * n + (x.toNat - 48) < 10 ^ (i + 1) := by
  rw [Nat.pow_succ]; omega

set_option maxRecDepth 20000 in
set_option maxHeartbeats 800000 in
theorem number_ret (l : List UInt8) (h : Heap) (hl : l.length ≤ 16777216) : Ret Tryz.prog 107 #[.string (str l)] h fun r h' =>
    r = .tuple #[.int .i64 (((numberS l).getD 0 : Nat) : Int), .bool (numberS l).isSome] ∧ h' = h := by
  refine Ret.of_body Tryz.func107 rfl Tryz.ntmps107 rfl rfl ?_
  repeat (first | refine Runs.ctl rfl ?_ | refine Runs.region ?_ | with_reducible refine WO.nil ?_ | refine zo1 ?_ | refine zo2 ?_ | refine zo3 ?_ | refine zo4 ?_ | refine zo5 ?_ | refine zo6 ?_ | refine zo7 ?_ | refine zo8 ?_ | refine zo9 ?_ | refine zo10 ?_ | refine zo11 ?_ | refine zo12 ?_ | refine zo0 ?_)
  refine WO.join (fun env' h' => h = h' ∧ ∃ b, Sub [(0, .string (str l)), (23, .bool b)] env' ∧ (b = true ↔ (l.length < 1 ∨ 4 < l.length ∨ (1 < l.length ∧ l[0]? = some 48)))) ?_ ?_
  · refine WO.split 9 _ rfl (fun h1 => ?_) (fun h1 => ?_)
    · have h1 := of_decide_eq_true h1
      repeat (first | refine Runs.ctl rfl ?_ | refine Runs.region ?_ | with_reducible refine WO.nil ?_ | refine zo1 ?_ | refine zo2 ?_ | refine zo3 ?_ | refine zo4 ?_ | refine zo5 ?_ | refine zo6 ?_ | refine zo7 ?_ | refine zo8 ?_ | refine zo9 ?_ | refine zo10 ?_ | refine zo11 ?_ | refine zo12 ?_ | refine zo0 ?_)
      exact ⟨rfl, _, ⟨rfl, rfl, trivial⟩, ⟨fun _ => .inl (by omega), fun _ => rfl⟩⟩
    · have h1 := of_decide_eq_false h1
      repeat (first | refine Runs.ctl rfl ?_ | refine Runs.region ?_ | with_reducible refine WO.nil ?_ | refine zo1 ?_ | refine zo2 ?_ | refine zo3 ?_ | refine zo4 ?_ | refine zo5 ?_ | refine zo6 ?_ | refine zo7 ?_ | refine zo8 ?_ | refine zo9 ?_ | refine zo10 ?_ | refine zo11 ?_ | refine zo12 ?_ | refine zo0 ?_)
      refine WO.split 14 _ rfl (fun h2 => ?_) (fun h2 => ?_)
      · have h2 := of_decide_eq_true h2
        repeat (first | refine Runs.ctl rfl ?_ | refine Runs.region ?_ | with_reducible refine WO.nil ?_ | refine zo1 ?_ | refine zo2 ?_ | refine zo3 ?_ | refine zo4 ?_ | refine zo5 ?_ | refine zo6 ?_ | refine zo7 ?_ | refine zo8 ?_ | refine zo9 ?_ | refine zo10 ?_ | refine zo11 ?_ | refine zo12 ?_ | refine zo0 ?_)
        exact ⟨rfl, _, ⟨rfl, rfl, trivial⟩, ⟨fun _ => .inr (.inl (by omega)), fun _ => rfl⟩⟩
      · have h2 := of_decide_eq_false h2
        have hget : l[0]? = some l[0] := List.getElem?_eq_getElem (by omega)
        repeat (first | refine Runs.ctl rfl ?_ | refine Runs.region ?_ | with_reducible refine WO.nil ?_ | refine zo1 ?_ | refine zo2 ?_ | refine zo3 ?_ | refine zo4 ?_ | refine zo5 ?_ | refine zo6 ?_ | refine zo7 ?_ | refine zo8 ?_ | refine zo9 ?_ | refine zo10 ?_ | refine zo11 ?_ | refine zo12 ?_ | refine zo0 ?_)
        refine WO.split 18 _ rfl (fun h3 => ?_) (fun h3 => ?_)
        · have h3 := of_decide_eq_true h3
          repeat (first | refine Runs.ctl rfl ?_ | refine Runs.region ?_ | with_reducible refine WO.nil ?_ | refine zo1 ?_ | refine zo2 ?_ | refine zo3 ?_ | refine zo4 ?_ | refine zo5 ?_ | refine zo6 ?_ | refine zo7 ?_ | refine zo8 ?_ | refine zo9 ?_ | refine zo10 ?_ | refine zo11 ?_ | refine zo12 ?_ | refine zo0 ?_)
          refine ⟨rfl, _, ⟨rfl, rfl, trivial⟩, ?_⟩
          have e : (l[0] = 48) ↔ ((l[0].toNat : Int) = 48) := ⟨fun e => by rw [e]; rfl, fun e => UInt8.toNat.inj (by simpa using (show l[0].toNat = 48 by omega))⟩
          rw [hget, decide_eq_true_iff, Option.some.injEq, e]
          omega
        · have h3 := of_decide_eq_false h3
          repeat (first | refine Runs.ctl rfl ?_ | refine Runs.region ?_ | with_reducible refine WO.nil ?_ | refine zo1 ?_ | refine zo2 ?_ | refine zo3 ?_ | refine zo4 ?_ | refine zo5 ?_ | refine zo6 ?_ | refine zo7 ?_ | refine zo8 ?_ | refine zo9 ?_ | refine zo10 ?_ | refine zo11 ?_ | refine zo12 ?_ | refine zo0 ?_)
          exact ⟨rfl, _, ⟨rfl, rfl, trivial⟩, ⟨fun e => (by cases e), fun e => by omega⟩⟩
  rintro env' _ ⟨rfl, b, hsub, hb⟩
  refine Runs.sub hsub ?_
  repeat (first | refine Runs.ctl rfl ?_ | refine Runs.region ?_ | with_reducible refine WO.nil ?_ | refine zo1 ?_ | refine zo2 ?_ | refine zo3 ?_ | refine zo4 ?_ | refine zo5 ?_ | refine zo6 ?_ | refine zo7 ?_ | refine zo8 ?_ | refine zo9 ?_ | refine zo10 ?_ | refine zo11 ?_ | refine zo12 ?_ | refine zo0 ?_)
  refine Runs.cond rfl (fun hbt => ?_) (fun hbf => ?_)
  · repeat (first | refine Runs.ctl rfl ?_ | refine Runs.region ?_ | with_reducible refine WO.nil ?_ | refine zo1 ?_ | refine zo2 ?_ | refine zo3 ?_ | refine zo4 ?_ | refine zo5 ?_ | refine zo6 ?_ | refine zo7 ?_ | refine zo8 ?_ | refine zo9 ?_ | refine zo10 ?_ | refine zo11 ?_ | refine zo12 ?_ | refine zo0 ?_)
    refine Runs.ret Tryz.func107 (ret2 Tryz.results107 rfl rfl) ⟨?_, rfl⟩
    have : numberS l = none := by unfold numberS; rw [if_pos (hb.1 hbt)]
    rw [this]; rfl
  · have hns : numberS l = numAcc 0 l := by unfold numberS; rw [if_neg]; rw [← hb, hbf]; simp
    have hlen : l.length ≤ 4 := by
      have : ¬ (l.length < 1 ∨ 4 < l.length ∨ (1 < l.length ∧ l[0]? = some 48)) := by rw [← hb, hbf]; simp
      omega
    repeat (first | refine Runs.ctl rfl ?_ | refine Runs.region ?_ | with_reducible refine WO.nil ?_ | refine zo1 ?_ | refine zo2 ?_ | refine zo3 ?_ | refine zo4 ?_ | refine zo5 ?_ | refine zo6 ?_ | refine zo7 ?_ | refine zo8 ?_ | refine zo9 ?_ | refine zo10 ?_ | refine zo11 ?_ | refine zo12 ?_ | refine zo0 ?_)
    refine Runs.loop (X := Nat × Nat) (fun x => [(0, .string (str l)), (4, .int .i64 (x.2 : Int)), (5, .int .i64 (x.1 : Int))])
      (fun x h' => h = h' ∧ x.1 ≤ l.length ∧ x.2 < 10 ^ x.1 ∧ numAcc 0 l = numAcc x.2 (l.drop x.1)) (fun x => l.length - x.1) (0, 0) ⟨rfl, rfl, rfl, trivial⟩ ⟨rfl, Nat.zero_le _, by simp, by simp⟩ ?_
    rintro ⟨i, m⟩ _ ⟨rfl, hi, hm, hspec⟩ ih
    dsimp only at hi hm hspec ih ⊢
    have hm' : m < 10000 := Nat.lt_of_lt_of_le hm (Nat.pow_le_pow_right (by omega) (by omega : i ≤ 4))
    repeat (first | refine Runs.ctl rfl ?_ | refine Runs.region ?_ | with_reducible refine WO.nil ?_ | refine zo1 ?_ | refine zo2 ?_ | refine zo3 ?_ | refine zo4 ?_ | refine zo5 ?_ | refine zo6 ?_ | refine zo7 ?_ | refine zo8 ?_ | refine zo9 ?_ | refine zo10 ?_ | refine zo11 ?_ | refine zo12 ?_ | refine zo0 ?_)
    refine Runs.cond_dec rfl (fun hlt => ?_) (fun hge => ?_)
    · have hlt' : i < l.length := by omega
      have hget : l[i]? = some l[i] := List.getElem?_eq_getElem hlt'
      have hx := UInt8.toNat_lt l[i]
      have hstep : numAcc m (l.drop i) = if l[i].toNat < 48 ∨ 57 < l[i].toNat then none else numAcc (10 * m + (l[i].toNat - 48)) (l.drop (i + 1)) := by
        rw [List.drop_eq_getElem_cons hlt']; rfl
      generalize hxe : l[i] = x at *
      repeat (first | refine Runs.ctl rfl ?_ | refine Runs.region ?_ | with_reducible refine WO.nil ?_ | refine zo1 ?_ | refine zo2 ?_ | refine zo3 ?_ | refine zo4 ?_ | refine zo5 ?_ | refine zo6 ?_ | refine zo7 ?_ | refine zo8 ?_ | refine zo9 ?_ | refine zo10 ?_ | refine zo11 ?_ | refine zo12 ?_ | refine zo0 ?_)
      refine WO.join (fun env' h' => h = h' ∧ ∃ b, Sub [(0, .string (str l)), (4, .int .i64 (m : Int)), (5, .int .i64 (i : Int)), (39, .bool b)] env' ∧ (b = true ↔ (x.toNat < 48 ∨ 57 < x.toNat))) ?_ ?_
      · refine WO.split 34 _ rfl (fun h1 => ?_) (fun h1 => ?_)
        · have h1 := of_decide_eq_true h1
          repeat (first | refine Runs.ctl rfl ?_ | refine Runs.region ?_ | with_reducible refine WO.nil ?_ | refine zo1 ?_ | refine zo2 ?_ | refine zo3 ?_ | refine zo4 ?_ | refine zo5 ?_ | refine zo6 ?_ | refine zo7 ?_ | refine zo8 ?_ | refine zo9 ?_ | refine zo10 ?_ | refine zo11 ?_ | refine zo12 ?_ | refine zo0 ?_)
          exact ⟨rfl, _, ⟨rfl, rfl, rfl, rfl, trivial⟩, by first | (rw [decide_eq_true_iff]; omega) | exact ⟨fun _ => by omega, fun _ => rfl⟩⟩
        · have h1 := of_decide_eq_false h1
          repeat (first | refine Runs.ctl rfl ?_ | refine Runs.region ?_ | with_reducible refine WO.nil ?_ | refine zo1 ?_ | refine zo2 ?_ | refine zo3 ?_ | refine zo4 ?_ | refine zo5 ?_ | refine zo6 ?_ | refine zo7 ?_ | refine zo8 ?_ | refine zo9 ?_ | refine zo10 ?_ | refine zo11 ?_ | refine zo12 ?_ | refine zo0 ?_)
          exact ⟨rfl, _, ⟨rfl, rfl, rfl, rfl, trivial⟩, by first | (rw [decide_eq_true_iff]; omega) | exact ⟨fun _ => by omega, fun _ => rfl⟩⟩
      rintro env' _ ⟨rfl, b, hsub, hb⟩
      refine Runs.sub hsub ?_
      repeat (first | refine Runs.ctl rfl ?_ | refine Runs.region ?_ | with_reducible refine WO.nil ?_ | refine zo1 ?_ | refine zo2 ?_ | refine zo3 ?_ | refine zo4 ?_ | refine zo5 ?_ | refine zo6 ?_ | refine zo7 ?_ | refine zo8 ?_ | refine zo9 ?_ | refine zo10 ?_ | refine zo11 ?_ | refine zo12 ?_ | refine zo0 ?_)
      refine Runs.cond rfl (fun hbt => ?_) (fun hbf => ?_)
      · repeat (first | refine Runs.ctl rfl ?_ | refine Runs.region ?_ | with_reducible refine WO.nil ?_ | refine zo1 ?_ | refine zo2 ?_ | refine zo3 ?_ | refine zo4 ?_ | refine zo5 ?_ | refine zo6 ?_ | refine zo7 ?_ | refine zo8 ?_ | refine zo9 ?_ | refine zo10 ?_ | refine zo11 ?_ | refine zo12 ?_ | refine zo0 ?_)
        refine Runs.ret Tryz.func107 (ret2 Tryz.results107 rfl rfl) ⟨?_, rfl⟩
        have : numberS l = none := by rw [hns, hspec, hstep, if_pos (hb.1 hbt)]
        rw [this]; rfl
      · have hnb : ¬ (x.toNat < 48 ∨ 57 < x.toNat) := by rw [← hb, hbf]; simp
        repeat (first | refine Runs.ctl rfl ?_ | refine Runs.region ?_ | with_reducible refine WO.nil ?_ | refine zo1 ?_ | refine zo2 ?_ | refine zo3 ?_ | refine zo4 ?_ | refine zo5 ?_ | refine zo6 ?_ | refine zo7 ?_ | refine zo8 ?_ | refine zo9 ?_ | refine zo10 ?_ | refine zo11 ?_ | refine zo12 ?_ | refine zo0 ?_)
        refine ih (i + 1, 10 * m + (x.toNat - 48)) _ _ (by dsimp only; omega) ⟨rfl, ?_, rfl, trivial⟩ ⟨rfl, by dsimp only; omega, numAcc_lt hm (by omega) (by omega), ?_⟩
        · show some _ = some _
          congr 2
          omega
        · dsimp only; rw [hspec, hstep, if_neg hnb]
    · repeat (first | refine Runs.ctl rfl ?_ | refine Runs.region ?_ | with_reducible refine WO.nil ?_ | refine zo1 ?_ | refine zo2 ?_ | refine zo3 ?_ | refine zo4 ?_ | refine zo5 ?_ | refine zo6 ?_ | refine zo7 ?_ | refine zo8 ?_ | refine zo9 ?_ | refine zo10 ?_ | refine zo11 ?_ | refine zo12 ?_ | refine zo0 ?_)
      refine Runs.ret Tryz.func107 (ret2 Tryz.results107 rfl rfl) ⟨?_, rfl⟩
      have : numberS l = some m := by rw [hns, hspec, List.drop_eq_nil_of_le (by omega)]; rfl
      rw [this]; rfl

end Go.Proofs.YtdglhhegmabeoaaGreatDoor
