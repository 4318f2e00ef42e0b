import Derived.Test.YtdglhhegmabeoaaGreatDoorT11
namespace Go.Proofs.YtdglhhegmabeoaaGreatDoor
open Go Go.Pat Go.Proofs

theorem plain74 : Plain Tryz.prog 76 := ⟨_, Tryz.func76, by decide +kernel, by rfl⟩
theorem plain71 : Plain Tryz.prog 73 := ⟨_, Tryz.func73, by decide +kernel, by rfl⟩

def hasS (ls : List LineD) (r : RefD) : Bool := decide (r.p = 0) || ls.any fun l => decide (l.ref = r)

set_option maxRecDepth 20000 in
set_option maxHeartbeats 800000 in
theorem has_ret (ls : List LineD) (r : RefD) (v : Value) (h : Heap) (hr : Rd h 7 v ls.length (linesC ls)) (hl : ls.length ≤ 1000000) : Ret Tryz.prog 76 #[v, .agg r.cells.toArray] h fun w h' => Ext h h' ∧ w = .bool (hasS ls r) := by
  obtain ⟨ad, cap, hv⟩ := hr.form
  subst hv
  refine Ret.of_body Tryz.func76 rfl Tryz.ntmps76 rfl rfl ?_
  repeat (first | refine Runs.ctl rfl ?_ | refine Runs.region ?_ | with_reducible refine WO.nil ?_ | refine zo1 ?_ | refine zo2 ?_ | refine zo3 ?_ | refine zo4 ?_ | refine zo5 ?_ | refine zo6 ?_ | refine zo7 ?_ | refine zo8 ?_ | refine zo9 ?_ | refine zo10 ?_ | refine zo11 ?_ | refine zo12 ?_ | refine zo0 ?_)
  refine WO.box rfl rfl rfl rfl rfl rfl fun h1 hb1 hx1 hs1 => ?_
  have g0 := hb1.cell (j := 0) rfl
  repeat (first | refine Runs.ctl rfl ?_ | refine Runs.region ?_ | with_reducible refine WO.nil ?_ | refine zo1 ?_ | refine zo2 ?_ | refine zo3 ?_ | refine zo4 ?_ | refine zo5 ?_ | refine zo6 ?_ | refine zo7 ?_ | refine zo8 ?_ | refine zo9 ?_ | refine zo10 ?_ | refine zo11 ?_ | refine zo12 ?_ | refine zo0 ?_)
  refine Runs.cond_dec rfl (fun q1 => ?_) (fun q1 => ?_)
  · repeat (first | refine Runs.ctl rfl ?_ | refine Runs.region ?_ | with_reducible refine WO.nil ?_ | refine zo1 ?_ | refine zo2 ?_ | refine zo3 ?_ | refine zo4 ?_ | refine zo5 ?_ | refine zo6 ?_ | refine zo7 ?_ | refine zo8 ?_ | refine zo9 ?_ | refine zo10 ?_ | refine zo11 ?_ | refine zo12 ?_ | refine zo0 ?_)
    refine Runs.ret Tryz.func76 (ret1 Tryz.results76 rfl) ⟨hx1, ?_⟩
    have e : r.p = 0 := by omega
    simp [hasS, e]
  · have hz : ¬ r.p = 0 := by omega
    repeat (first | refine Runs.ctl rfl ?_ | refine Runs.region ?_ | with_reducible refine WO.nil ?_ | refine zo1 ?_ | refine zo2 ?_ | refine zo3 ?_ | refine zo4 ?_ | refine zo5 ?_ | refine zo6 ?_ | refine zo7 ?_ | refine zo8 ?_ | refine zo9 ?_ | refine zo10 ?_ | refine zo11 ?_ | refine zo12 ?_ | refine zo0 ?_)
    refine Runs.loop (X := Nat) (fun i => [(3, .pointer (some ⟨h.size, 0, none⟩)), (10, .slice ad ls.length cap), (11, .int .i64 (ls.length : Int)), (12, .int .i64 (i : Int))])
      (fun i h' => Ext h1 h' ∧ i ≤ ls.length ∧ ∀ l ∈ ls.take i, l.ref ≠ r) (fun i => ls.length - i) 0 ⟨rfl, rfl, rfl, rfl, trivial⟩ ⟨Fr.refl _ _, Nat.zero_le _, by simp⟩ ?_
    rintro i h2 ⟨hx2, hi, hall⟩ ih
    repeat (first | refine Runs.ctl rfl ?_ | refine Runs.region ?_ | with_reducible refine WO.nil ?_ | refine zo1 ?_ | refine zo2 ?_ | refine zo3 ?_ | refine zo4 ?_ | refine zo5 ?_ | refine zo6 ?_ | refine zo7 ?_ | refine zo8 ?_ | refine zo9 ?_ | refine zo10 ?_ | refine zo11 ?_ | refine zo12 ?_ | refine zo0 ?_)
    refine Runs.cond_dec rfl (fun hlt => ?_) (fun hge => ?_)
    · have hlt' : i < ls.length := by omega
      have hget : ls[i]? = some ls[i] := List.getElem?_eq_getElem hlt'
      have hmem : ls[i] ∈ ls := List.getElem_mem hlt'
      have hsn : ls.take (i + 1) = ls.take i ++ [ls[i]] := List.take_succ_eq_append_getElem hlt'
      generalize ls[i] = l at *
      obtain ⟨b0, p0, cap0, hv, _, hcells⟩ := (hr.ext (hx1.trans hx2)).pos (by omega)
      cases hv
      have hcc := linesC_get hcells hget
      repeat (first | refine Runs.ctl rfl ?_ | refine Runs.region ?_ | with_reducible refine WO.nil ?_ | refine zo1 ?_ | refine zo2 ?_ | refine zo3 ?_ | refine zo4 ?_ | refine zo5 ?_ | refine zo6 ?_ | refine zo7 ?_ | refine zo8 ?_ | refine zo9 ?_ | refine zo10 ?_ | refine zo11 ?_ | refine zo12 ?_ | refine zo0 ?_)
      refine WO.var tab_ok rfl rfl rfl rfl rfl rfl rfl rfl rfl rfl rfl rfl l.one rfl fun h4 hb4 hx4 hs4 => ?_
      have e1 : Cells h4 h2.size (0 + 0) l.ref.cells := hb4.cells.take 2
      have hb5 := (hb1.ext hx2).ext hx4
      have e2 : Cells h4 h.size 0 r.cells := hb5.cells
      repeat (first | refine Runs.ctl rfl ?_ | refine Runs.region ?_ | with_reducible refine WO.nil ?_ | refine zo1 ?_ | refine zo2 ?_ | refine zo3 ?_ | refine zo4 ?_ | refine zo5 ?_ | refine zo6 ?_ | refine zo7 ?_ | refine zo8 ?_ | refine zo9 ?_ | refine zo10 ?_ | refine zo11 ?_ | refine zo12 ?_ | refine zo0 ?_)
      refine WO.val (ov_eql2 two107 rfl rfl rfl) rfl rfl rfl ?_
      repeat (first | refine Runs.ctl rfl ?_ | refine Runs.region ?_ | with_reducible refine WO.nil ?_ | refine zo1 ?_ | refine zo2 ?_ | refine zo3 ?_ | refine zo4 ?_ | refine zo5 ?_ | refine zo6 ?_ | refine zo7 ?_ | refine zo8 ?_ | refine zo9 ?_ | refine zo10 ?_ | refine zo11 ?_ | refine zo12 ?_ | refine zo0 ?_)
      refine Runs.cond_dec rfl (fun heq => ?_) (fun hne => ?_)
      · repeat (first | refine Runs.ctl rfl ?_ | refine Runs.region ?_ | with_reducible refine WO.nil ?_ | refine zo1 ?_ | refine zo2 ?_ | refine zo3 ?_ | refine zo4 ?_ | refine zo5 ?_ | refine zo6 ?_ | refine zo7 ?_ | refine zo8 ?_ | refine zo9 ?_ | refine zo10 ?_ | refine zo11 ?_ | refine zo12 ?_ | refine zo0 ?_)
        refine Runs.ret Tryz.func76 (ret1 Tryz.results76 rfl) ⟨hx1.trans (hx2.trans hx4), ?_⟩
        have e : l.ref = r := by
          rcases hl1 : l.ref with ⟨a1, a2⟩; rcases r with ⟨a3, a4⟩
          rw [hl1] at heq; simp at heq; simp; omega
        have : (ls.any fun l => decide (l.ref = r)) = true := List.any_eq_true.2 ⟨l, hmem, by simp [e]⟩
        simp [hasS, this]
      · repeat (first | refine Runs.ctl rfl ?_ | refine Runs.region ?_ | with_reducible refine WO.nil ?_ | refine zo1 ?_ | refine zo2 ?_ | refine zo3 ?_ | refine zo4 ?_ | refine zo5 ?_ | refine zo6 ?_ | refine zo7 ?_ | refine zo8 ?_ | refine zo9 ?_ | refine zo10 ?_ | refine zo11 ?_ | refine zo12 ?_ | refine zo0 ?_)
        refine ih (i + 1) _ _ (by omega) ⟨rfl, rfl, rfl, rfl, trivial⟩ ⟨hx2.trans hx4, by omega, fun l' hl' => ?_⟩
        rw [hsn] at hl'
        rcases List.mem_append.1 hl' with e | e
        · exact hall l' e
        · simp at e; subst e
          intro e; apply hne; rw [e]; simp
    · repeat (first | refine Runs.ctl rfl ?_ | refine Runs.region ?_ | with_reducible refine WO.nil ?_ | refine zo1 ?_ | refine zo2 ?_ | refine zo3 ?_ | refine zo4 ?_ | refine zo5 ?_ | refine zo6 ?_ | refine zo7 ?_ | refine zo8 ?_ | refine zo9 ?_ | refine zo10 ?_ | refine zo11 ?_ | refine zo12 ?_ | refine zo0 ?_)
      refine Runs.ret Tryz.func76 (ret1 Tryz.results76 rfl) ⟨hx1.trans hx2, ?_⟩
      rw [List.take_of_length_le (by omega)] at hall
      have : (ls.any fun l => decide (l.ref = r)) = false := by rw [List.any_eq_false]; intro l hl; simpa using hall l hl
      simp [hasS, hz, this]

/-! ### What is read is small -/
theorem lineS_ok {w edge : List UInt8} {r : RefD} (h : lineS w edge = some r) : RefD.ok r := by
  unfold lineS at h
  split at h
  · cases h; split <;> exact ⟨by decide, by decide, fun _ => by decide⟩
  · split at h
    · split at h
      · rename_i h1 h2
        split at h
        · rename_i hp
          cases h
          exact ⟨numberS_lt h1, numberS_lt h2, fun e => by dsimp only at e; omega⟩
        · cases h
      · cases h
    · cases h
theorem ref0_ok : RefD.ok ⟨0, 0⟩ := ⟨by decide, by decide, fun _ => by decide⟩
theorem changeS_ok {s : List UInt8} {c : ChangeD} (h : changeS s = some c) : ChangeD.ok c := by
  unfold changeS at h
  split at h
  · split at h
    · split at h
      · split at h
        · rename_i h1 h2
          split at h
          · rename_i ht
            cases h
            refine ⟨lineS_ok h1, lineS_ok h2, ?_⟩
            unfold textOk at ht
            simp only [Bool.and_eq_true, decide_eq_true_eq] at ht
            exact ht.1
          · cases h
        · cases h
      · cases h
    · split at h
      · split at h
        · split at h
          · rename_i h1
            cases h
            exact ⟨lineS_ok h1, ref0_ok, by simp⟩
          · cases h
        · cases h
      · split at h
        · split at h
          · split at h
            · rename_i h1 h2
              cases h
              exact ⟨lineS_ok h1, lineS_ok h2, by simp⟩
            · cases h
          · cases h
        · cases h
  · cases h
theorem nameS_lt {w : List UInt8} {n : Nat} (h : nameS w = some n) : n < 10000 ∧ n ≠ 0 := by
  unfold nameS at h
  split at h
  · rename_i h1
    split at h
    · cases h
    · cases h; exact ⟨numberS_lt h1, by assumption⟩
  · cases h
theorem allSome_mem {α β : Type} {f : α → Option β} {l : List α} {bs : List β} (h : allSome f l = some bs) : ∀ b ∈ bs, ∃ a ∈ l, f a = some b := by
  induction l generalizing bs with
  | nil => simp [allSome] at h; subst h; simp
  | cons x l ih =>
    simp only [allSome] at h
    cases hx : f x with
    | none => simp [hx] at h
    | some y =>
      simp only [hx] at h
      cases hl : allSome f l with
      | none => simp [hl] at h
      | some ys =>
        simp only [hl] at h
        cases h
        intro b hb
        rcases List.mem_cons.1 hb with rfl | hb
        · exact ⟨x, by simp, hx⟩
        · obtain ⟨a, ha, he⟩ := ih hl b hb
          exact ⟨a, by simp [ha], he⟩

theorem parse_ok {s : List UInt8} {p : PatchD} (h : parseS s = some p) : PatchD.ok p ∧ p.id ≠ 0 := by
  unfold parseS at h
  split at h
  · cases h
  · split at h
    · split at h
      · cases h
      · rename_i hr
        split at h
        · split at h
          · split at h
            · cases h
            · rename_i hn
              split at h
              · cases h
              · rename_i h1
                split at h
                · cases h
                · rename_i h2
                  split at h
                  · cases h
                  · rename_i h3
                    cases h
                    have l2 := allSome_length _ h2
                    have l3 := allSome_length _ h3
                    refine ⟨⟨(nameS_lt h1).1, fun n hn => ?_, fun c hc => ?_, ?_, ?_⟩, (nameS_lt h1).2⟩
                    · obtain ⟨a, _, ha⟩ := allSome_mem h2 n hn; exact (nameS_lt ha).1
                    · obtain ⟨a, _, ha⟩ := allSome_mem h3 c hc; exact changeS_ok ha
                    · dsimp only; rw [l3]; simp; omega
                    · dsimp only; rw [l2]; omega
          · cases h
        · cases h
    · cases h

end Go.Proofs.YtdglhhegmabeoaaGreatDoor
