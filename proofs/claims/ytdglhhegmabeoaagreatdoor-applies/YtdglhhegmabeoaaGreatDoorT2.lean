import Derived.Test.YtdglhhegmabeoaaGreatDoorT1b
namespace Go.Proofs.YtdglhhegmabeoaaGreatDoor
open Go Go.Pat Go.Proofs

theorem plain101 : Plain Tryz.prog 106 := ⟨_, Tryz.func106, by decide +kernel, by rfl⟩
theorem plain102 : Plain Tryz.prog 107 := ⟨_, Tryz.func107, by decide +kernel, by rfl⟩

def lineS (w edge : List UInt8) : Option RefD :=
  if edge ≠ [] ∧ w = edge then some (if edge = [94] then ⟨0, 0⟩ else ⟨0, 1⟩) else
  match splitL 46 w with
  | [a, b] => match numberS a, numberS b with
    | some p, some i => if 0 < p then some ⟨p, i⟩ else none
    | _, _ => none
  | _ => none

theorem splitL_len (c : UInt8) (l : List UInt8) : ((splitL c l).map fun p => p.length + 1).sum = l.length + 1 := by
  induction l with
  | nil => simp [splitL]
  | cons x r ih =>
    simp only [splitL]
    split
    · simp [ih]; omega
    · split
      · rename_i p ps h; rw [h] at ih; simp at ih ⊢; omega
      · rename_i h; exact absurd h (splitL_ne c r)

set_option maxRecDepth 20000 in
set_option maxHeartbeats 800000 in
theorem line_ret (wd edge : List UInt8) (h : Heap) (hl : wd.length ≤ 16777216) : Ret Tryz.prog 138 #[.string (str wd), .string (str edge)] h fun v h' =>
    Ext h h' ∧ ∃ r : RefD, v = .tuple #[.agg r.cells.toArray, .bool (lineS wd edge).isSome] ∧ ∀ r', lineS wd edge = some r' → r = r' := by
  refine Ret.of_body Tryz.func138 rfl Tryz.ntmps138 rfl rfl ?_
  repeat (first | refine Runs.ctl rfl ?_ | refine Runs.region ?_ | with_reducible refine WO.nil ?_ | refine zo1 ?_ | refine zo2 ?_ | refine zo3 ?_ | refine zo4 ?_ | refine zo5 ?_ | refine zo6 ?_ | refine zo7 ?_ | refine zo8 ?_ | refine zo9 ?_ | refine zo10 ?_ | refine zo11 ?_ | refine zo12 ?_ | refine zo0 ?_)
  refine WO.alloc tab_ok rfl rfl rfl rfl rfl rfl fun h1 hb1 hx1 hs1 => ?_
  repeat (first | refine Runs.ctl rfl ?_ | refine Runs.region ?_ | with_reducible refine WO.nil ?_ | refine zo1 ?_ | refine zo2 ?_ | refine zo3 ?_ | refine zo4 ?_ | refine zo5 ?_ | refine zo6 ?_ | refine zo7 ?_ | refine zo8 ?_ | refine zo9 ?_ | refine zo10 ?_ | refine zo11 ?_ | refine zo12 ?_ | refine zo0 ?_)
  refine WO.join (fun env' h' => h1 = h' ∧ ∃ b, Sub [(0, .string (str wd)), (1, .string (str edge)), (4, .pointer (some ⟨h.size, 0, none⟩)), (17, .bool b)] env' ∧ (b = true ↔ (edge ≠ [] ∧ wd = edge))) ?_ ?_
  · refine WO.split 13 _ rfl (fun q1 => ?_) (fun q1 => ?_)
    · have q1 : ¬ edge = [] := by simpa using q1
      repeat (first | refine Runs.ctl rfl ?_ | refine Runs.region ?_ | with_reducible refine WO.nil ?_ | refine zo1 ?_ | refine zo2 ?_ | refine zo3 ?_ | refine zo4 ?_ | refine zo5 ?_ | refine zo6 ?_ | refine zo7 ?_ | refine zo8 ?_ | refine zo9 ?_ | refine zo10 ?_ | refine zo11 ?_ | refine zo12 ?_ | refine zo0 ?_)
      exact ⟨rfl, _, ⟨rfl, rfl, rfl, rfl, trivial⟩, by simp [q1]⟩
    · have q1 : edge = [] := by simpa using q1
      repeat (first | refine Runs.ctl rfl ?_ | refine Runs.region ?_ | with_reducible refine WO.nil ?_ | refine zo1 ?_ | refine zo2 ?_ | refine zo3 ?_ | refine zo4 ?_ | refine zo5 ?_ | refine zo6 ?_ | refine zo7 ?_ | refine zo8 ?_ | refine zo9 ?_ | refine zo10 ?_ | refine zo11 ?_ | refine zo12 ?_ | refine zo0 ?_)
      exact ⟨rfl, _, ⟨rfl, rfl, rfl, rfl, trivial⟩, by simp [q1]⟩
  rintro env' _ ⟨rfl, b, hsub, hb⟩
  refine Runs.sub hsub ?_
  repeat (first | refine Runs.ctl rfl ?_ | refine Runs.region ?_ | with_reducible refine WO.nil ?_ | refine zo1 ?_ | refine zo2 ?_ | refine zo3 ?_ | refine zo4 ?_ | refine zo5 ?_ | refine zo6 ?_ | refine zo7 ?_ | refine zo8 ?_ | refine zo9 ?_ | refine zo10 ?_ | refine zo11 ?_ | refine zo12 ?_ | refine zo0 ?_)
  refine Runs.cond rfl (fun hbt => ?_) (fun hbf => ?_)
  · have hb' := hb.1 hbt
    repeat (first | refine Runs.ctl rfl ?_ | refine Runs.region ?_ | with_reducible refine WO.nil ?_ | refine zo1 ?_ | refine zo2 ?_ | refine zo3 ?_ | refine zo4 ?_ | refine zo5 ?_ | refine zo6 ?_ | refine zo7 ?_ | refine zo8 ?_ | refine zo9 ?_ | refine zo10 ?_ | refine zo11 ?_ | refine zo12 ?_ | refine zo0 ?_)
    refine Runs.cond_dec rfl (fun q2 => ?_) (fun q2 => ?_)
    · repeat (first | refine Runs.ctl rfl ?_ | refine Runs.region ?_ | with_reducible refine WO.nil ?_ | refine zo1 ?_ | refine zo2 ?_ | refine zo3 ?_ | refine zo4 ?_ | refine zo5 ?_ | refine zo6 ?_ | refine zo7 ?_ | refine zo8 ?_ | refine zo9 ?_ | refine zo10 ?_ | refine zo11 ?_ | refine zo12 ?_ | refine zo0 ?_)
      refine WO.put tab_ok rfl rfl rfl rfl rfl rfl rfl rfl (one2 _ _) hb1 rfl fun h2 hb2 hx2 hs2 => ?_
      repeat (first | refine Runs.ctl rfl ?_ | refine Runs.region ?_ | with_reducible refine WO.nil ?_ | refine zo1 ?_ | refine zo2 ?_ | refine zo3 ?_ | refine zo4 ?_ | refine zo5 ?_ | refine zo6 ?_ | refine zo7 ?_ | refine zo8 ?_ | refine zo9 ?_ | refine zo10 ?_ | refine zo11 ?_ | refine zo12 ?_ | refine zo0 ?_)
      refine Runs.ret Tryz.func138 (retc tab_ok Tryz.results138 rfl rfl rfl rfl rfl hb2.cells) ⟨hx1.trans_new (hx2.mono (by intro k _ e; right; omega)), ⟨0, 0⟩, ?_, ?_⟩
      · simp [lineS, hb', q2, RefD.cells]
      · intro r' e; simp [lineS, hb', q2] at e; exact e
    · repeat (first | refine Runs.ctl rfl ?_ | refine Runs.region ?_ | with_reducible refine WO.nil ?_ | refine zo1 ?_ | refine zo2 ?_ | refine zo3 ?_ | refine zo4 ?_ | refine zo5 ?_ | refine zo6 ?_ | refine zo7 ?_ | refine zo8 ?_ | refine zo9 ?_ | refine zo10 ?_ | refine zo11 ?_ | refine zo12 ?_ | refine zo0 ?_)
      refine WO.put tab_ok rfl rfl rfl rfl rfl rfl rfl rfl (one2 _ _) hb1 rfl fun h2 hb2 hx2 hs2 => ?_
      repeat (first | refine Runs.ctl rfl ?_ | refine Runs.region ?_ | with_reducible refine WO.nil ?_ | refine zo1 ?_ | refine zo2 ?_ | refine zo3 ?_ | refine zo4 ?_ | refine zo5 ?_ | refine zo6 ?_ | refine zo7 ?_ | refine zo8 ?_ | refine zo9 ?_ | refine zo10 ?_ | refine zo11 ?_ | refine zo12 ?_ | refine zo0 ?_)
      refine Runs.ret Tryz.func138 (retc tab_ok Tryz.results138 rfl rfl rfl rfl rfl hb2.cells) ⟨hx1.trans_new (hx2.mono (by intro k _ e; right; omega)), ⟨0, 1⟩, ?_, ?_⟩
      · simp [lineS, hb', q2, RefD.cells]
      · intro r' e; simp [lineS, hb', q2] at e; exact e
  · have hnb : ¬ (edge ≠ [] ∧ wd = edge) := by rw [← hb, hbf]; simp
    have hls : lineS wd edge = match splitL 46 wd with
      | [a, b] => match numberS a, numberS b with
        | some p, some i => if 0 < p then some ⟨p, i⟩ else none
        | _, _ => none
      | _ => none := by unfold lineS; rw [if_neg hnb]
    repeat (first | refine Runs.ctl rfl ?_ | refine Runs.region ?_ | with_reducible refine WO.nil ?_ | refine zo1 ?_ | refine zo2 ?_ | refine zo3 ?_ | refine zo4 ?_ | refine zo5 ?_ | refine zo6 ?_ | refine zo7 ?_ | refine zo8 ?_ | refine zo9 ?_ | refine zo10 ?_ | refine zo11 ?_ | refine zo12 ?_ | refine zo0 ?_)
    refine WO.call rfl rfl rfl rfl plain101 rfl (split_ret wd 46 _ hl) fun v h2 ⟨hx2, ho2, hm2⟩ => ?_
    obtain ⟨ad, cap, hv⟩ := ho2.rd.form
    subst hv
    have hb2 := hb1.ext hx2
    repeat (first | refine Runs.ctl rfl ?_ | refine Runs.region ?_ | with_reducible refine WO.nil ?_ | refine zo1 ?_ | refine zo2 ?_ | refine zo3 ?_ | refine zo4 ?_ | refine zo5 ?_ | refine zo6 ?_ | refine zo7 ?_ | refine zo8 ?_ | refine zo9 ?_ | refine zo10 ?_ | refine zo11 ?_ | refine zo12 ?_ | refine zo0 ?_)
    refine Runs.cond_ndec rfl (fun q2 => ?_) (fun q2 => ?_)
    · repeat (first | refine Runs.ctl rfl ?_ | refine Runs.region ?_ | with_reducible refine WO.nil ?_ | refine zo1 ?_ | refine zo2 ?_ | refine zo3 ?_ | refine zo4 ?_ | refine zo5 ?_ | refine zo6 ?_ | refine zo7 ?_ | refine zo8 ?_ | refine zo9 ?_ | refine zo10 ?_ | refine zo11 ?_ | refine zo12 ?_ | refine zo0 ?_)
      refine WO.put tab_ok rfl rfl rfl rfl rfl rfl rfl rfl (one2 _ _) hb2 rfl fun h3 hb3 hx3 hs3 => ?_
      repeat (first | refine Runs.ctl rfl ?_ | refine Runs.region ?_ | with_reducible refine WO.nil ?_ | refine zo1 ?_ | refine zo2 ?_ | refine zo3 ?_ | refine zo4 ?_ | refine zo5 ?_ | refine zo6 ?_ | refine zo7 ?_ | refine zo8 ?_ | refine zo9 ?_ | refine zo10 ?_ | refine zo11 ?_ | refine zo12 ?_ | refine zo0 ?_)
      have hnone : lineS wd edge = none := by
        rw [hls]
        split
        · rename_i a b e; rw [e] at q2; simp at q2
        · rfl
      refine Runs.ret Tryz.func138 (retc tab_ok Tryz.results138 rfl rfl rfl rfl rfl hb3.cells) ⟨(hx1.trans hx2).trans_new (hx3.mono (by intro k _ e; right; omega)), ⟨0, 0⟩, ?_, ?_⟩
      · rw [hnone]; simp [RefD.cells]
      · intro r' e; rw [hnone] at e; cases e
    · obtain ⟨a, b', hab⟩ : ∃ a b', splitL 46 wd = [a, b'] := by
        match hq : splitL 46 wd, q2 with
        | [a, b'], _ => exact ⟨a, b', rfl⟩
        | [], q2 => simp at q2
        | [a], q2 => simp at q2
        | a :: b :: c :: r, q2 => simp at q2; omega
      rw [hab] at ho2 hls
      have hla : a.length ≤ 16777216 ∧ b'.length ≤ 16777216 := by
        have := splitL_len 46 wd
        rw [hab] at this
        simp at this; omega
      rw [hab]
      obtain ⟨b0, p0, cap', hv, hcap, hc0⟩ := ho2.rd.cell (strs_get (i := 0) (x := a) rfl)
      obtain ⟨b1, p1, cap1, hv1, hcap1, hc1⟩ := ho2.rd.cell (strs_get (i := 1) (x := b') rfl)
      cases hv
      cases hv1
      repeat (first | refine Runs.ctl rfl ?_ | refine Runs.region ?_ | with_reducible refine WO.nil ?_ | refine zo1 ?_ | refine zo2 ?_ | refine zo3 ?_ | refine zo4 ?_ | refine zo5 ?_ | refine zo6 ?_ | refine zo7 ?_ | refine zo8 ?_ | refine zo9 ?_ | refine zo10 ?_ | refine zo11 ?_ | refine zo12 ?_ | refine zo0 ?_)
      refine WO.call rfl rfl rfl rfl plain102 rfl (number_ret a _ hla.1) fun v h3 ⟨hv3, hh3⟩ => ?_
      subst hv3 hh3
      repeat (first | refine Runs.ctl rfl ?_ | refine Runs.region ?_ | with_reducible refine WO.nil ?_ | refine zo1 ?_ | refine zo2 ?_ | refine zo3 ?_ | refine zo4 ?_ | refine zo5 ?_ | refine zo6 ?_ | refine zo7 ?_ | refine zo8 ?_ | refine zo9 ?_ | refine zo10 ?_ | refine zo11 ?_ | refine zo12 ?_ | refine zo0 ?_)
      refine WO.call rfl rfl rfl rfl plain102 rfl (number_ret b' _ hla.2) fun v h3 ⟨hv3, hh3⟩ => ?_
      subst hv3 hh3
      repeat (first | refine Runs.ctl rfl ?_ | refine Runs.region ?_ | with_reducible refine WO.nil ?_ | refine zo1 ?_ | refine zo2 ?_ | refine zo3 ?_ | refine zo4 ?_ | refine zo5 ?_ | refine zo6 ?_ | refine zo7 ?_ | refine zo8 ?_ | refine zo9 ?_ | refine zo10 ?_ | refine zo11 ?_ | refine zo12 ?_ | refine zo0 ?_)
      have hx3 : Ext h h3 := hx1.trans hx2
      rcases hna : numberS a with _ | p <;> rcases hnb' : numberS b' with _ | i
      all_goals
        repeat (first | refine Runs.ctl rfl ?_ | refine Runs.region ?_ | with_reducible refine WO.nil ?_ | refine zo1 ?_ | refine zo2 ?_ | refine zo3 ?_ | refine zo4 ?_ | refine zo5 ?_ | refine zo6 ?_ | refine zo7 ?_ | refine zo8 ?_ | refine zo9 ?_ | refine zo10 ?_ | refine zo11 ?_ | refine zo12 ?_ | refine zo0 ?_)
        refine WO.put tab_ok rfl rfl rfl rfl rfl rfl rfl rfl (one2 _ _) hb2 rfl fun h4 hb4 hx4 hs4 => ?_
        repeat (first | refine Runs.ctl rfl ?_ | refine Runs.region ?_ | with_reducible refine WO.nil ?_ | refine zo1 ?_ | refine zo2 ?_ | refine zo3 ?_ | refine zo4 ?_ | refine zo5 ?_ | refine zo6 ?_ | refine zo7 ?_ | refine zo8 ?_ | refine zo9 ?_ | refine zo10 ?_ | refine zo11 ?_ | refine zo12 ?_ | refine zo0 ?_)
        refine Runs.ret Tryz.func138 (retc tab_ok Tryz.results138 rfl rfl rfl rfl rfl hb4.cells) ⟨hx3.trans_new (hx4.mono (by intro k _ e; right; omega)), ?_⟩
        rw [hls]
        simp only [hna, hnb']
      · exact ⟨⟨0, 0⟩, rfl, fun r' e => by cases e⟩
      · exact ⟨⟨0, i⟩, rfl, fun r' e => by cases e⟩
      · exact ⟨⟨p, 0⟩, rfl, fun r' e => by cases e⟩
      · refine ⟨⟨p, i⟩, ?_, fun r' e => ?_⟩
        · by_cases hp : 0 < p
          · have : (0 : Int) < (p : Int) := by omega
            simp [hp, RefD.cells]
          · have : p = 0 := by omega
            subst this
            simp [RefD.cells]
        · split at e
          · cases e; rfl
          · cases e

end Go.Proofs.YtdglhhegmabeoaaGreatDoor
