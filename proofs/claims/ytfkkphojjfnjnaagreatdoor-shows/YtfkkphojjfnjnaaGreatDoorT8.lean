import Derived.Test.YtfkkphojjfnjnaaGreatDoorT7
namespace Go.Proofs.YtfkkphojjfnjnaaGreatDoor
open Go Go.Pat Go.Proofs

theorem plain63 : Plain Tryz.prog 67 := ⟨_, Tryz.func67, by decide +kernel, by rfl⟩

def RefD.ok (r : RefD) : Prop := r.p < 10000 ∧ r.i < 10000 ∧ (r.p = 0 → r.i < 2)
structure ChangeD.ok (c : ChangeD) : Prop where
  up : RefD.ok c.up
  down : RefD.ok c.down
  text : c.text.length ≤ 12
structure PatchD.ok (p : PatchD) : Prop where
  id : p.id < 10000
  needs : ∀ n ∈ p.needs, n < 10000
  changes : ∀ c ∈ p.changes, ChangeD.ok c
  len : p.changes.length ≤ 30
  nlen : p.needs.length ≤ 20

def chS (c : ChangeD) : List UInt8 :=
  if c.kind = 1 then [97, 100, 100, 32] ++ refS c.up ++ [32] ++ refS c.down ++ [32] ++ c.text ++ [10]
  else if c.kind = 2 then [100, 101, 108, 32] ++ refS c.up ++ [10]
  else [116, 105, 101, 32] ++ refS c.up ++ [32] ++ refS c.down ++ [10]
def headS (p : PatchD) : List UInt8 := [112, 97, 116, 99, 104, 32] ++ decS p.id ++ [10, 110, 101, 101, 100, 115]
def needsS (l : List Nat) : List UInt8 := l.flatMap fun n => [32] ++ decS n
def textS (p : PatchD) : List UInt8 := headS p ++ needsS p.needs ++ [10] ++ p.changes.flatMap chS

theorem refS_len {r : RefD} (h : RefD.ok r) : (refS r).length ≤ 13 := by
  have h1 := decS_len 5 r.p (by have := h.1; omega)
  have h2 := decS_len 5 r.i (by have := h.2.1; omega)
  unfold refS
  split
  · simp; omega
  · split <;> simp
theorem chS_len {c : ChangeD} (h : ChangeD.ok c) : (chS c).length ≤ 60 := by
  have h1 := refS_len h.up
  have h2 := refS_len h.down
  have h3 := h.text
  unfold chS
  split
  · simp; omega
  · split
    · simp; omega
    · simp; omega

set_option maxRecDepth 20000 in
set_option maxHeartbeats 3200000 in
theorem text_ret {F : Nat → Prop} (p : PatchD) (b : Nat) (h : Heap) (hp : PA F h b p) (hok : PatchD.ok p) : Ret Tryz.prog 67 #[.pointer (some ⟨b, 0, none⟩)] h fun v h' => Ext h h' ∧ v = .string (str (textS p)) := by
  refine Ret.of_body Tryz.func67 rfl Tryz.ntmps67 rfl rfl ?_
  have hl := hok.len
  have hl2 := hok.nlen
  have hidl := hok.id
  obtain ⟨nv, cv, hc, hn, hcs, _⟩ := hp
  have f0 := hc.head
  have f1 := hc.tail.head
  have f2 := hc.tail.tail.head
  obtain ⟨ad, cap, hcv, hcap⟩ := hcs.formc
  obtain ⟨nad, ncap, hnv⟩ := hn.form
  subst hcv hnv
  have hdl := decS_len 5 p.id (by omega)
  refine zgo ?_
  refine WO.call rfl rfl rfl rfl plain87 rfl (decimal_ret p.id _ (by omega)) fun v h1 ⟨hx1, hv1⟩ => ?_
  subst hv1
  replace f0 := hx1.xc f0
  replace f1 := hx1.xc f1
  replace f2 := hx1.xc f2
  replace hn := hn.ext hx1
  replace hcs := hcs.ext hx1
  refine zgo ?_
  refine Runs.loop (X := Nat) (fun i => [(0, .pointer (some ⟨b, 0, none⟩)), (3, .string (str (headS p ++ needsS (p.needs.take i)))), (18, .slice nad p.needs.length ncap), (19, .int .i64 (p.needs.length : Int)), (20, .int .i64 (i : Int))])
    (fun i h' => Ext h1 h' ∧ i ≤ p.needs.length ∧ (headS p ++ needsS (p.needs.take i)).length ≤ 30 + 10 * i) (fun i => p.needs.length - i) 0 ⟨rfl, by rw [List.take_zero, needsS, List.flatMap_nil, List.append_nil]; rfl, rfl, rfl, rfl, trivial⟩ ⟨Fr.refl _ _, Nat.zero_le _, by simp [needsS, headS]; omega⟩ ?_
  rintro i h2 ⟨hx2, hi, htl⟩ ih
  refine zgo ?_
  refine Runs.cond_dec rfl (fun hlt => ?_) (fun hge => ?_)
  · have hlt' : i < p.needs.length := by omega
    have hget : p.needs[i]? = some p.needs[i] := List.getElem?_eq_getElem hlt'
    have hyl : p.needs[i] < 10000 := hok.needs _ (List.getElem_mem hlt')
    have hsn : headS p ++ needsS (p.needs.take (i + 1)) = headS p ++ needsS (p.needs.take i) ++ ([32] ++ decS p.needs[i]) := by
      rw [List.take_succ_eq_append_getElem hlt']; simp only [needsS, List.flatMap_append, List.flatMap_cons, List.flatMap_nil, List.append_nil, List.append_assoc]
    generalize p.needs[i] = y at *
    generalize headS p ++ needsS (p.needs.take i) = t at *
    obtain ⟨b0, p0, cap0, hv, _, hcell⟩ := (hn.ext hx2).cell (ints_get hget)
    cases hv
    have hdy := decS_len 5 y (by omega)
    refine zgo ?_
    refine WO.call rfl rfl rfl rfl plain87 rfl (decimal_ret y _ (by omega)) fun v h3 ⟨hx3, hv3⟩ => ?_
    subst hv3
    refine zgo ?_
    refine ih (i + 1) _ _ (by omega) ⟨rfl, by rw [hsn]; rfl, rfl, rfl, rfl, trivial⟩ ⟨hx2.trans hx3, by omega, by rw [hsn]; simp at hdy htl ⊢; omega⟩
  · have hie : i = p.needs.length := by omega
    subst hie
    rw [List.take_length] at htl ⊢
    replace f2 := hx2.xc f2
    replace hcs := hcs.ext hx2
    replace hx2 := hx1.trans hx2
    have hts : textS p = headS p ++ needsS p.needs ++ [10] ++ p.changes.flatMap chS := rfl
    generalize headS p ++ needsS p.needs = t0 at *
    clear ih hn f0 f1 hc
    refine zgo ?_
    refine Runs.loop (X := Nat) (fun i => [(0, .pointer (some ⟨b, 0, none⟩)), (3, .string (str (t0 ++ [10] ++ (p.changes.take i).flatMap chS))), (35, .slice ad p.changes.length cap), (36, .int .i64 (p.changes.length : Int)), (37, .int .i64 (i : Int))])
      (fun i h' => Ext h2 h' ∧ i ≤ p.changes.length ∧ (t0 ++ [10] ++ (p.changes.take i).flatMap chS).length ≤ 300 + 60 * i) (fun i => p.changes.length - i) 0 ⟨rfl, by rw [List.take_zero, List.flatMap_nil, List.append_nil]; rfl, rfl, rfl, rfl, trivial⟩ ⟨Fr.refl _ _, Nat.zero_le _, by simp; omega⟩ ?_
    rintro i h3 ⟨hx3, hi', htl3⟩ ih
    refine zgo ?_
    refine Runs.cond_dec rfl (fun hlt => ?_) (fun hge' => ?_)
    · have hlt' : i < p.changes.length := by omega
      have hget : p.changes[i]? = some p.changes[i] := List.getElem?_eq_getElem hlt'
      have hcok : ChangeD.ok p.changes[i] := hok.changes _ (List.getElem_mem hlt')
      have hsn : t0 ++ [10] ++ (p.changes.take (i + 1)).flatMap chS = t0 ++ [10] ++ (p.changes.take i).flatMap chS ++ chS p.changes[i] := by
        rw [List.take_succ_eq_append_getElem hlt']; simp only [List.flatMap_append, List.flatMap_cons, List.flatMap_nil, List.append_nil, List.append_assoc]
      generalize p.changes[i] = c at *
      generalize t0 ++ [10] ++ (p.changes.take i).flatMap chS = t at *
      obtain ⟨b0, p0, cap0, hv, _, hcells⟩ := (hcs.ext hx3).pos (by omega)
      cases hv
      have hcc := changes_get hcells hget
      have hchl := chS_len hcok
      have hr1 := refS_len hcok.up
      have hr2 := refS_len hcok.down
      have htx := hcok.text
      obtain ⟨u1, u2, u3⟩ := hcok.up
      obtain ⟨d1, d2, d3⟩ := hcok.down
      refine zgo ?_
      refine WO.var tab_ok rfl rfl rfl rfl rfl rfl rfl rfl rfl rfl rfl rfl c.one rfl fun h4 hb4 hx4 hs4 => ?_
      have g0 := hb4.cell (j := 0) rfl
      have g5 := hb4.cell (j := 5) rfl
      have e1 : Cells h4 h3.size (0 + 1) c.up.cells := hb4.cells.tail.take 2
      have e2 : Cells h4 h3.size (0 + 3) c.down.cells := hb4.cells.tail.tail.tail.take 2
      have hx5 := hx3.trans hx4
      have fin : ∀ h', Ext h4 h' → (Ext h2 h' ∧ i + 1 ≤ p.changes.length ∧ (t0 ++ [10] ++ (p.changes.take (i + 1)).flatMap chS).length ≤ 300 + 60 * (i + 1)) := fun h' hx => ⟨hx5.trans hx, hlt', by rw [hsn, List.length_append]; omega⟩
      refine zgo ?_
      refine Runs.cond_dec rfl (fun q1 => ?_) (fun q1 => ?_)
      · have hch : chS c = [97, 100, 100, 32] ++ refS c.up ++ [32] ++ refS c.down ++ [32] ++ c.text ++ [10] := by unfold chS; rw [if_pos (by omega)]
        refine zgo ?_
        refine Runs.drawn (m := 17) (Ext h4) (fun _ => false) mixed rfl ?_
        refine WF.take 0 rfl (fun _ _ => ov_pv tab_ok rfl) (Fr.refl _ _) rfl rfl rfl (by kernel_rfl) ?_
        refine WF.take 1 rfl (fun _ _ => ov_pv tab_ok rfl) (Fr.refl _ _) rfl rfl rfl (by kernel_rfl) ?_
        refine WF.take 2 rfl (fun _ hS => ov_loads tab_ok rfl rfl rfl rfl rfl (hS.xcs e1)) (Fr.refl _ _) rfl rfl rfl (by kernel_rfl) ?_
        refine WF.take 6 rfl (fun _ _ => ov_pv tab_ok rfl) (Fr.refl _ _) rfl rfl rfl (by kernel_rfl) ?_
        refine WF.take 7 rfl (fun _ hS => ov_loads tab_ok rfl rfl rfl rfl rfl (hS.xcs e2)) (Fr.refl _ _) rfl rfl rfl (by kernel_rfl) ?_
        refine WF.take 11 rfl (fun _ _ => ov_pv tab_ok rfl) (Fr.refl _ _) rfl rfl rfl (by kernel_rfl) ?_
        refine WF.take 12 rfl (fun _ hS => ov_load tab_ok rfl rfl rfl rfl (hS.xc g5)) (Fr.refl _ _) rfl rfl rfl (by kernel_rfl) ?_
        refine WF.call 3 (by kernel_rfl) rfl rfl rfl rfl rfl plain88 rfl (name_ret c.up _ (by omega) (by omega) u3) fun v h6 ⟨hx6, hv6⟩ => ⟨.inr hx6, ?_⟩
        subst hv6
        refine WF.take 4 rfl (fun _ _ => ov_sadd rfl rfl rfl (by simp <;> omega)) hx6 rfl rfl rfl (by kernel_rfl) ?_
        refine WF.take 5 rfl (fun _ _ => ov_sadd rfl rfl rfl (by simp <;> omega)) hx6 rfl rfl rfl (by kernel_rfl) ?_
        refine WF.call 8 (by kernel_rfl) rfl rfl rfl rfl rfl plain88 rfl (name_ret c.down _ (by omega) (by omega) d3) fun v h7 ⟨hx7, hv7⟩ => ⟨.inr (hx6.trans hx7), ?_⟩
        subst hv7
        have hx8 := hx6.trans hx7
        refine WF.take 9 rfl (fun _ _ => ov_sadd rfl rfl rfl (by simp <;> omega)) hx8 rfl rfl rfl (by kernel_rfl) ?_
        refine WF.take 10 rfl (fun _ _ => ov_sadd rfl rfl rfl (by simp <;> omega)) hx8 rfl rfl rfl (by kernel_rfl) ?_
        refine WF.take 13 rfl (fun _ _ => ov_sadd rfl rfl rfl (by simp <;> omega)) hx8 rfl rfl rfl (by kernel_rfl) ?_
        refine WF.take 14 rfl (fun _ _ => ov_sadd rfl rfl rfl (by simp <;> omega)) hx8 rfl rfl rfl (by kernel_rfl) ?_
        refine WF.take 15 rfl (fun _ _ => ov_sadd rfl rfl rfl (by simp <;> omega)) hx8 rfl rfl rfl (by kernel_rfl) ?_
        refine WF.take 16 rfl (fun _ _ => ov_pv tab_ok rfl) hx8 rfl rfl rfl (by kernel_rfl) ?_
        refine WF.done (by kernel_rfl) ?_
        refine zgo ?_
        exact ih (i + 1) _ _ (by omega) ⟨rfl, by rw [hsn, hch]; rfl, rfl, rfl, rfl, trivial⟩ (fin _ hx8)
      · refine zgo ?_
        refine Runs.cond_dec rfl (fun q2 => ?_) (fun q2 => ?_)
        · have hch : chS c = [100, 101, 108, 32] ++ refS c.up ++ [10] := by unfold chS; rw [if_neg (by omega), if_pos (by omega)]
          refine zgo ?_
          refine WO.call rfl rfl rfl rfl plain88 rfl (name_ret c.up _ (by omega) (by omega) u3) fun v h6 ⟨hx6, hv6⟩ => ?_
          subst hv6
          refine zgo ?_
          exact ih (i + 1) _ _ (by omega) ⟨rfl, by rw [hsn, hch]; rfl, rfl, rfl, rfl, trivial⟩ (fin _ hx6)
        · have hch : chS c = [116, 105, 101, 32] ++ refS c.up ++ [32] ++ refS c.down ++ [10] := by unfold chS; rw [if_neg (by omega), if_neg (by omega)]
          refine zgo ?_
          refine Runs.drawn (m := 13) (Ext h4) (fun _ => false) mixed rfl ?_
          refine WF.take 0 rfl (fun _ _ => ov_pv tab_ok rfl) (Fr.refl _ _) rfl rfl rfl (by kernel_rfl) ?_
          refine WF.take 1 rfl (fun _ _ => ov_pv tab_ok rfl) (Fr.refl _ _) rfl rfl rfl (by kernel_rfl) ?_
          refine WF.take 2 rfl (fun _ hS => ov_loads tab_ok rfl rfl rfl rfl rfl (hS.xcs e1)) (Fr.refl _ _) rfl rfl rfl (by kernel_rfl) ?_
          refine WF.take 6 rfl (fun _ _ => ov_pv tab_ok rfl) (Fr.refl _ _) rfl rfl rfl (by kernel_rfl) ?_
          refine WF.take 7 rfl (fun _ hS => ov_loads tab_ok rfl rfl rfl rfl rfl (hS.xcs e2)) (Fr.refl _ _) rfl rfl rfl (by kernel_rfl) ?_
          refine WF.call 3 (by kernel_rfl) rfl rfl rfl rfl rfl plain88 rfl (name_ret c.up _ (by omega) (by omega) u3) fun v h6 ⟨hx6, hv6⟩ => ⟨.inr hx6, ?_⟩
          subst hv6
          refine WF.take 4 rfl (fun _ _ => ov_sadd rfl rfl rfl (by simp <;> omega)) hx6 rfl rfl rfl (by kernel_rfl) ?_
          refine WF.take 5 rfl (fun _ _ => ov_sadd rfl rfl rfl (by simp <;> omega)) hx6 rfl rfl rfl (by kernel_rfl) ?_
          refine WF.call 8 (by kernel_rfl) rfl rfl rfl rfl rfl plain88 rfl (name_ret c.down _ (by omega) (by omega) d3) fun v h7 ⟨hx7, hv7⟩ => ⟨.inr (hx6.trans hx7), ?_⟩
          subst hv7
          have hx8 := hx6.trans hx7
          refine WF.take 9 rfl (fun _ _ => ov_sadd rfl rfl rfl (by simp <;> omega)) hx8 rfl rfl rfl (by kernel_rfl) ?_
          refine WF.take 10 rfl (fun _ _ => ov_sadd rfl rfl rfl (by simp <;> omega)) hx8 rfl rfl rfl (by kernel_rfl) ?_
          refine WF.take 11 rfl (fun _ _ => ov_sadd rfl rfl rfl (by simp <;> omega)) hx8 rfl rfl rfl (by kernel_rfl) ?_
          refine WF.take 12 rfl (fun _ _ => ov_pv tab_ok rfl) hx8 rfl rfl rfl (by kernel_rfl) ?_
          refine WF.done (by kernel_rfl) ?_
          refine zgo ?_
          exact ih (i + 1) _ _ (by omega) ⟨rfl, by rw [hsn, hch]; rfl, rfl, rfl, rfl, trivial⟩ (fin _ hx8)
    · refine zgo ?_
      refine Runs.ret Tryz.func67 (ret1 Tryz.results67 rfl) ⟨hx2.trans hx3, ?_⟩
      rw [hts, List.take_of_length_le (by omega)]

end Go.Proofs.YtfkkphojjfnjnaaGreatDoor
