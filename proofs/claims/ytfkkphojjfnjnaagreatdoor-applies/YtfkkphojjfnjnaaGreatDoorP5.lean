import Derived.Test.YtfkkphojjfnjnaaGreatDoorP4
namespace Go.Proofs.YtfkkphojjfnjnaaGreatDoor
open Go Go.Pat Go.Proofs

theorem plain_Itoa : Plain Tryz.prog 129 := ⟨_, Tryz.func129, by decide +kernel, by rfl⟩
theorem plain_placeText : Plain Tryz.prog 160 := ⟨_, Tryz.func160, by decide +kernel, by rfl⟩
theorem plain_changeText : Plain Tryz.prog 130 := ⟨_, Tryz.func130, by decide +kernel, by rfl⟩
theorem plain_Write : Plain Tryz.prog 95 := ⟨_, Tryz.func95, by decide +kernel, by rfl⟩

/-- The library's numerals, wherever its table of powers lies as it is laid. -/
def ItoaOK (T : Heap → Prop) : Prop := (∀ h h', T h → Ext h h' → T h') ∧ ∀ (n : Nat) (h : Heap), T h → n < 1000000 → Ret Tryz.prog 129 #[.int .i64 (n : Int)] h fun v h' => Ext h h' ∧ v = .string (str (decS n))

set_option maxRecDepth 20000 in
set_option maxHeartbeats 800000 in
theorem placeText_ret {T : Heap → Prop} (hI : ItoaOK T) (r : RefD) (h : Heap) (ht : T h) (hr : RefD.ok r) : Ret Tryz.prog 160 #[.agg r.cells.toArray] h fun v h' => Ext h h' ∧ v = .string (str (refS r)) := by
  refine Ret.of_body Tryz.func160 rfl Tryz.ntmps160 rfl rfl ?_
  obtain ⟨u1, u2, u3⟩ := hr
  have hd1 := decS_len 5 r.p (by omega)
  have hd2 := decS_len 5 r.i (by omega)
  refine zgo ?_
  refine WO.box rfl rfl rfl rfl rfl rfl fun h1 hb1 hx1 hs1 => ?_
  have g0 := hb1.cell (j := 0) rfl
  have g1 := hb1.cell (j := 1) rfl
  refine zgo ?_
  refine Runs.cond_ndec rfl (fun hne => ?_) (fun heq => ?_)
  · refine zgo ?_
    refine WO.call rfl rfl rfl rfl plain_Itoa rfl (hI.2 r.p _ (hI.1 _ _ ht hx1) (by omega)) fun v2 h2 ⟨hx2, hv2⟩ => ?_
    subst hv2
    have hx12 := hx1.trans hx2
    have q1 := hx2.xc g1
    refine zgo ?_
    refine WO.call rfl rfl rfl rfl plain_Itoa rfl (hI.2 r.i _ (hI.1 _ _ ht hx12) (by omega)) fun v3 h3 ⟨hx3, hv3⟩ => ?_
    subst hv3
    refine zgo ?_
    refine Runs.ret Tryz.func160 (ret1 Tryz.results160 rfl) ⟨hx12.trans hx3, ?_⟩
    unfold refS; rw [if_pos (by omega)]
  · refine zgo ?_
    refine Runs.cond_dec rfl (fun h0 => ?_) (fun h0 => ?_)
    · refine zgo ?_
      refine Runs.ret Tryz.func160 (ret1 Tryz.results160 rfl) ⟨hx1, ?_⟩
      unfold refS; rw [if_neg (by omega), if_pos (by omega)]; rfl
    · refine zgo ?_
      refine Runs.ret Tryz.func160 (ret1 Tryz.results160 rfl) ⟨hx1, ?_⟩
      unfold refS; rw [if_neg (by omega), if_neg (by omega)]; rfl

def kind3 (c : ChangeD) : Prop := c.kind = 1 ∨ c.kind = 2 ∨ c.kind = 3

set_option maxRecDepth 20000 in
set_option maxHeartbeats 800000 in
theorem changeText_ret {T : Heap → Prop} (hI : ItoaOK T) (c : ChangeD) (h : Heap) (ht : T h) (hr : ChangeD.ok c) (hk : kind3 c) : Ret Tryz.prog 130 #[.agg c.cells.toArray] h fun v h' => Ext h h' ∧ v = .string (str (chS c)) := by
  refine Ret.of_body Tryz.func130 rfl Tryz.ntmps130 rfl rfl ?_
  have hl1 := refS_len hr.up
  have hl2 := refS_len hr.down
  have hl3 := hr.text
  refine zgo ?_
  refine WO.box rfl rfl rfl rfl rfl rfl fun h1 hb1 hx1 hs1 => ?_
  have k1 : Cells h1 h.size (0 + 1) c.up.cells := hb1.cells.tail.take 2
  refine zgo ?_
  refine WO.call rfl rfl rfl rfl plain_placeText rfl (placeText_ret hI c.up _ (hI.1 _ _ ht hx1) hr.up) fun v2 h2 ⟨hx2, hv2⟩ => ?_
  subst hv2
  have hx12 := hx1.trans hx2
  have hb2 := hb1.ext hx2
  have q0 := hb2.cell (j := 0) rfl
  have k2 : Cells h2 h.size (0 + 3) c.down.cells := hb2.cells.tail.tail.tail.take 2
  refine zgo ?_
  refine Runs.cond_dec rfl (fun e2 => ?_) (fun e2 => ?_)
  · refine zgo ?_
    refine Runs.ret Tryz.func130 (ret1 Tryz.results130 rfl) ⟨hx12, ?_⟩
    unfold chS; rw [if_neg (by omega), if_pos (by omega)]
  · refine zgo ?_
    refine WO.call rfl rfl rfl rfl plain_placeText rfl (placeText_ret hI c.down _ (hI.1 _ _ ht hx12) hr.down) fun v3 h3 ⟨hx3, hv3⟩ => ?_
    subst hv3
    have hx13 := hx12.trans hx3
    have hb3 := hb2.ext hx3
    have r0 := hb3.cell (j := 0) rfl
    have r5 := hb3.cell (j := 5) rfl
    refine zgo ?_
    refine Runs.cond_dec rfl (fun e3 => ?_) (fun e3 => ?_)
    · refine zgo ?_
      refine Runs.ret Tryz.func130 (ret1 Tryz.results130 rfl) ⟨hx13, ?_⟩
      unfold chS; rw [if_neg (by omega), if_neg (by omega)]
    · have e1 : c.kind = 1 := by unfold kind3 at hk; omega
      refine zgo ?_
      refine Runs.ret Tryz.func130 (ret1 Tryz.results130 rfl) ⟨hx13, ?_⟩
      unfold chS; rw [if_pos e1]

set_option maxRecDepth 20000 in
set_option maxHeartbeats 1600000 in
theorem Write_ret {T : Heap → Prop} (hI : ItoaOK T) {F : Nat → Prop} (x : PD3) (h : Heap) (ht : T h) (hp : PV F h x) (hok : PatchD.ok x.p) (hk : ∀ c ∈ x.p.changes, kind3 c) : Ret Tryz.prog 95 #[.agg x.cells.toArray] h fun v h' => Ext h h' ∧ v = .string (str (textS x.p)) := by
  refine Ret.of_body Tryz.func95 rfl Tryz.ntmps95 rfl rfl ?_
  obtain ⟨p, nv, cv⟩ := x
  obtain ⟨adc, capc, hcv⟩ := hp.changes.form
  obtain ⟨adn, capn, hnv⟩ := hp.needs.form
  have hl := hok.len
  have hl2 := hok.nlen
  have hidl := hok.id
  have hpn := hp.needs
  have hpc := hp.changes
  dsimp only at hcv hnv hl hl2 hidl hpn hpc hok hk ⊢
  subst hcv hnv
  have hdl := decS_len 5 p.id (by omega)
  refine zgo ?_
  refine WO.box rfl rfl rfl rfl rfl rfl fun h1 hb1 hx1 hs1 => ?_
  have g0 := hb1.cell (j := 0) rfl
  have g1 := hb1.cell (j := 1) rfl
  have g2 := hb1.cell (j := 2) rfl
  refine zgo ?_
  refine WO.call rfl rfl rfl rfl plain_Itoa rfl (hI.2 p.id _ (hI.1 _ _ ht hx1) (by omega)) fun v2 h2 ⟨hx2, hv2⟩ => ?_
  subst hv2
  have hx02 := hx1.trans hx2
  refine zgo ?_
  refine Runs.loop (X := Nat) (fun i => [(1, .pointer (some ⟨h.size, 0, none⟩)), (3, .string (str (headS p ++ needsS (p.needs.take i)))), (4, .int .i64 (i : Int))])
    (fun i h' => Ext h2 h' ∧ i ≤ p.needs.length ∧ (headS p ++ needsS (p.needs.take i)).length ≤ 30 + 10 * i) (fun i => p.needs.length - i) 0 ⟨rfl, by rw [List.take_zero, needsS, List.flatMap_nil, List.append_nil]; rfl, rfl, trivial⟩ ⟨Fr.refl _ _, Nat.zero_le _, by simp [needsS, headS]; omega⟩ ?_
  rintro i h3 ⟨hx3, hi, htl⟩ ih
  have hx03 := hx02.trans hx3
  have q1 := (hx2.trans hx3).xc g1
  have q2 := (hx2.trans hx3).xc g2
  refine zgo ?_
  refine Runs.cond_dec rfl (fun hlt => ?_) (fun hge => ?_)
  · have hlt' : i < p.needs.length := by omega
    have hget : p.needs[i]? = some p.needs[i] := List.getElem?_eq_getElem hlt'
    have hyl : p.needs[i] < 10000 := hok.needs _ (List.getElem_mem hlt')
    have hsn : headS p ++ needsS (p.needs.take (i + 1)) = headS p ++ needsS (p.needs.take i) ++ ([32] ++ decS p.needs[i]) := by
      rw [List.take_succ_eq_append_getElem hlt']; simp only [needsS, List.flatMap_append, List.flatMap_cons, List.flatMap_nil, List.append_nil, List.append_assoc]
    generalize p.needs[i] = y at *
    generalize headS p ++ needsS (p.needs.take i) = t at *
    obtain ⟨b0, p0, cap0, hv, _, hcell⟩ := (hpn.ext hx03).cell (ints_get hget)
    cases hv
    have hdy := decS_len 5 y (by omega)
    refine zgo ?_
    refine WO.call rfl rfl rfl rfl plain_Itoa rfl (hI.2 y _ (hI.1 _ _ ht hx03) (by omega)) fun v4 h4 ⟨hx4, hv4⟩ => ?_
    subst hv4
    refine zgo ?_
    refine ih (i + 1) _ _ (by omega) ⟨rfl, by rw [hsn]; rfl, rfl, trivial⟩ ⟨hx3.trans hx4, by omega, by rw [hsn]; simp at hdy htl ⊢; omega⟩
  · have hie : i = p.needs.length := by omega
    subst hie
    rw [List.take_length] at htl ⊢
    have hts : textS p = headS p ++ needsS p.needs ++ [10] ++ p.changes.flatMap chS := rfl
    generalize headS p ++ needsS p.needs = t0 at *
    clear ih
    refine zgo ?_
    refine Runs.loop (X := Nat) (fun i => [(1, .pointer (some ⟨h.size, 0, none⟩)), (3, .string (str (t0 ++ [10] ++ (p.changes.take i).flatMap chS))), (5, .int .i64 (i : Int))])
      (fun i h' => Ext h3 h' ∧ i ≤ p.changes.length ∧ (t0 ++ [10] ++ (p.changes.take i).flatMap chS).length ≤ 300 + 60 * i) (fun i => p.changes.length - i) 0 ⟨rfl, by rw [List.take_zero, List.flatMap_nil, List.append_nil]; rfl, rfl, trivial⟩ ⟨Fr.refl _ _, Nat.zero_le _, by simp; omega⟩ ?_
    rintro i h4 ⟨hx4, hi', htl4⟩ ih
    have hx04 := hx03.trans hx4
    have r2 := hx4.xc q2
    refine zgo ?_
    refine Runs.cond_dec rfl (fun hlt => ?_) (fun hge' => ?_)
    · have hlt' : i < p.changes.length := by omega
      have hget : p.changes[i]? = some p.changes[i] := List.getElem?_eq_getElem hlt'
      have hcok : ChangeD.ok p.changes[i] := hok.changes _ (List.getElem_mem hlt')
      have hck : kind3 p.changes[i] := hk _ (List.getElem_mem hlt')
      have hsn : t0 ++ [10] ++ (p.changes.take (i + 1)).flatMap chS = t0 ++ [10] ++ (p.changes.take i).flatMap chS ++ chS p.changes[i] := by
        rw [List.take_succ_eq_append_getElem hlt']; simp only [List.flatMap_append, List.flatMap_cons, List.flatMap_nil, List.append_nil, List.append_assoc]
      generalize p.changes[i] = c at *
      generalize t0 ++ [10] ++ (p.changes.take i).flatMap chS = t at *
      obtain ⟨b0, p0, cap0, hv, _, hcells⟩ := (hpc.ext hx04).pos (by omega)
      cases hv
      have hcc := changes_get hcells hget
      have hchl := chS_len hcok
      refine zgo ?_
      refine WO.call rfl rfl rfl rfl plain_changeText rfl (changeText_ret hI c _ (hI.1 _ _ ht hx04) hcok hck) fun v5 h5 ⟨hx5, hv5⟩ => ?_
      subst hv5
      refine zgo ?_
      exact ih (i + 1) _ _ (by omega) ⟨rfl, by rw [hsn]; rfl, rfl, trivial⟩ ⟨hx4.trans hx5, hlt', by rw [hsn, List.length_append]; omega⟩
    · refine zgo ?_
      refine Runs.ret Tryz.func95 (ret1 Tryz.results95 rfl) ⟨hx04, ?_⟩
      rw [hts, List.take_of_length_le (by omega)]

end Go.Proofs.YtfkkphojjfnjnaaGreatDoor
