import Derived.Test.YtfkkphojjfnjnaaGreatDoorT3
namespace Go.Proofs.YtfkkphojjfnjnaaGreatDoor
open Go Go.Pat Go.Proofs

def namesS (p : PatchD) (r : RefD) (k : Nat) : Bool := (decide (r.p = 0) || (decide (r.p = p.id) && decide (r.i < ownN (p.changes.take k)))) || p.needs.any fun n => decide (n = r.p)

set_option maxRecDepth 20000 in
set_option maxHeartbeats 3200000 in
theorem names_ret {F : Nat → Prop} (p : PatchD) (r : RefD) (k b : Nat) (h : Heap) (hp : PA F h b p) (hk : k ≤ p.changes.length) (hl : p.changes.length ≤ 16777216) (hl2 : p.needs.length ≤ 16777216) : Ret Tryz.prog 147 #[.pointer (some ⟨b, 0, none⟩), .agg r.cells.toArray, .int .i64 (k : Int)] h fun v h' =>
    Ext h h' ∧ v = .bool (namesS p r k) := by
  refine Ret.of_body Tryz.func147 rfl Tryz.ntmps147 rfl rfl ?_
  refine zgo ?_
  refine WO.box rfl rfl rfl rfl rfl rfl fun h1 hb1 hx1 hs1 => ?_
  replace hp := hp.ext hx1
  obtain ⟨nv, cv, hc, hn, hcs, _⟩ := hp
  have f0 := hc.head
  have f1 := hc.tail.head
  have f2 := hc.tail.tail.head
  obtain ⟨ad, cap, hcv, hcap⟩ := hcs.formc
  obtain ⟨nad, ncap, hnv⟩ := hn.form
  subst hcv hnv
  refine zgo ?_
  refine WO.val (ov_slice_hi tab_ok rfl rfl rfl rfl rfl rfl (by omega)) rfl rfl rfl ?_
  refine zgo ?_
  refine Runs.loop (X := Nat) (fun i => [(0, .pointer (some ⟨b, 0, none⟩)), (4, .pointer (some ⟨h.size, 0, none⟩)), (7, .int .i64 (ownN (p.changes.take i) : Int)), (18, .slice ad k cap), (19, .int .i64 (k : Int)), (20, .int .i64 (i : Int))])
    (fun i h' => Ext h1 h' ∧ i ≤ k) (fun i => k - i) 0 ⟨rfl, rfl, rfl, rfl, rfl, rfl, trivial⟩ ⟨Fr.refl _ _, Nat.zero_le _⟩ ?_
  rintro i h2 ⟨hx2, hi⟩ ih
  have hown := ownN_le (p.changes.take i)
  have hown2 : (p.changes.take i).length ≤ i := by simp; omega
  refine zgo ?_
  refine Runs.cond_dec rfl (fun hlt => ?_) (fun hge => ?_)
  · have hlt' : i < p.changes.length := by omega
    have hget : p.changes[i]? = some p.changes[i] := List.getElem?_eq_getElem hlt'
    have hsn := ownN_snoc (p.changes.take i) p.changes[i]
    rw [← List.take_succ_eq_append_getElem hlt'] at hsn
    generalize p.changes[i] = c at *
    obtain ⟨b0, p0, cap0, hv, _, hcells⟩ := (hcs.ext hx2).pos (by omega)
    cases hv
    have hcc := changes_get hcells hget
    refine zgo ?_
    refine WO.var tab_ok rfl rfl rfl rfl rfl rfl rfl rfl rfl rfl rfl rfl c.one rfl fun h3 hb3 hx3 hs3 => ?_
    have g0 := hb3.cell (j := 0) rfl
    have hx4 := hx2.trans hx3
    refine zgo ?_
    refine Runs.cond_dec rfl (fun hk1 => ?_) (fun hk1 => ?_)
    · refine zgo ?_
      refine ih (i + 1) _ _ (by omega) ⟨rfl, rfl, ?_, rfl, rfl, rfl, trivial⟩ ⟨hx4, by omega⟩
      show some _ = some _
      rw [hsn, if_pos (by omega)]; rfl
    · refine zgo ?_
      refine ih (i + 1) _ _ (by omega) ⟨rfl, rfl, ?_, rfl, rfl, rfl, trivial⟩ ⟨hx4, by omega⟩
      show some _ = some _
      rw [hsn, if_neg (by omega)]; rfl
  · have hik : i = k := by omega
    subst hik
    replace hb1 := hb1.ext hx2
    replace hn := hn.ext hx2
    replace f0 := hx2.xc f0
    replace f1 := hx2.xc f1
    have g0 := hb1.cell (j := 0) rfl
    have g1 := hb1.cell (j := 1) rfl
    replace hx2 := hx1.trans hx2
    clear ih hcs f2 hc
    refine zgo ?_
    refine Runs.still mixed (by kernel_rfl) ?_
    refine zws ?_
    refine WS.join (fun env' => Sub [(0, .pointer (some ⟨b, 0, none⟩)), (4, .pointer (some ⟨h.size, 0, none⟩)), (10, .bool (decide (r.p = 0) || (decide (r.p = p.id) && decide (r.i < ownN (p.changes.take i)))))] env') ?_ ?_
    · refine WS.split 33 _ rfl (fun q1 => ?_) (fun q1 => ?_)
      · have q1 := of_decide_eq_true q1
        refine zws ?_
        refine ⟨rfl, rfl, ?_, trivial⟩
        show some _ = some _
        have e : r.p = 0 := by omega
        simp [e]
      · have q1 := of_decide_eq_false q1
        refine zws ?_
        refine WS.split 41 _ rfl (fun q2 => ?_) (fun q2 => ?_)
        · have q2 := of_decide_eq_true q2
          refine zws ?_
          refine ⟨rfl, rfl, ?_, trivial⟩
          show some _ = some _
          have e : ¬ r.p = 0 := by omega
          have e2 : r.p = p.id := by omega
          have e3 : ¬ p.id = 0 := by omega
          simp [e2, e3]
        · have q2 := of_decide_eq_false q2
          refine zws ?_
          refine ⟨rfl, rfl, ?_, trivial⟩
          show some _ = some _
          have e : ¬ r.p = 0 := by omega
          have e2 : ¬ r.p = p.id := by omega
          simp [e, e2]
    intro env' hsub
    refine Runs.sub hsub ?_
    generalize hok : (decide (r.p = 0) || (decide (r.p = p.id) && decide (r.i < ownN (p.changes.take i)))) = ok0
    refine zgo ?_
    refine Runs.loop (X := Nat) (fun j => [(4, .pointer (some ⟨h.size, 0, none⟩)), (10, .bool (ok0 || (p.needs.take j).any fun n => decide (n = r.p))), (51, .slice nad p.needs.length ncap), (52, .int .i64 (p.needs.length : Int)), (53, .int .i64 (j : Int))])
      (fun j h' => h2 = h' ∧ j ≤ p.needs.length) (fun j => p.needs.length - j) 0 ⟨rfl, by rw [List.take_zero, List.any_nil, Bool.or_false]; rfl, rfl, rfl, rfl, trivial⟩ ⟨rfl, Nat.zero_le _⟩ ?_
    rintro j _ ⟨rfl, hj⟩ ih
    refine zgo ?_
    refine Runs.cond_dec rfl (fun hlt => ?_) (fun hge => ?_)
    · have hlt' : j < p.needs.length := by omega
      have hget : p.needs[j]? = some p.needs[j] := List.getElem?_eq_getElem hlt'
      have hany : ((p.needs.take (j + 1)).any fun n => decide (n = r.p)) = (((p.needs.take j).any fun n => decide (n = r.p)) || decide (p.needs[j] = r.p)) := by
        rw [List.take_succ_eq_append_getElem hlt']; simp only [List.any_append, List.any_cons, List.any_nil, Bool.or_false]
      generalize p.needs[j] = y at *
      obtain ⟨b0, p0, cap0, hv, _, hcell⟩ := hn.cell (ints_get hget)
      cases hv
      refine zgo ?_
      refine WO.join (fun env' h' => h2 = h' ∧ Sub [(4, .pointer (some ⟨h.size, 0, none⟩)), (51, .slice (some ⟨b0, p0, none⟩) p.needs.length ncap), (52, .int .i64 (p.needs.length : Int)), (53, .int .i64 (j : Int)), (10, .bool (ok0 || (p.needs.take (j + 1)).any fun n => decide (n = r.p)))] env') ?_ ?_
      · rw [hany, ← Bool.or_assoc]
        generalize (ok0 || (p.needs.take j).any fun n => decide (n = r.p)) = ok1
        cases ok1
        · refine zgo ?_
          refine ⟨rfl, rfl, rfl, rfl, rfl, ?_, trivial⟩
          show some _ = some _
          have e : decide ((y : Int) = (r.p : Int)) = decide (y = r.p) := decide_eq_decide.2 (by omega)
          simp [e]
        · refine zgo ?_
          exact ⟨rfl, rfl, rfl, rfl, rfl, rfl, trivial⟩
      rintro env' _ ⟨rfl, hsub⟩
      refine Runs.sub hsub ?_
      refine zgo ?_
      exact ih (j + 1) _ _ (by omega) ⟨rfl, rfl, rfl, rfl, rfl, trivial⟩ ⟨rfl, by omega⟩
    · refine zgo ?_
      refine Runs.ret Tryz.func147 (ret1 Tryz.results147 rfl) ⟨hx2, ?_⟩
      rw [List.take_of_length_le (by omega)]
      unfold namesS
      rw [hok]

end Go.Proofs.YtfkkphojjfnjnaaGreatDoor
