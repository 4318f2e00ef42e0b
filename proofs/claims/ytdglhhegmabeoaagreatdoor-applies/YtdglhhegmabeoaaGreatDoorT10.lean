import Derived.Test.YtdglhhegmabeoaaGreatDoorT9
namespace Go.Proofs.YtdglhhegmabeoaaGreatDoor
open Go Go.Pat Go.Proofs

theorem plain73 : Plain Tryz.prog 75 := ⟨_, Tryz.func75, by decide +kernel, by rfl⟩
theorem plain72 : Plain Tryz.prog 74 := ⟨_, Tryz.func74, by decide +kernel, by rfl⟩

structure IV where
  (i : Nat) (v : Value)

set_option maxRecDepth 20000 in
set_option maxHeartbeats 1600000 in
theorem linesOf_ret {F : Nat → Prop} (p : PatchD) (b : Nat) (h : Heap) (hp : PA F h b p) (hl : p.changes.length ≤ 1000) : Ret Tryz.prog 75 #[.pointer (some ⟨b, 0, none⟩)] h fun v h' =>
    Ext h h' ∧ Own h' 128 7 v (linesOfS p).length (linesC (linesOfS p)) ∧ Moved h (.slice none 0 0) v := by
  refine Ret.of_body Tryz.func75 rfl Tryz.ntmps75 rfl rfl ?_
  obtain ⟨nv, cv, hc, hn, hcs, _⟩ := hp
  have f0 := hc.head
  have f2 := hc.tail.tail.head
  have hbl := lt_of_cell f0
  obtain ⟨ad, cap, hcv⟩ := hcs.form
  subst hcv
  repeat (first | refine Runs.ctl rfl ?_ | refine Runs.region ?_ | with_reducible refine WO.nil ?_ | refine zo1 ?_ | refine zo2 ?_ | refine zo3 ?_ | refine zo4 ?_ | refine zo5 ?_ | refine zo6 ?_ | refine zo7 ?_ | refine zo8 ?_ | refine zo9 ?_ | refine zo10 ?_ | refine zo11 ?_ | refine zo12 ?_ | refine zo0 ?_)
  refine Runs.loop (X := IV) (fun x => [(0, .pointer (some ⟨b, 0, none⟩)), (3, x.v), (9, .slice ad p.changes.length cap), (10, .int .i64 (p.changes.length : Int)), (11, .int .i64 (x.i : Int))])
    (fun x h' => x.i ≤ p.changes.length ∧ Ext h h' ∧ Own h' 128 7 x.v (linesUp p.id (p.changes.take x.i)).length (linesC (linesUp p.id (p.changes.take x.i))) ∧ (∀ k, x.v.ownBlock = some k → h.size ≤ k))
    (fun x => p.changes.length - x.i) ⟨0, .slice none 0 0⟩ ⟨rfl, rfl, rfl, rfl, rfl, trivial⟩ ⟨Nat.zero_le _, Fr.refl _ _, Own.nil _ _ _, fun k hk => by simp [Value.ownBlock] at hk⟩ ?_
  rintro ⟨i, v⟩ h2 ⟨hi, hx2, ho2, hm2⟩ ih
  dsimp only at hi hx2 ho2 hm2 ih ⊢
  repeat (first | refine Runs.ctl rfl ?_ | refine Runs.region ?_ | with_reducible refine WO.nil ?_ | refine zo1 ?_ | refine zo2 ?_ | refine zo3 ?_ | refine zo4 ?_ | refine zo5 ?_ | refine zo6 ?_ | refine zo7 ?_ | refine zo8 ?_ | refine zo9 ?_ | refine zo10 ?_ | refine zo11 ?_ | refine zo12 ?_ | refine zo0 ?_)
  refine Runs.cond_dec rfl (fun hlt => ?_) (fun hge => ?_)
  · have hlt' : i < p.changes.length := by omega
    have hget : p.changes[i]? = some p.changes[i] := List.getElem?_eq_getElem hlt'
    have hsn := linesUp_snoc p.id (p.changes.take i) p.changes[i]
    rw [← List.take_succ_eq_append_getElem hlt'] at hsn
    have hln := length_linesUp p.id (p.changes.take i)
    have hown := ownN_le (p.changes.take i)
    have hown2 : (p.changes.take i).length ≤ i := by simp; omega
    generalize p.changes[i] = c at *
    generalize linesUp p.id (p.changes.take i) = ls at *
    generalize ownN (p.changes.take i) = on at *
    subst hln
    obtain ⟨b0, p0, cap0, hv, _, hcells⟩ := (hcs.ext hx2).pos (by omega)
    cases hv
    have hcc := changes_get hcells hget
    repeat (first | refine Runs.ctl rfl ?_ | refine Runs.region ?_ | with_reducible refine WO.nil ?_ | refine zo1 ?_ | refine zo2 ?_ | refine zo3 ?_ | refine zo4 ?_ | refine zo5 ?_ | refine zo6 ?_ | refine zo7 ?_ | refine zo8 ?_ | refine zo9 ?_ | refine zo10 ?_ | refine zo11 ?_ | refine zo12 ?_ | refine zo0 ?_)
    refine WO.var tab_ok rfl rfl rfl rfl rfl rfl rfl rfl rfl rfl rfl rfl c.one rfl fun h4 hb4 hx4 hs4 => ?_
    have g0 := hb4.cell (j := 0) rfl
    have hx5 := hx2.trans hx4
    have hvl := ho2.lt
    obtain ⟨adv, capv, hvv⟩ := ho2.rd.form
    subst hvv
    repeat (first | refine Runs.ctl rfl ?_ | refine Runs.region ?_ | with_reducible refine WO.nil ?_ | refine zo1 ?_ | refine zo2 ?_ | refine zo3 ?_ | refine zo4 ?_ | refine zo5 ?_ | refine zo6 ?_ | refine zo7 ?_ | refine zo8 ?_ | refine zo9 ?_ | refine zo10 ?_ | refine zo11 ?_ | refine zo12 ?_ | refine zo0 ?_)
    refine Runs.cond_dec rfl (fun q1 => ?_) (fun q1 => ?_)
    · rw [if_pos (by omega)] at hsn
      have ho4 := ho2.fr hx4 (by simp)
      have e0 := hx5.xc f0
      have e1 : Cells h4 h2.size (0 + 1) c.up.cells := hb4.cells.tail.take 2
      have e2 : Cells h4 h2.size (0 + 3) c.down.cells := hb4.cells.tail.tail.tail.take 2
      have e3 : cellAt h4 h2.size (0 + 5) = some (.string (str c.text)) := hb4.cell (j := 5) rfl
      have hS0 : cellAt h4 b 0 = some (.int .i64 (p.id : Int)) ∧ Cells h4 h2.size (0 + 1) c.up.cells ∧ Cells h4 h2.size (0 + 3) c.down.cells ∧ cellAt h4 h2.size (0 + 5) = some (.string (str c.text)) := ⟨e0, e1, e2, e3⟩
      have hSS : ∀ h', Fr (fun k => Value.ownBlock (.slice adv ls.length capv) = some k) h4 h' → cellAt h' b 0 = some (.int .i64 (p.id : Int)) ∧ Cells h' h2.size (0 + 1) c.up.cells ∧ Cells h' h2.size (0 + 3) c.down.cells ∧ cellAt h' h2.size (0 + 5) = some (.string (str c.text)) := fun h' hf =>
        ⟨hf.cell (fun e => by have := hm2 _ e; omega) e0, hf.cells (fun e => by have := hvl _ e; omega) e1, hf.cells (fun e => by have := hvl _ e; omega) e2, hf.cell (fun e => by have := hvl _ e; omega) e3⟩
      repeat (first | refine Runs.ctl rfl ?_ | refine Runs.region ?_ | with_reducible refine WO.nil ?_ | refine zo1 ?_ | refine zo2 ?_ | refine zo3 ?_ | refine zo4 ?_ | refine zo5 ?_ | refine zo6 ?_ | refine zo7 ?_ | refine zo8 ?_ | refine zo9 ?_ | refine zo10 ?_ | refine zo11 ?_ | refine zo12 ?_ | refine zo0 ?_)
      refine Runs.drawn (m := 18) (fun h' => cellAt h' b 0 = some (.int .i64 (p.id : Int)) ∧ Cells h' h2.size (0 + 1) c.up.cells ∧ Cells h' h2.size (0 + 3) c.down.cells ∧ cellAt h' h2.size (0 + 5) = some (.string (str c.text))) (fun _ => false) mixed rfl ?_
      refine WF.take 0 rfl (fun _ _ => ov_pv tab_ok rfl) hS0 rfl rfl rfl (by kernel_rfl) ?_
      refine WF.take 1 rfl (fun _ _ => ov_pv tab_ok rfl) hS0 rfl rfl rfl (by kernel_rfl) ?_
      refine WF.take 2 rfl (fun _ _ => ov_pv tab_ok rfl) hS0 rfl rfl rfl (by kernel_rfl) ?_
      refine WF.take 3 rfl (fun _ _ => ov_pv tab_ok rfl) hS0 rfl rfl rfl (by kernel_rfl) ?_
      refine WF.take 4 rfl (fun _ hS => ov_load tab_ok rfl rfl rfl rfl hS.1) hS0 rfl rfl rfl (by kernel_rfl) ?_
      refine WF.take 5 rfl (fun _ _ => ov_pv tab_ok rfl) hS0 rfl rfl rfl (by kernel_rfl) ?_
      refine WF.take 6 rfl (fun _ _ => ov_pv tab_ok rfl) hS0 rfl rfl rfl (by kernel_rfl) ?_
      refine WF.take 7 rfl (fun _ _ => ov_pv tab_ok rfl) hS0 rfl rfl rfl (by kernel_rfl) ?_
      refine WF.take 8 rfl (fun _ _ => ov_pv tab_ok rfl) hS0 rfl rfl rfl (by kernel_rfl) ?_
      refine WF.take 9 rfl (fun _ hS => ov_loads tab_ok rfl rfl rfl rfl rfl hS.2.1) hS0 rfl rfl rfl (by kernel_rfl) ?_
      refine WF.take 10 rfl (fun _ _ => ov_pv tab_ok rfl) hS0 rfl rfl rfl (by kernel_rfl) ?_
      refine WF.take 11 rfl (fun _ hS => ov_loads tab_ok rfl rfl rfl rfl rfl hS.2.2.1) hS0 rfl rfl rfl (by kernel_rfl) ?_
      refine WF.take 12 rfl (fun _ _ => ov_pv tab_ok rfl) hS0 rfl rfl rfl (by kernel_rfl) ?_
      refine WF.take 13 rfl (fun _ hS => ov_load tab_ok rfl rfl rfl rfl hS.2.2.2) hS0 rfl rfl rfl (by kernel_rfl) ?_
      refine WF.take 14 rfl (fun _ _ => ov_pv tab_ok rfl) hS0 rfl rfl rfl (by kernel_rfl) ?_
      refine WF.push 15 16 tab_ok (by kernel_rfl) (by kernel_rfl) rfl rfl rfl rfl rfl rfl rfl rfl rfl rfl rfl rfl rfl rfl rfl rfl rfl rfl rfl (by simp) (LineD.one ⟨⟨p.id, ls.length⟩, c.up, c.down, c.text⟩) ho4 (by omega) hSS ?_
      intro v' h5 o1 o2 o3
      refine WF.ex 17 (by kernel_rfl) rfl rfl rfl rfl ((ov_pv tab_ok rfl).ex ⟨.inr (hSS _ o2), ?_⟩)
      refine WF.done (by kernel_rfl) ?_
      repeat (first | refine Runs.ctl rfl ?_ | refine Runs.region ?_ | with_reducible refine WO.nil ?_ | refine zo1 ?_ | refine zo2 ?_ | refine zo3 ?_ | refine zo4 ?_ | refine zo5 ?_ | refine zo6 ?_ | refine zo7 ?_ | refine zo8 ?_ | refine zo9 ?_ | refine zo10 ?_ | refine zo11 ?_ | refine zo12 ?_ | refine zo0 ?_)
      have hsz := hx5.size
      refine ih ⟨i + 1, v'⟩ _ _ (by dsimp only; omega) ⟨rfl, rfl, rfl, rfl, rfl, trivial⟩ ⟨hlt', hx5.trans_new (o2.mono (fun k _ e => .inr (hm2 k e))), ?_, ?_⟩
      · dsimp only; rw [hsn, linesC_append, List.length_append]; exact o1
      · intro k hk
        rcases o3 k hk with e | e
        · exact hm2 k e
        · omega
    · rw [if_neg (by omega), List.append_nil] at hsn
      repeat (first | refine Runs.ctl rfl ?_ | refine Runs.region ?_ | with_reducible refine WO.nil ?_ | refine zo1 ?_ | refine zo2 ?_ | refine zo3 ?_ | refine zo4 ?_ | refine zo5 ?_ | refine zo6 ?_ | refine zo7 ?_ | refine zo8 ?_ | refine zo9 ?_ | refine zo10 ?_ | refine zo11 ?_ | refine zo12 ?_ | refine zo0 ?_)
      refine ih ⟨i + 1, _⟩ _ _ (by dsimp only; omega) ⟨rfl, rfl, rfl, rfl, rfl, trivial⟩ ⟨hlt', hx5, ?_, hm2⟩
      dsimp only; rw [hsn]; exact ho2.fr hx4 (by simp)
  · repeat (first | refine Runs.ctl rfl ?_ | refine Runs.region ?_ | with_reducible refine WO.nil ?_ | refine zo1 ?_ | refine zo2 ?_ | refine zo3 ?_ | refine zo4 ?_ | refine zo5 ?_ | refine zo6 ?_ | refine zo7 ?_ | refine zo8 ?_ | refine zo9 ?_ | refine zo10 ?_ | refine zo11 ?_ | refine zo12 ?_ | refine zo0 ?_)
    rw [List.take_of_length_le (by omega)] at ho2
    refine Runs.ret Tryz.func75 (ret1 Tryz.results75 rfl) ⟨hx2, ho2, fun k hk => .inr (hm2 k hk)⟩

end Go.Proofs.YtdglhhegmabeoaaGreatDoor
