import Derived.Test.YtfkkphojjfnjnaaGreatDoorT13
namespace Go.Proofs.YtfkkphojjfnjnaaGreatDoor
open Go Go.Pat Go.Proofs
/-- Unapply: the error, and the patches then. -/
def UnS (ps : List PatchD) (q : Int) (e : Nat) (ps' : List PatchD) : Prop :=
  ((∀ p ∈ ps, (p.id : Int) ≠ q) ∧ e = 8 ∧ ps' = ps) ∨
  ∃ p₀ ∈ ps, (p₀.id : Int) = q ∧ (((∃ p ∈ ps, p.id ≠ p₀.id ∧ Reach ps p.id p₀.id) ∧ e = 9 ∧ ps' = ps) ∨ ((∀ p ∈ ps, p.id ≠ p₀.id → ¬ Reach ps p.id p₀.id) ∧ e = 0 ∧ ps' = withoutS q ps))

set_option maxRecDepth 20000 in
set_option maxHeartbeats 3200000 in
theorem mUnapply_ret {F : Nat → Prop} (bm b : Nat) (bs : List Nat) (ps : List PatchD) (q : Int) (h : Heap) (hb : Blk h bm [.pointer (some ⟨b, 0, none⟩)] 65) (hs : SA F h b bs ps) (hF : ∀ k, F k → k ≠ bm) (hg : Good ps) (hcl : Closed ps) :
    Ret Tryz.prog 42 #[.pointer (some ⟨bm, 0, none⟩), .int .i64 q] h (fun v h' => ∃ e ps', UnS ps q e ps' ∧ After F bm h ps' e v h') := by
  refine Ret.of_body Tryz.func42 rfl Tryz.ntmps42 rfl rfl ?_
  have hbs : bs.length = ps.length := by obtain ⟨_, _, _, e, _⟩ := hs; exact e.1
  have hpl := hg.len
  have hbl := hb.lt
  have bad : ∀ e, UnS ps q e ps → ∀ (env : Env) (h' : Heap) (k : List Item), Ext h h' → Env.get? env 4 = some (.int .i64 (e : Int)) → Runs Tryz.prog 42 54 (fun v h' => ∃ e ps', UnS ps q e ps' ∧ After F bm h ps' e v h') (.code .ret :: k) env h' := fun e he env h' k hx e1 =>
    Runs.ret Tryz.func42 (ret1 Tryz.results42 e1) ⟨e, ps, he, hx.mono (by simp), rfl, b, bs, hb.ext hx, (hs.ext hx).mono (fun _ e => .inl e)⟩
  have m0 := hb.cell (j := 0) rfl
  refine zgo ?_
  refine WO.call rfl rfl rfl rfl plain60 rfl (get_ret b bs ps q _ hs (by omega)) fun v2 h2 ⟨hh2, hgot⟩ => ?_
  subst hh2
  obtain ⟨i0, b0, p0, hbi, hpi, hpq, hv2⟩ | ⟨hno, hv2⟩ := hgot
  rotate_left
  · subst hv2
    refine zgo ?_
    exact bad 8 (.inl ⟨hno, rfl, rfl⟩) _ _ _ (Fr.refl _ _) rfl
  subst hv2
  have hp0 : p0 ∈ ps := List.mem_of_getElem? hpi
  have hs0 := hs
  obtain ⟨lv, hsc, hsr, hsp, hsF, hsk⟩ := hs
  have s0 := hsc.head
  obtain ⟨ads, caps, hlv⟩ := hsr.form
  subst hlv
  refine zgo ?_
  refine Runs.loop (X := Nat) (fun j => [(0, .pointer (some ⟨bm, 0, none⟩)), (1, .int .i64 q), (20, .slice ads bs.length caps), (21, .int .i64 (bs.length : Int)), (22, .int .i64 (j : Int))])
    (fun j h' => Ext h2 h' ∧ j ≤ bs.length ∧ ∀ p ∈ ps.take j, (p.id : Int) ≠ q → ¬ Reach ps p.id p0.id) (fun j => bs.length - j) 0 ⟨rfl, rfl, rfl, rfl, rfl, trivial⟩ ⟨Fr.refl _ _, Nat.zero_le _, by simp⟩ ?_
  rintro j h3 ⟨hx3, hj, hall⟩ ih
  refine zgo ?_
  refine Runs.cond_dec rfl (fun hlt => ?_) (fun hge => ?_)
  · have hlt' : j < bs.length := by omega
    have hltp : j < ps.length := by omega
    have hget : bs[j]? = some bs[j] := List.getElem?_eq_getElem hlt'
    have hgetp : ps[j]? = some ps[j] := List.getElem?_eq_getElem hltp
    have hsn : ps.take (j + 1) = ps.take j ++ [ps[j]] := List.take_succ_eq_append_getElem hltp
    have hpm : ps[j] ∈ ps := List.getElem_mem hltp
    generalize bs[j] = bb at *
    generalize ps[j] = p at *
    have hpab := (hsp.2 j bb p hget hgetp).ext hx3
    obtain ⟨nv, cv, hpc, _⟩ := hpab
    have g0 := hpc.head
    obtain ⟨b5, p5, cap5, hv5, _, hcell⟩ := (hsr.ext hx3).cell (ptrs_get hget)
    cases hv5
    have m3 := hx3.xc m0
    refine zgo ?_
    refine Runs.drawn (m := 18) (Ext h3) (fun _ => false) mixed rfl ?_
    refine WF.take 0 rfl (fun _ _ => ov_pv tab_ok rfl) (Fr.refl _ _) rfl rfl rfl (by kernel_rfl) ?_
    refine WF.take 1 rfl (fun _ _ => ov_pv tab_ok rfl) (Fr.refl _ _) rfl rfl rfl (by kernel_rfl) ?_
    refine WF.take 2 rfl (fun _ _ => ov_pv tab_ok rfl) (Fr.refl _ _) rfl rfl rfl (by kernel_rfl) ?_
    refine WF.take 3 rfl (fun _ hS => ov_load tab_ok rfl rfl rfl rfl (hS.xc g0)) (Fr.refl _ _) rfl rfl rfl (by kernel_rfl) ?_
    refine WF.take 4 rfl (fun _ _ => ov_pv tab_ok rfl) (Fr.refl _ _) rfl rfl rfl (by kernel_rfl) ?_
    refine WF.take 5 rfl (fun _ _ => ov_pv tab_ok rfl) (Fr.refl _ _) rfl rfl rfl (by kernel_rfl) ?_
    refine WF.take 6 rfl (fun _ _ => ov_pv tab_ok rfl) (Fr.refl _ _) rfl rfl rfl (by kernel_rfl) ?_
    by_cases hq : (p.id : Int) = q
    · rw [decide_eq_true hq]
      refine WF.take_pass 7 rfl (Fr.refl _ _) rfl rfl rfl (by kernel_rfl) ?_
      refine WF.take_pass 8 rfl (Fr.refl _ _) rfl rfl rfl (by kernel_rfl) ?_
      refine WF.take_pass 9 rfl (Fr.refl _ _) rfl rfl rfl (by kernel_rfl) ?_
      refine WF.take_pass 10 rfl (Fr.refl _ _) rfl rfl rfl (by kernel_rfl) ?_
      refine WF.take_pass 11 rfl (Fr.refl _ _) rfl rfl rfl (by kernel_rfl) ?_
      refine WF.take_pass 12 rfl (Fr.refl _ _) rfl rfl rfl (by kernel_rfl) ?_
      refine WF.take_pass 13 rfl (Fr.refl _ _) rfl rfl rfl (by kernel_rfl) ?_
      refine WF.take_pass 14 rfl (Fr.refl _ _) rfl rfl rfl (by kernel_rfl) ?_
      refine WF.take_pass 15 rfl (Fr.refl _ _) rfl rfl rfl (by kernel_rfl) ?_
      refine WF.take_pass 16 rfl (Fr.refl _ _) rfl rfl rfl (by kernel_rfl) ?_
      refine WF.take 17 rfl (fun _ _ => ov_pv tab_ok rfl) (Fr.refl _ _) rfl rfl rfl (by kernel_rfl) ?_
      refine WF.done (by kernel_rfl) ?_
      refine zgo ?_
      refine ih (j + 1) _ _ (by omega) ⟨rfl, rfl, rfl, rfl, rfl, trivial⟩ ⟨hx3, hlt', fun p' hp' hne => ?_⟩
      rw [hsn] at hp'
      rcases List.mem_append.1 hp' with e | e
      · exact hall p' e hne
      · simp at e; subst e; exact absurd hq hne
    · rw [decide_eq_false hq]
      refine WF.take 7 rfl (fun _ _ => ov_pv tab_ok rfl) (Fr.refl _ _) rfl rfl rfl (by kernel_rfl) ?_
      refine WF.take 8 rfl (fun _ _ => ov_pv tab_ok rfl) (Fr.refl _ _) rfl rfl rfl (by kernel_rfl) ?_
      refine WF.take 9 rfl (fun _ _ => ov_pv tab_ok rfl) (Fr.refl _ _) rfl rfl rfl (by kernel_rfl) ?_
      refine WF.take 10 rfl (fun _ hS => ov_load tab_ok rfl rfl rfl rfl (hS.xc m3)) (Fr.refl _ _) rfl rfl rfl (by kernel_rfl) ?_
      refine WF.take 11 rfl (fun _ _ => ov_pv tab_ok rfl) (Fr.refl _ _) rfl rfl rfl (by kernel_rfl) ?_
      refine WF.take 12 rfl (fun _ _ => ov_pv tab_ok rfl) (Fr.refl _ _) rfl rfl rfl (by kernel_rfl) ?_
      refine WF.take 13 rfl (fun _ _ => ov_pv tab_ok rfl) (Fr.refl _ _) rfl rfl rfl (by kernel_rfl) ?_
      refine WF.take 14 rfl (fun _ hS => ov_load tab_ok rfl rfl rfl rfl (hS.xc g0)) (Fr.refl _ _) rfl rfl rfl (by kernel_rfl) ?_
      refine WF.take 15 rfl (fun _ _ => ov_pv tab_ok rfl) (Fr.refl _ _) rfl rfl rfl (by kernel_rfl) ?_
      rw [← hpq]
      refine WF.call 16 (by kernel_rfl) rfl rfl rfl rfl rfl plain78 rfl (knows_ret b p.id p0.id bs ps _ (hs0.ext hx3) hcl (List.mem_map.2 ⟨p, hpm, rfl⟩) (by omega) (fun x hx => by have := (hg.ok x hx).nlen; omega)) fun v4 h4 ⟨hx4, r, hv4, hr⟩ => ⟨.inr hx4, ?_⟩
      subst hv4
      refine WF.take 17 rfl (fun _ _ => ov_pv tab_ok rfl) hx4 rfl rfl rfl (by kernel_rfl) ?_
      refine WF.done (by kernel_rfl) ?_
      rw [hpq]
      cases r
      · refine zgo ?_
        refine ih (j + 1) _ _ (by omega) ⟨rfl, rfl, rfl, rfl, rfl, trivial⟩ ⟨hx3.trans hx4, hlt', fun p' hp' hne => ?_⟩
        rw [hsn] at hp'
        rcases List.mem_append.1 hp' with e | e
        · exact hall p' e hne
        · simp at e; subst e; intro e; exact absurd (hr.2 e) (by simp)
      · refine zgo ?_
        exact bad 9 (.inr ⟨p0, hp0, hpq, .inl ⟨⟨p, hpm, fun e => hq (by rw [e, hpq]), hr.1 rfl⟩, rfl, rfl⟩⟩) _ _ _ (hx3.trans hx4) rfl
  · have hno : ∀ p ∈ ps, p.id ≠ p0.id → ¬ Reach ps p.id p0.id := by
      rw [List.take_of_length_le (by omega)] at hall
      exact fun p hp hne => hall p hp (by omega)
    have m3 := hx3.xc m0
    clear ih hall
    refine zgo ?_
    refine WO.call rfl rfl rfl rfl plain79 rfl (without_ret b bs ps q _ (hs0.ext hx3) (by omega)) fun v9 h9 ⟨hx10, b9, bs9, hv9, hs9⟩ => ?_
    subst hv9
    have hb9 := (hb.ext hx3).ext hx10
    refine zgo ?_
    refine WO.put tab_ok rfl rfl rfl rfl rfl rfl rfl rfl (one_ptr _) hb9 rfl fun h10 hb10 hx11 hs10 => ?_
    refine zgo ?_
    have hsz3 := hx3.size
    refine Runs.ret Tryz.func42 (ret1 Tryz.results42 rfl) ⟨0, _, .inr ⟨p0, hp0, hpq, .inr ⟨hno, rfl, rfl⟩⟩, ((hx3.trans hx10).mono (by simp)).trans hx11, rfl, b9, bs9, hb10, ?_⟩
    refine SA.mono (hs9.fr hx11 (fun k hk => ?_)) (fun k hk => ?_)
    · rcases hk with hk | hk
      · exact hF k hk
      · have := hk.1; omega
    · rcases hk with hk | hk
      · exact .inl hk
      · exact .inr ((hk.dn hx3).up hx11)

end Go.Proofs.YtfkkphojjfnjnaaGreatDoor
