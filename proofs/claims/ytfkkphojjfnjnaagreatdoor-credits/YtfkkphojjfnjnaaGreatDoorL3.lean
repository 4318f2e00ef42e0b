import Derived.Test.YtfkkphojjfnjnaaGreatDoorL2
namespace Go.Proofs.YtfkkphojjfnjnaaGreatDoor
open Go Go.Pat Go.Proofs


structure IVO where
  (i : Nat) (v : Value) (out : List (List UInt8))

set_option maxRecDepth 20000 in
set_option maxHeartbeats 800000 in
theorem alive_ret {F : Nat → Prop} (pb po : Nat) (s : SP) (h : Heap) (c1 : cellAt h pb (po + 1) = some (.pointer (some ⟨s.mb, 0, none⟩))) (hp : PairOK F h s) :
    Ret Tryz.prog 34 #[.pointer (some ⟨pb, po, none⟩)] h fun v h' => Ext h h' ∧ ∃ out : List (List UInt8), Own h' 9 1 v out.length (strs out) ∧ out.length ≤ 300 ∧ ∀ k, v.ownBlock = some k → h.size ≤ k := by
  refine Ret.of_body Tryz.func34 rfl Tryz.ntmps34 rfl rfl ?_
  obtain ⟨st, hst⟩ := strand_ex (alS s.ps).length (leadS s.ps) (blkS s.ps)
  obtain ⟨orp, hor⟩ := orphan_ex s.ps (alS s.ps)
  have hne := show_ne (ps := s.ps) (st := st) (orp := orp)
  have hlen : (showFull s.ps st orp).length ≤ 270 := by
    have h1 := showTo_len (alS s.ps) ((opOf s.ps st orp).to (alS s.ps).length) (alS s.ps).length
    have h2 := alS_len s.ps
    have h3 := hp.inv.lines
    unfold showFull; omega
  refine zgo ?_
  refine WO.call rfl rfl rfl rfl plain_mShow rfl (mShow_ret s.mb s.b s.bs s.ps st orp _ hp.m hp.sa hp.inv.good hp.inv.closed hst hor) fun v1 h1 ⟨hx1, ho1, hm1⟩ => ?_
  generalize showFull s.ps st orp = L at *
  have hr1 := ho1.rd
  obtain ⟨ad, cap, hv⟩ := hr1.form
  subst hv
  have hz1 := hx1.size
  refine zgo ?_
  refine Runs.loop (X := IVO) (fun x => [(3, x.v), (10, .slice ad L.length cap), (11, .int .i64 (L.length : Int)), (12, .int .i64 (x.i : Int))])
    (fun x h' => x.i ≤ L.length ∧ Ext h1 h' ∧ Own h' 9 1 x.v x.out.length (strs x.out) ∧ x.out.length ≤ x.i ∧ (∀ k, x.v.ownBlock = some k → h1.size ≤ k))
    (fun x => L.length - x.i) ⟨0, .slice none 0 0, []⟩ ⟨rfl, rfl, rfl, rfl, trivial⟩ ⟨Nat.zero_le _, Fr.refl _ _, Own.nil _ _ _, Nat.le_refl _, fun k hk => by simp [Value.ownBlock] at hk⟩ ?_
  rintro ⟨i, v, out⟩ h2 ⟨hi, hx2, ho2, hol, hm2⟩ ih
  dsimp only at hi hx2 ho2 hol hm2 ih ⊢
  have hz2 := hx2.size
  refine zgo ?_
  refine Runs.cond_dec rfl (fun hlt => ?_) (fun hge => ?_)
  rotate_left
  · refine zgo ?_
    exact Runs.ret Tryz.func34 (ret1 Tryz.results34 rfl) ⟨hx1.trans hx2, out, ho2, by omega, fun k hk => by have := hm2 k hk; omega⟩
  have hlt' : i < L.length := by omega
  have hget : L[i]? = some L[i] := List.getElem?_eq_getElem hlt'
  have htn := hne L[i] (List.getElem_mem hlt')
  generalize L[i] = t at *
  obtain ⟨b0, p0, cap0, hv, _, hc⟩ := (hr1.ext hx2).cell (strs_get hget)
  cases hv
  have hlen1 : 1 ≤ t.length := by
    cases t with
    | nil => exact absurd rfl htn
    | cons a t => simp
  have skip : IVO.mk (i + 1) v out = ⟨i + 1, v, out⟩ := rfl
  refine zgo ?_
  by_cases e1 : t = [60]
  · have hd : decide (t = [60]) = true := decide_eq_true e1
    rw [hd]
    refine zgo ?_
    exact ih ⟨i + 1, v, out⟩ _ _ (by dsimp only; omega) ⟨rfl, rfl, rfl, rfl, trivial⟩ ⟨hlt', hx2, ho2, by dsimp only; omega, hm2⟩
  have hd1 : decide (t = [60]) = false := decide_eq_false e1
  rw [hd1]
  refine zgo ?_
  by_cases e2 : t = [61]
  · have hd : decide (t = [61]) = true := decide_eq_true e2
    rw [hd]
    refine zgo ?_
    exact ih ⟨i + 1, v, out⟩ _ _ (by dsimp only; omega) ⟨rfl, rfl, rfl, rfl, trivial⟩ ⟨hlt', hx2, ho2, by dsimp only; omega, hm2⟩
  have hd2 : decide (t = [61]) = false := decide_eq_false e2
  rw [hd2]
  refine zgo ?_
  refine Runs.cond_ndec rfl (fun e3 => ?_) (fun e3 => ?_)
  · refine zgo ?_
    refine WO.push tab_ok rfl rfl rfl rfl rfl rfl rfl rfl rfl rfl rfl rfl rfl rfl rfl rfl rfl (by simp) (one_str _) ho2 (by omega) ?_
    intro v' h3 o1 o2 o3
    refine zgo ?_
    refine ih ⟨i + 1, v', out ++ [t.drop 1]⟩ _ _ (by dsimp only; omega) ⟨rfl, rfl, rfl, rfl, trivial⟩ ⟨hlt', hx2.trans_new (o2.mono (fun k _ e => .inr (hm2 k e))), ?_, by simp; omega, ?_⟩
    · dsimp only; rw [strs_append, List.length_append]; exact o1
    · intro k hk
      rcases o3 k hk with e | e
      · exact hm2 k e
      · omega
  · refine zgo ?_
    exact ih ⟨i + 1, v, out⟩ _ _ (by dsimp only; omega) ⟨rfl, rfl, rfl, rfl, trivial⟩ ⟨hlt', hx2, ho2, by dsimp only; omega, hm2⟩

/-- The cells of a list of one's own, its room too. -/
theorem Own.blk {h : Heap} {e : TypeId} {v : Value} {n : Nat} {xs : List Value} (x : Own h e 1 v n xs) : (v = .slice none 0 0 ∧ n = 0) ∨ ∃ g cap cs, v = .slice (some ⟨g, 0, none⟩) n cap ∧ Blk h g cs e ∧ cs.length = cap ∧ n ≤ cap ∧ cap ≤ maxLen := by
  rcases x.2 with h1 | ⟨g, cap, cur, h1, h2, h3, h4, h5, _⟩
  · exact .inl h1
  · refine .inr ⟨g, cap, cur.toList, h1, ?_, by simpa using h5, h3, h4⟩
    simpa [Blk] using h2

end Go.Proofs.YtfkkphojjfnjnaaGreatDoor
