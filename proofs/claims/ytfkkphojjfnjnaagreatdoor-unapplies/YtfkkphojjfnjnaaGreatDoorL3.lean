import Derived.Test.YtfkkphojjfnjnaaGreatDoorL2
namespace Go.Proofs.YtfkkphojjfnjnaaGreatDoor
open Go Go.Pat Go.Proofs

theorem plain_mineInts : Plain Tryz.prog 56 := ⟨_, Tryz.func56, by decide +kernel, by rfl⟩
theorem plain_logged : Plain Tryz.prog 29 := ⟨_, Tryz.func29, by decide +kernel, by rfl⟩

structure IVO where
  (i : Nat) (v : Value) (out : List (List UInt8))

set_option maxRecDepth 20000 in
set_option maxHeartbeats 800000 in
theorem alive_ret {F : Nat → Prop} (pb po : Nat) (s : SP) (h : Heap) (c1 : cellAt h pb (po + 1) = some (.pointer (some ⟨s.mb, 0, none⟩))) (hp : PairOK F h s) :
    Ret Tryz.prog 34 #[.pointer (some ⟨pb, po, none⟩)] h fun v h' => Ext h h' ∧ ∃ out : List (List UInt8), Own h' 9 1 v out.length (strs out) ∧ out.length ≤ 300 ∧ ∀ k, v.ownBlock = some k → h.size ≤ k := by
  refine Ret.of_body Tryz.func34 rfl Tryz.ntmps34 rfl rfl ?_
  obtain ⟨st, hst⟩ := strand_ex (alS s.ps).length (leadS s.ps) (blkS s.ps)
  obtain ⟨orp, hor⟩ := orphan_ex s.ps (alS s.ps)
  have hne := show_ne (ps := s.ps) (st := st) (orp := orp)
  have hlen : (showFull s.ps st orp).length ≤ 270 := by
    have h1 := showTo_len (alS s.ps) ((opOf s.ps st orp).to (alS s.ps).length) (alS s.ps).length
    have h2 := alS_len s.ps
    have h3 := hp.inv.lines
    unfold showFull; omega
  refine zgo ?_
  refine WO.call rfl rfl rfl rfl plain_mShow rfl (mShow_ret s.mb s.b s.bs s.ps st orp _ hp.m hp.sa hp.inv.good hp.inv.closed hst hor) fun v1 h1 ⟨hx1, ho1, hm1⟩ => ?_
  generalize showFull s.ps st orp = L at *
  have hr1 := ho1.rd
  obtain ⟨ad, cap, hv⟩ := hr1.form
  subst hv
  have hz1 := hx1.size
  refine zgo ?_
  refine Runs.loop (X := IVO) (fun x => [(3, x.v), (10, .slice ad L.length cap), (11, .int .i64 (L.length : Int)), (12, .int .i64 (x.i : Int))])
    (fun x h' => x.i ≤ L.length ∧ Ext h1 h' ∧ Own h' 9 1 x.v x.out.length (strs x.out) ∧ x.out.length ≤ x.i ∧ (∀ k, x.v.ownBlock = some k → h1.size ≤ k))
    (fun x => L.length - x.i) ⟨0, .slice none 0 0, []⟩ ⟨rfl, rfl, rfl, rfl, trivial⟩ ⟨Nat.zero_le _, Fr.refl _ _, Own.nil _ _ _, Nat.le_refl _, fun k hk => by simp [Value.ownBlock] at hk⟩ ?_
  rintro ⟨i, v, out⟩ h2 ⟨hi, hx2, ho2, hol, hm2⟩ ih
  dsimp only at hi hx2 ho2 hol hm2 ih ⊢
  have hz2 := hx2.size
  refine zgo ?_
  refine Runs.cond_dec rfl (fun hlt => ?_) (fun hge => ?_)
  rotate_left
  · refine zgo ?_
    exact Runs.ret Tryz.func34 (ret1 Tryz.results34 rfl) ⟨hx1.trans hx2, out, ho2, by omega, fun k hk => by have := hm2 k hk; omega⟩
  have hlt' : i < L.length := by omega
  have hget : L[i]? = some L[i] := List.getElem?_eq_getElem hlt'
  have htn := hne L[i] (List.getElem_mem hlt')
  generalize L[i] = t at *
  obtain ⟨b0, p0, cap0, hv, _, hc⟩ := (hr1.ext hx2).cell (strs_get hget)
  cases hv
  have hlen1 : 1 ≤ t.length := by
    cases t with
    | nil => exact absurd rfl htn
    | cons a t => simp
  have skip : IVO.mk (i + 1) v out = ⟨i + 1, v, out⟩ := rfl
  refine zgo ?_
  by_cases e1 : t = [60]
  · have hd : decide (t = [60]) = true := decide_eq_true e1
    rw [hd]
    refine zgo ?_
    exact ih ⟨i + 1, v, out⟩ _ _ (by dsimp only; omega) ⟨rfl, rfl, rfl, rfl, trivial⟩ ⟨hlt', hx2, ho2, by dsimp only; omega, hm2⟩
  have hd1 : decide (t = [60]) = false := decide_eq_false e1
  rw [hd1]
  refine zgo ?_
  by_cases e2 : t = [61]
  · have hd : decide (t = [61]) = true := decide_eq_true e2
    rw [hd]
    refine zgo ?_
    exact ih ⟨i + 1, v, out⟩ _ _ (by dsimp only; omega) ⟨rfl, rfl, rfl, rfl, trivial⟩ ⟨hlt', hx2, ho2, by dsimp only; omega, hm2⟩
  have hd2 : decide (t = [61]) = false := decide_eq_false e2
  rw [hd2]
  refine zgo ?_
  refine Runs.cond_ndec rfl (fun e3 => ?_) (fun e3 => ?_)
  · refine zgo ?_
    refine WO.push tab_ok rfl rfl rfl rfl rfl rfl rfl rfl rfl rfl rfl rfl rfl rfl rfl rfl rfl (by simp) (one_str _) ho2 (by omega) ?_
    intro v' h3 o1 o2 o3
    refine zgo ?_
    refine ih ⟨i + 1, v', out ++ [t.drop 1]⟩ _ _ (by dsimp only; omega) ⟨rfl, rfl, rfl, rfl, trivial⟩ ⟨hlt', hx2.trans_new (o2.mono (fun k _ e => .inr (hm2 k e))), ?_, by simp; omega, ?_⟩
    · dsimp only; rw [strs_append, List.length_append]; exact o1
    · intro k hk
      rcases o3 k hk with e | e
      · exact hm2 k e
      · omega
  · refine zgo ?_
    exact ih ⟨i + 1, v, out⟩ _ _ (by dsimp only; omega) ⟨rfl, rfl, rfl, rfl, trivial⟩ ⟨hlt', hx2, ho2, by dsimp only; omega, hm2⟩

/-- The cells of a list of one's own, its room too. -/
theorem Own.blk {h : Heap} {e : TypeId} {v : Value} {n : Nat} {xs : List Value} (x : Own h e 1 v n xs) : (v = .slice none 0 0 ∧ n = 0) ∨ ∃ g cap cs, v = .slice (some ⟨g, 0, none⟩) n cap ∧ Blk h g cs e ∧ cs.length = cap ∧ n ≤ cap ∧ cap ≤ maxLen := by
  rcases x.2 with h1 | ⟨g, cap, cur, h1, h2, h3, h4, h5, _⟩
  · exact .inl h1
  · refine .inr ⟨g, cap, cur.toList, h1, ?_, by simpa using h5, h3, h4⟩
    simpa [Blk] using h2

set_option maxRecDepth 20000 in
set_option maxHeartbeats 800000 in
theorem mineInts_ret (wb : Nat) (sv tv fv lsv iv v : Value) (m n : Nat) (ivs xs : List Value) (h : Heap) (hb : Blk h wb [sv, tv, fv, lsv, iv] 33) (hi : Own h 56 1 iv m ivs) (ho : Own h 3 1 v n xs)
    (hw : ∀ k, v.ownBlock = some k → k ≠ wb) (hw2 : ∀ k, iv.ownBlock = some k → k ≠ wb) (hvi : ∀ k, v.ownBlock = some k → iv.ownBlock ≠ some k) (hm : m ≤ 4000000) :
    Ret Tryz.prog 56 #[.pointer (some ⟨wb, 0, none⟩), v] h fun _ h' => Fr (fun k => k = wb ∨ v.ownBlock = some k ∨ iv.ownBlock = some k) h h' ∧ ∃ iv' m' ivs', Blk h' wb [sv, tv, fv, lsv, iv'] 33 ∧ Own h' 56 1 iv' m' ivs' ∧ Moved h iv iv' ∧ m' ≤ m + 1 := by
  rcases Own.blk ho with ⟨hv, _⟩ | ⟨g, cap, cs, hv, hbg, hcs, hn, hcap⟩
  · subst hv
    refine Ret.of_body Tryz.func56 rfl Tryz.ntmps56 rfl rfl ?_
    refine zgo ?_
    exact Runs.ret Tryz.func56 (ret0 Tryz.results56) ⟨Fr.refl _ _, iv, m, ivs, hb, hi, Moved.refl _ _, by omega⟩
  · subst hv
    have hgw : g ≠ wb := hw g rfl
    have hgi : iv.ownBlock ≠ some g := hvi g rfl
    obtain ⟨adi, capi, hiv⟩ := hi.rd.form
    subst hiv
    have hcap' : cap ≤ 9223372036854775807 := hcap
    refine Ret.of_body Tryz.func56 rfl Tryz.ntmps56 rfl rfl ?_
    refine zgo ?_
    refine WO.val (ov_cap tab_ok rfl rfl rfl) rfl rfl rfl ?_
    refine WO.val (ov_slice_hi tab_ok rfl rfl rfl rfl rfl rfl (Nat.le_refl _)) rfl rfl rfl ?_
    refine zgo ?_
    refine Runs.loop (X := Nat) (fun i => [(0, .pointer (some ⟨wb, 0, none⟩)), (1, .slice (some ⟨g, 0, none⟩) cap cap), (13, .int .i64 (cap : Int)), (14, .int .i64 (i : Int))])
      (fun i h' => i ≤ cap ∧ Fr (fun k => k = g) h h' ∧ ∃ c', c'.length = cap ∧ Blk h' g c' 3) (fun i => cap - i) 0 ⟨rfl, rfl, rfl, rfl, trivial⟩ ⟨Nat.zero_le _, Fr.refl _ _, cs, hcs, hbg⟩ ?_
    rintro i h1 ⟨hi1, hf1, c', hc', hbg1⟩ ih
    have hb1 := hb.fr hf1 (fun e => hgw e.symm)
    have w4 := hb1.cell (j := 4) rfl
    refine zgo ?_
    refine Runs.cond_dec rfl (fun hlt => ?_) (fun hge => ?_)
    · have hlt' : i < cap := by omega
      refine zgo ?_
      refine WO.put1 tab_ok rfl rfl rfl rfl rfl rfl rfl (one_int _) hbg1 (by omega) fun h2 hb2 hx2 hs2 => ?_
      refine zgo ?_
      exact ih (i + 1) _ _ (by omega) ⟨rfl, rfl, rfl, rfl, trivial⟩ ⟨hlt', hf1.trans hx2, _, by simpa using hc', hb2⟩
    · have hi2 := hi.fr hf1 (fun k hk e => hgi (e ▸ hk))
      refine zgo ?_
      refine WO.push tab_ok rfl rfl rfl rfl rfl rfl rfl rfl rfl rfl rfl rfl rfl rfl rfl rfl rfl (by simp) (one_slice _ _ _) hi2 (by omega) ?_
      intro v3 h3 o1 o2 o3
      have hb3 := hb1.fr o2 (fun e => hw2 _ e rfl)
      obtain ⟨ad3, cap3, hv3⟩ := o1.rd.form
      subst hv3
      refine zgo ?_
      refine WO.put tab_ok rfl rfl rfl rfl rfl rfl rfl rfl (one_slice _ _ _) hb3 rfl fun h4 hb4 hx4 hs4 => ?_
      refine zgo ?_
      have hz1 := hf1.size
      have hlw := hb.lt
      refine Runs.fall Tryz.func56 (ret0 Tryz.results56) ⟨?_, _, m + 1, _, hb4, o1.fr hx4 (fun k hk e => ?_), fun k hk => ?_, Nat.le_refl _⟩
      · exact ((hf1.mono fun k _ e => .inr (.inl (by rw [e]; rfl))).trans (o2.mono fun k _ e => .inr (.inr e))).trans (hx4.mono fun k _ e => .inl e)
      · subst e
        rcases o3 k hk with e' | e'
        · exact hw2 k e' rfl
        · omega
      · rcases o3 k hk with e' | e'
        · exact .inl e'
        · right; omega

set_option maxRecDepth 20000 in
set_option maxHeartbeats 800000 in
theorem logged_ret {F : Nat → Prop} (wb pb po : Nat) (sv tv fv lsv iv : Value) (m : Nat) (ivs : List Value) (s : SP) (h : Heap) (hb : Blk h wb [sv, tv, fv, lsv, iv] 33) (hi : Own h 56 1 iv m ivs)
    (c0 : cellAt h pb (po + 0) = some (.pointer (some ⟨s.xb, 0, none⟩))) (c1 : cellAt h pb (po + 1) = some (.pointer (some ⟨s.mb, 0, none⟩))) (hp : PairOK F h s) (hw2 : ∀ k, iv.ownBlock = some k → k ≠ wb) (hm : m ≤ 4000000) :
    Ret Tryz.prog 29 #[.pointer (some ⟨wb, 0, none⟩), .pointer (some ⟨pb, po, none⟩)] h fun v h' => v = .bool true ∧ Fr (fun k => k = wb ∨ iv.ownBlock = some k) h h' ∧ ∃ iv' m' ivs', Blk h' wb [sv, tv, fv, lsv, iv'] 33 ∧ Own h' 56 1 iv' m' ivs' ∧ Moved h iv iv' ∧ m' ≤ m + 1 := by
  refine Ret.of_body Tryz.func29 rfl Tryz.ntmps29 rfl rfl ?_
  have hll : s.l.length ≤ 1000 := by have := hp.inv.len; simp [SP.ps] at this; omega
  have hbs : s.bs.length = s.ps.length := by obtain ⟨_, _, _, e, _⟩ := hp.sa; exact e.1
  have hpl := hp.inv.len
  have hil : (idsS s.ps).length ≤ 20 := by simp [idsS]; omega
  refine zgo ?_
  refine WO.call rfl rfl rfl rfl plain_xLog rfl (xLog_ret s.xb s.l s.lv _ hp.x hp.xs hll) fun v1 h1 ⟨hx1, ho1, hm1⟩ => ?_
  have d1 := hx1.xc c1
  refine zgo ?_
  refine WO.call rfl rfl rfl rfl plain_mLog rfl (mLog_ret s.mb s.b s.bs s.ps _ (hp.m.ext hx1) (hp.sa.ext hx1) (by omega)) fun v2 h2 ⟨hx2, ho2, hm2⟩ => ?_
  have ho1' := ho1.fr hx2 (by simp)
  refine zgo ?_
  refine WO.call rfl rfl rfl rfl plain42 rfl (sameInts_ret (idsS s.ps) (idsS s.ps) v1 v2 _ ho1'.rd ho2.rd (by omega) (by omega)) fun v3 h3 ⟨hh3, hv3⟩ => ?_
  subst hh3 hv3
  have hx02 := hx1.trans hx2
  have hlw := hb.lt
  have hvn : ∀ k, v1.ownBlock = some k → h.size ≤ k := fun k hk => by
    rcases hm1 k hk with e | e
    · simp [Value.ownBlock] at e
    · exact e
  refine zgo ?_
  refine WO.call rfl rfl rfl rfl plain_mineInts rfl (mineInts_ret wb sv tv fv lsv iv v1 m _ ivs _ _ (hb.ext hx02) (hi.fr hx02 (by simp)) ho1' (fun k hk e => by have := hvn k hk; omega) hw2 (fun k hk e => by have := hvn k hk; have := hi.lt k e; omega) hm) fun v4 h4 ⟨hf4, iv', m', ivs', hb4, hi4, hmv4, hm4⟩ => ?_
  refine zgo ?_
  have hz := hx02.size
  refine Runs.ret Tryz.func29 (ret1 Tryz.results29 rfl) ⟨by simp, ?_, iv', m', ivs', hb4, hi4, fun k hk => ?_, hm4⟩
  · refine (hx02.up).trans_new (hf4.mono fun k _ e => ?_)
    rcases e with e | e | e
    · exact .inl (.inl e)
    · exact .inr (hvn k e)
    · exact .inl (.inr e)
  · rcases hmv4 k hk with e | e
    · exact .inl e
    · right; omega

end Go.Proofs.YtfkkphojjfnjnaaGreatDoor
