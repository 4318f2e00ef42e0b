import Derived.Test.YtfkkphojjfnjnaaGreatDoorT14
namespace Go.Proofs.YtfkkphojjfnjnaaGreatDoor
open Go Go.Pat Go.Proofs

def idsS (ps : List PatchD) : List Nat := ps.map PatchD.id

set_option maxRecDepth 20000 in
set_option maxHeartbeats 800000 in
theorem mLog_ret {F : Nat → Prop} (bm b : Nat) (bs : List Nat) (ps : List PatchD) (h : Heap) (hb : Blk h bm [.pointer (some ⟨b, 0, none⟩)] 65) (hs : SA F h b bs ps) (hl : bs.length ≤ 1000) :
    Ret Tryz.prog 47 #[.pointer (some ⟨bm, 0, none⟩)] h fun v h' => Ext h h' ∧ Own h' 3 1 v (idsS ps).length (ints (idsS ps)) ∧ Moved h (.slice none 0 0) v := by
  refine Ret.of_body Tryz.func47 rfl Tryz.ntmps47 rfl rfl ?_
  have m0 := hb.cell (j := 0) rfl
  obtain ⟨lv, hsc, hsr, hsp, _⟩ := hs
  have s0 := hsc.head
  have hbs : bs.length = ps.length := hsp.1
  obtain ⟨ad, cap, hlv⟩ := hsr.form
  subst hlv
  refine zgo ?_
  refine Runs.loop (X := IV) (fun x => [(3, x.v), (12, .slice ad bs.length cap), (13, .int .i64 (bs.length : Int)), (14, .int .i64 (x.i : Int))])
    (fun x h' => x.i ≤ bs.length ∧ Ext h h' ∧ Own h' 3 1 x.v (idsS (ps.take x.i)).length (ints (idsS (ps.take x.i))) ∧ (∀ k, x.v.ownBlock = some k → h.size ≤ k))
    (fun x => bs.length - x.i) ⟨0, .slice none 0 0⟩ ⟨rfl, rfl, rfl, rfl, trivial⟩ ⟨Nat.zero_le _, Fr.refl _ _, Own.nil _ _ _, fun k hk => by simp [Value.ownBlock] at hk⟩ ?_
  rintro ⟨i, v⟩ h2 ⟨hi, hx2, ho2, hm2⟩ ih
  dsimp only at hi hx2 ho2 hm2 ih ⊢
  have hidl : (idsS (ps.take i)).length ≤ i := by simp [idsS]; omega
  refine zgo ?_
  refine Runs.cond_dec rfl (fun hlt => ?_) (fun hge => ?_)
  · have hlt' : i < bs.length := by omega
    have hltp : i < ps.length := by omega
    have hget : bs[i]? = some bs[i] := List.getElem?_eq_getElem hlt'
    have hgetp : ps[i]? = some ps[i] := List.getElem?_eq_getElem hltp
    have hsn : idsS (ps.take (i + 1)) = idsS (ps.take i) ++ [ps[i].id] := by rw [List.take_succ_eq_append_getElem hltp]; simp only [idsS, List.map_append, List.map_cons, List.map_nil]
    generalize bs[i] = bb at *
    generalize ps[i] = p at *
    obtain ⟨nv, cv, hpc, _⟩ := (hsp.2 i bb p hget hgetp).ext hx2
    have g0 := hpc.head
    obtain ⟨b0, p0, cap0, hv, _, hcell⟩ := (hsr.ext hx2).cell (ptrs_get hget)
    cases hv
    refine zgo ?_
    refine WO.push tab_ok rfl rfl rfl rfl rfl rfl rfl rfl rfl rfl rfl rfl rfl rfl rfl rfl rfl (by simp) (one_int _) ho2 (by omega) ?_
    intro v' h3 o1 o2 o3
    refine zgo ?_
    have hsz := hx2.size
    refine ih ⟨i + 1, v'⟩ _ _ (by dsimp only; omega) ⟨rfl, rfl, rfl, rfl, trivial⟩ ⟨hlt', hx2.trans_new (o2.mono (fun k _ e => .inr (hm2 k e))), ?_, ?_⟩
    · dsimp only; rw [hsn]; simpa [ints] using o1
    · intro k hk
      rcases o3 k hk with e | e
      · exact hm2 k e
      · omega
  · refine zgo ?_
    rw [List.take_of_length_le (by omega)] at ho2
    exact Runs.ret Tryz.func47 (ret1 Tryz.results47 rfl) ⟨hx2, ho2, fun k hk => .inr (hm2 k hk)⟩

/-- Text: what is answered. -/
def TxS (ps : List PatchD) (q : Int) (t : List UInt8) (e : Nat) : Prop :=
  (∃ p ∈ ps, (p.id : Int) = q ∧ t = textS p ∧ e = 0) ∨ ((∀ p ∈ ps, (p.id : Int) ≠ q) ∧ t = [] ∧ e = 8)

set_option maxRecDepth 20000 in
set_option maxHeartbeats 800000 in
theorem mText_ret {F : Nat → Prop} (bm b : Nat) (bs : List Nat) (ps : List PatchD) (q : Int) (h : Heap) (hb : Blk h bm [.pointer (some ⟨b, 0, none⟩)] 65) (hs : SA F h b bs ps) (hg : Good ps) :
    Ret Tryz.prog 58 #[.pointer (some ⟨bm, 0, none⟩), .int .i64 q] h fun v h' => Ext h h' ∧ ∃ t e, v = .tuple #[.string (str t), .int .i64 (e : Nat)] ∧ TxS ps q t e := by
  refine Ret.of_body Tryz.func58 rfl Tryz.ntmps58 rfl rfl ?_
  have m0 := hb.cell (j := 0) rfl
  have hbs : bs.length = ps.length := by obtain ⟨_, _, _, e, _⟩ := hs; exact e.1
  have hpl := hg.len
  refine zgo ?_
  refine WO.call rfl rfl rfl rfl plain60 rfl (get_ret b bs ps q _ hs (by omega)) fun v2 h2 ⟨hh2, hgot⟩ => ?_
  subst hh2
  obtain ⟨i, bb, p, hbi, hpi, hpq, hv2⟩ | ⟨hno, hv2⟩ := hgot
  · subst hv2
    have hpm : p ∈ ps := List.mem_of_getElem? hpi
    have hpa : PA F h2 bb p := by obtain ⟨_, _, _, e, _⟩ := hs; exact e.2 i bb p hbi hpi
    refine zgo ?_
    refine WO.call rfl rfl rfl rfl plain63 rfl (text_ret p bb _ hpa (hg.ok p hpm)) fun v3 h3 ⟨hx3, hv3⟩ => ?_
    subst hv3
    refine zgo ?_
    exact Runs.ret Tryz.func58 (ret2 Tryz.results58 rfl rfl) ⟨hx3, textS p, 0, rfl, .inl ⟨p, hpm, hpq, rfl, rfl⟩⟩
  · subst hv2
    refine zgo ?_
    exact Runs.ret Tryz.func58 (ret2 Tryz.results58 rfl rfl) ⟨Fr.refl _ _, [], 8, rfl, .inr ⟨hno, rfl, rfl⟩⟩

theorem plain42 : Plain Tryz.prog 45 := ⟨_, Tryz.func45, by decide +kernel, by rfl⟩

set_option maxRecDepth 20000 in
set_option maxHeartbeats 800000 in
theorem sameInts_ret (l m : List Nat) (v u : Value) (h : Heap) (hv : Rd h 1 v l.length (ints l)) (hu : Rd h 1 u m.length (ints m)) (hl : l.length ≤ 16777216) (hm : m.length ≤ 16777216) :
    Ret Tryz.prog 45 #[v, u] h fun r h' => h' = h ∧ r = .bool (decide (l = m)) := by
  obtain ⟨ad, cap, e⟩ := hv.form
  obtain ⟨ad2, cap2, e2⟩ := hu.form
  subst e e2
  refine Ret.of_body Tryz.func45 rfl Tryz.ntmps45 rfl rfl ?_
  refine zgo ?_
  refine Runs.cond_ndec rfl (fun q1 => ?_) (fun q1 => ?_)
  · refine zgo ?_
    refine Runs.ret Tryz.func45 (ret1 Tryz.results45 rfl) ⟨rfl, ?_⟩
    have : ¬ l = m := fun e => q1 (by rw [e])
    simp [this]
  · have hlm : l.length = m.length := by omega
    refine zgo ?_
    refine Runs.loop (X := Nat) (fun i => [(0, .slice ad l.length cap), (1, .slice ad2 m.length cap2), (12, .int .i64 (l.length : Int)), (13, .int .i64 (i : Int))])
      (fun i h' => h = h' ∧ i ≤ l.length ∧ l.take i = m.take i) (fun i => l.length - i) 0 ⟨rfl, rfl, rfl, rfl, trivial⟩ ⟨rfl, Nat.zero_le _, rfl⟩ ?_
    rintro i _ ⟨rfl, hi, heq⟩ ih
    refine zgo ?_
    refine Runs.cond_dec rfl (fun hlt => ?_) (fun hge => ?_)
    · have hlt' : i < l.length := by omega
      have hltm : i < m.length := by omega
      have hget : l[i]? = some l[i] := List.getElem?_eq_getElem hlt'
      have hgetm : m[i]? = some m[i] := List.getElem?_eq_getElem hltm
      have hsn := List.take_succ_eq_append_getElem hlt'
      have hsm := List.take_succ_eq_append_getElem hltm
      generalize hx : l[i] = x at *
      generalize hy : m[i] = y at *
      obtain ⟨b0, p0, cap0, e0, _, hcell⟩ := hv.cell (ints_get hget)
      cases e0
      obtain ⟨b1, p1, cap1, e1, _, hcell1⟩ := hu.cell (ints_get hgetm)
      cases e1
      refine zgo ?_
      refine Runs.still mixed (by kernel_rfl) ?_
      refine zws ?_
      refine Runs.cond_ndec rfl (fun hne => ?_) (fun he => ?_)
      · refine zgo ?_
        refine Runs.ret Tryz.func45 (ret1 Tryz.results45 rfl) ⟨rfl, ?_⟩
        have : ¬ l = m := fun e => by
          subst e
          rw [hget] at hgetm
          cases hgetm
          exact hne rfl
        simp [this]
      · refine zgo ?_
        refine ih (i + 1) _ _ (by omega) ⟨rfl, rfl, rfl, rfl, trivial⟩ ⟨rfl, hlt', ?_⟩
        have : x = y := by omega
        rw [hsn, hsm, heq, this]
    · refine zgo ?_
      refine Runs.ret Tryz.func45 (ret1 Tryz.results45 rfl) ⟨rfl, ?_⟩
      have : l = m := by
        rw [List.take_of_length_le (by omega), List.take_of_length_le (by omega)] at heq
        exact heq
      simp [this]

end Go.Proofs.YtfkkphojjfnjnaaGreatDoor
