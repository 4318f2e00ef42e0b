import Derived.Test.YtfkkphojjfnjnaaGreatDoorL6
namespace Go.Proofs.YtfkkphojjfnjnaaGreatDoor
open Go Go.Pat Go.Proofs

theorem plain_UpTo : Plain Tryz.prog 14 := ⟨_, Tryz.func14, by decide +kernel, by rfl⟩

theorem Fr.base {h h' : Heap} (f : Fr (fun k => h.size ≤ k) h h') : Ext h h' := f.mono fun k hk e => by omega

structure UX where
  (i : Nat) (ρ : Nat → Nat) (w : WS1)

set_option maxRecDepth 20000 in
set_option maxHeartbeats 1600000 in
theorem upTo_ret (only : Int) (ho : only ≠ 0) (hso : (if only = -1 then 2 else stageS only) ≤ 2) (l : List OpD) (v : Value) (h : Heap) (hr : Rd h 6 v l.length (opsC l)) (hok : ∀ o ∈ l, OpD.ok o) (hw : l.length + weight l ≤ 1048576) (htab : Tab10 h) :
    Ret Tryz.prog 14 #[v, .int .i64 only] h fun r h' => Ext h h' ∧ r = .int .i64 (-1) := by
  obtain ⟨ad, cap, hv⟩ := hr.form
  subst hv
  refine Ret.of_body Tryz.func14 rfl Tryz.ntmps14 rfl rfl ?_
  have d0 : decide (only = 0) = false := decide_eq_false ho
  have htl := htab.lt
  refine zgo ?_
  refine WO.box rfl rfl rfl rfl rfl rfl fun h1 hb1 hx1 hs1 => ?_
  have x1 : WI h.size h1 h.size (fun k => if k = h.size then 1 else 0) 0 ⟨[], [], [], .slice none 0 0, .slice none 0 0, .slice none 0 0, .slice none 0 0, 0, [], .slice none 0 0, 0, []⟩ := by
    refine ⟨hb1, if_pos rfl, Nat.le_refl _, Own.nil _ _ _, fun k hk => ?_, Own.nil _ _ _, fun k hk => ?_, Fl.nil _, fun k hk => ?_, Own.nil _ _ _, fun k hk => ?_, fun i s hi => by simp at hi, htab.fr hx1 (by simp), if_neg (by omega), Nat.le_refl _, Nat.le_refl _, by simp, Nat.le_refl _, by simp, ⟨Own.nil _ _ _, fun k hk => ?_, fun k v hk => ?_, fun k v hk => ?_⟩, Nat.le_refl _⟩ <;> simp [Value.ownBlock] at hk
  refine zgo ?_
  refine Runs.loop (X := UX) (fun x => [(0, .slice ad l.length cap), (1, .int .i64 only), (5, .pointer (some ⟨h.size, 0, none⟩)), (10, .int .i64 (l.length : Int)), (11, .int .i64 (x.i : Int))])
    (fun x h' => x.i ≤ l.length ∧ Ext h h' ∧ WI h.size h' h.size x.ρ (3 * x.i) x.w) (fun x => l.length - x.i) ⟨0, _, _⟩ ⟨rfl, rfl, rfl, rfl, rfl, trivial⟩ ⟨Nat.zero_le _, hx1, x1⟩ ?_
  rintro ⟨i, ρ, w⟩ h2 ⟨hi, hx2, x2⟩ ih
  dsimp only at hi hx2 x2 ih ⊢
  refine zgo ?_
  refine Runs.cond_dec rfl (fun hlt => ?_) (fun hge => ?_)
  rotate_left
  · refine zgo ?_
    exact Runs.ret Tryz.func14 (ret1 Tryz.results14 rfl) ⟨hx2, rfl⟩
  have hlt' : i < l.length := by omega
  have hget : l[i]? = some l[i] := List.getElem?_eq_getElem hlt'
  have hmem : l[i] ∈ l := List.getElem_mem hlt'
  have hok' := hok _ hmem
  have hwt := weight_mem hmem
  generalize l[i] = o at *
  obtain ⟨b0, p0, cap0, hv, _, hcs⟩ := (hr.ext hx2).pos (by omega)
  cases hv
  have hoc := opsC_get hcs hget
  have o0 : cellAt h2 b0 (p0 + i * 6 + 0) = some (.int .i64 o.kind) := hoc.head
  refine zgo ?_
  rw [d0]
  refine zgo ?_
  refine WO.call rfl rfl rfl rfl plain_stage rfl (stage_ret o.kind _) fun v3 h3 ⟨hh3, hv3⟩ => ?_
  subst hh3 hv3
  refine zgo ?_
  refine WO.call rfl rfl rfl rfl plain_built rfl (built_ret only _) fun v4 h4 ⟨hh4, hv4⟩ => ?_
  subst hh4 hv4
  generalize (if only = -1 then 2 else stageS only) = B at hso
  refine zgo ?_
  refine Runs.cond_dec rfl (fun hbig => ?_) (fun hbig => ?_)
  · refine zgo ?_
    exact ih ⟨i + 1, ρ, w⟩ _ _ (by dsimp only; omega) ⟨rfl, rfl, rfl, rfl, rfl, trivial⟩ ⟨hlt', hx2, x2.more (by dsimp only; omega)⟩
  have hst : stageS o.kind ≤ 2 := by omega
  refine zgo ?_
  refine WO.call rfl rfl rfl rfl plain_step rfl (step_ret h.size _ h.size ρ (3 * i) w x2 o hok' (by omega) (by omega) hst) fun v5 h5 ⟨hv5, hf5, ρ5, w5, x5⟩ => ?_
  subst hv5
  have hz2 := hx2.size
  have hx5 : Ext h h5 := hx2.trans_new (hf5.mono fun k _ e => .inr e)
  refine zgo ?_
  rw [d0]
  refine zgo ?_
  by_cases hm : only = -1
  · have dm : decide (only = -1) = true := decide_eq_true hm
    rw [dm]
    refine zgo ?_
    refine WO.call rfl rfl rfl rfl plain_looks rfl (looks_ret x5 (by omega)) fun v6 h6 ⟨hx6, hv6⟩ => ?_
    subst hv6
    refine zgo ?_
    exact ih ⟨i + 1, ρ5, w5⟩ _ _ (by dsimp only; omega) ⟨rfl, rfl, rfl, rfl, rfl, trivial⟩ ⟨hlt', hx5.trans hx6, (x5.exR hx6 fun k _ => rfl).more (by dsimp only; omega)⟩
  have dm : decide (only = -1) = false := decide_eq_false hm
  rw [dm]
  refine zgo ?_
  exact ih ⟨i + 1, ρ5, w5⟩ _ _ (by dsimp only; omega) ⟨rfl, rfl, rfl, rfl, rfl, trivial⟩ ⟨hlt', hx5, x5.more (by dsimp only; omega)⟩

set_option maxRecDepth 20000 in
theorem applies_ret (l : List OpD) (v : Value) (h : Heap) (hr : Rd h 6 v l.length (opsC l)) (hok : ∀ o ∈ l, OpD.ok o) (hl : l.length ≤ 281474976710656) (htab : Tab10 h) :
    Ret Tryz.prog 3 #[v] h fun r h' => Ext h h' ∧ r = .bool true := by
  refine Ret.of_body Tryz.func3 rfl Tryz.ntmps3 rfl rfl ?_
  refine zgo ?_
  refine WO.call rfl rfl rfl rfl plain_small rfl (small_ret l v _ hr hok hl) fun v1 h1 ⟨hh1, r, hv1, hr1⟩ => ?_
  subst hh1 hv1
  cases r
  · refine zgo ?_
    exact Runs.ret Tryz.func3 (ret1 Tryz.results3 rfl) ⟨Fr.refl _ _, rfl⟩
  · refine zgo ?_
    refine WO.call rfl rfl rfl rfl plain_UpTo rfl (upTo_ret 2 (by omega) (by decide) l v _ hr hok (hr1 rfl) htab) fun v2 h2 ⟨hx2, hv2⟩ => ?_
    subst hv2
    refine zgo ?_
    exact Runs.ret Tryz.func3 (ret1 Tryz.results3 rfl) ⟨hx2, rfl⟩

set_option maxRecDepth 20000 in
theorem unapplies_ret (l : List OpD) (v : Value) (h : Heap) (hr : Rd h 6 v l.length (opsC l)) (hok : ∀ o ∈ l, OpD.ok o) (hl : l.length ≤ 281474976710656) (htab : Tab10 h) :
    Ret Tryz.prog 4 #[v] h fun r h' => Ext h h' ∧ r = .bool true := by
  refine Ret.of_body Tryz.func4 rfl Tryz.ntmps4 rfl rfl ?_
  refine zgo ?_
  refine WO.call rfl rfl rfl rfl plain_small rfl (small_ret l v _ hr hok hl) fun v1 h1 ⟨hh1, r, hv1, hr1⟩ => ?_
  subst hh1 hv1
  cases r
  · refine zgo ?_
    exact Runs.ret Tryz.func4 (ret1 Tryz.results4 rfl) ⟨Fr.refl _ _, rfl⟩
  · refine zgo ?_
    refine WO.call rfl rfl rfl rfl plain_UpTo rfl (upTo_ret 4 (by omega) (by decide) l v _ hr hok (hr1 rfl) htab) fun v2 h2 ⟨hx2, hv2⟩ => ?_
    subst hv2
    refine zgo ?_
    exact Runs.ret Tryz.func4 (ret1 Tryz.results4 rfl) ⟨hx2, rfl⟩

set_option maxRecDepth 20000 in
theorem logs_ret (l : List OpD) (v : Value) (h : Heap) (hr : Rd h 6 v l.length (opsC l)) (hok : ∀ o ∈ l, OpD.ok o) (hl : l.length ≤ 281474976710656) (htab : Tab10 h) :
    Ret Tryz.prog 7 #[v] h fun r h' => Ext h h' ∧ r = .bool true := by
  refine Ret.of_body Tryz.func7 rfl Tryz.ntmps7 rfl rfl ?_
  refine zgo ?_
  refine WO.call rfl rfl rfl rfl plain_small rfl (small_ret l v _ hr hok hl) fun v1 h1 ⟨hh1, r, hv1, hr1⟩ => ?_
  subst hh1 hv1
  cases r
  · refine zgo ?_
    exact Runs.ret Tryz.func7 (ret1 Tryz.results7 rfl) ⟨Fr.refl _ _, rfl⟩
  · refine zgo ?_
    refine WO.call rfl rfl rfl rfl plain_UpTo rfl (upTo_ret 7 (by omega) (by decide) l v _ hr hok (hr1 rfl) htab) fun v2 h2 ⟨hx2, hv2⟩ => ?_
    subst hv2
    refine zgo ?_
    exact Runs.ret Tryz.func7 (ret1 Tryz.results7 rfl) ⟨hx2, rfl⟩

set_option maxRecDepth 20000 in
theorem texts_ret (l : List OpD) (v : Value) (h : Heap) (hr : Rd h 6 v l.length (opsC l)) (hok : ∀ o ∈ l, OpD.ok o) (hl : l.length ≤ 281474976710656) (htab : Tab10 h) :
    Ret Tryz.prog 8 #[v] h fun r h' => Ext h h' ∧ r = .bool true := by
  refine Ret.of_body Tryz.func8 rfl Tryz.ntmps8 rfl rfl ?_
  refine zgo ?_
  refine WO.call rfl rfl rfl rfl plain_small rfl (small_ret l v _ hr hok hl) fun v1 h1 ⟨hh1, r, hv1, hr1⟩ => ?_
  subst hh1 hv1
  cases r
  · refine zgo ?_
    exact Runs.ret Tryz.func8 (ret1 Tryz.results8 rfl) ⟨Fr.refl _ _, rfl⟩
  · refine zgo ?_
    refine WO.call rfl rfl rfl rfl plain_UpTo rfl (upTo_ret 8 (by omega) (by decide) l v _ hr hok (hr1 rfl) htab) fun v2 h2 ⟨hx2, hv2⟩ => ?_
    subst hv2
    refine zgo ?_
    exact Runs.ret Tryz.func8 (ret1 Tryz.results8 rfl) ⟨hx2, rfl⟩

set_option maxRecDepth 20000 in
theorem shows_ret (l : List OpD) (v : Value) (h : Heap) (hr : Rd h 6 v l.length (opsC l)) (hok : ∀ o ∈ l, OpD.ok o) (hl : l.length ≤ 281474976710656) (htab : Tab10 h) :
    Ret Tryz.prog 6 #[v] h fun r h' => Ext h h' ∧ r = .bool true := by
  refine Ret.of_body Tryz.func6 rfl Tryz.ntmps6 rfl rfl ?_
  refine zgo ?_
  refine WO.call rfl rfl rfl rfl plain_small rfl (small_ret l v _ hr hok hl) fun v1 h1 ⟨hh1, r, hv1, hr1⟩ => ?_
  subst hh1 hv1
  cases r
  · refine zgo ?_
    exact Runs.ret Tryz.func6 (ret1 Tryz.results6 rfl) ⟨Fr.refl _ _, rfl⟩
  · refine zgo ?_
    refine WO.call rfl rfl rfl rfl plain_UpTo rfl (upTo_ret 6 (by omega) (by decide) l v _ hr hok (hr1 rfl) htab) fun v2 h2 ⟨hx2, hv2⟩ => ?_
    subst hv2
    refine zgo ?_
    exact Runs.ret Tryz.func6 (ret1 Tryz.results6 rfl) ⟨hx2, rfl⟩

set_option maxRecDepth 20000 in
theorem credits_ret (l : List OpD) (v : Value) (h : Heap) (hr : Rd h 6 v l.length (opsC l)) (hok : ∀ o ∈ l, OpD.ok o) (hl : l.length ≤ 281474976710656) (htab : Tab10 h) :
    Ret Tryz.prog 9 #[v] h fun r h' => Ext h h' ∧ r = .bool true := by
  refine Ret.of_body Tryz.func9 rfl Tryz.ntmps9 rfl rfl ?_
  refine zgo ?_
  refine WO.call rfl rfl rfl rfl plain_small rfl (small_ret l v _ hr hok hl) fun v1 h1 ⟨hh1, r, hv1, hr1⟩ => ?_
  subst hh1 hv1
  cases r
  · refine zgo ?_
    exact Runs.ret Tryz.func9 (ret1 Tryz.results9 rfl) ⟨Fr.refl _ _, rfl⟩
  · refine zgo ?_
    refine WO.call rfl rfl rfl rfl plain_UpTo rfl (upTo_ret 16 (by omega) (by decide) l v _ hr hok (hr1 rfl) htab) fun v2 h2 ⟨hx2, hv2⟩ => ?_
    subst hv2
    refine zgo ?_
    exact Runs.ret Tryz.func9 (ret1 Tryz.results9 rfl) ⟨hx2, rfl⟩

set_option maxRecDepth 20000 in
theorem owned_ret (l : List OpD) (v : Value) (h : Heap) (hr : Rd h 6 v l.length (opsC l)) (hok : ∀ o ∈ l, OpD.ok o) (hl : l.length ≤ 281474976710656) (htab : Tab10 h) :
    Ret Tryz.prog 12 #[v] h fun r h' => Ext h h' ∧ r = .bool true := by
  refine Ret.of_body Tryz.func12 rfl Tryz.ntmps12 rfl rfl ?_
  refine zgo ?_
  refine WO.call rfl rfl rfl rfl plain_small rfl (small_ret l v _ hr hok hl) fun v1 h1 ⟨hh1, r, hv1, hr1⟩ => ?_
  subst hh1 hv1
  cases r
  · refine zgo ?_
    exact Runs.ret Tryz.func12 (ret1 Tryz.results12 rfl) ⟨Fr.refl _ _, rfl⟩
  · refine zgo ?_
    refine WO.call rfl rfl rfl rfl plain_UpTo rfl (upTo_ret (-1) (by omega) (by decide) l v _ hr hok (hr1 rfl) htab) fun v2 h2 ⟨hx2, hv2⟩ => ?_
    subst hv2
    refine zgo ?_
    exact Runs.ret Tryz.func12 (ret1 Tryz.results12 rfl) ⟨hx2, rfl⟩

end Go.Proofs.YtfkkphojjfnjnaaGreatDoor
