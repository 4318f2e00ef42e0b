import Derived.Test.YtlaffgagmncgjabDoorK1
namespace Go.Proofs.YtlaffgagmncgjabDoor
open Go Go.Pat Go.Proofs

theorem plain_ksameTexts : Plain Tryd.prog 37 := ⟨_, Tryd.func37, by decide +kernel, by rfl⟩
theorem plain_ksameInts : Plain Tryd.prog 43 := ⟨_, Tryd.func43, by decide +kernel, by rfl⟩
theorem plain_ksmall : Plain Tryd.prog 9 := ⟨_, Tryd.func9, by decide +kernel, by rfl⟩
theorem plain_ktwin : Plain Tryd.prog 21 := ⟨_, Tryd.func21, by decide +kernel, by rfl⟩
theorem plain_kalike : Plain Tryd.prog 22 := ⟨_, Tryd.func22, by decide +kernel, by rfl⟩
theorem plain_kmet : Plain Tryd.prog 14 := ⟨_, Tryd.func14, by decide +kernel, by rfl⟩

set_option maxRecDepth 20000 in
set_option maxHeartbeats 800000 in
theorem ksameTexts_ret (l m : List (List UInt8)) (v u : Value) (h : Heap) (hv : Rd h 1 v l.length (strs l)) (hu : Rd h 1 u m.length (strs m)) (hl : l.length ≤ 16777216) (hm : m.length ≤ 16777216) :
    Ret Tryd.prog 37 #[v, u] h fun r h' => h' = h ∧ r = .bool (decide (l = m)) := by
  obtain ⟨ad, cap, e⟩ := hv.form
  obtain ⟨ad2, cap2, e2⟩ := hu.form
  subst e e2
  refine Ret.of_body Tryd.func37 rfl Tryd.ntmps37 rfl rfl ?_
  refine zgo ?_
  refine Runs.cond_ndec rfl (fun q1 => ?_) (fun q1 => ?_)
  · refine zgo ?_
    refine Runs.ret Tryd.func37 (ret1 Tryd.results37 rfl) ⟨rfl, ?_⟩
    have : ¬ l = m := fun e => q1 (by rw [e])
    simp [this]
  · have hlm : l.length = m.length := by omega
    refine zgo ?_
    refine Runs.loop (X := Nat) (fun i => [(0, .slice ad l.length cap), (1, .slice ad2 m.length cap2), (12, .int .i64 (l.length : Int)), (13, .int .i64 (i : Int))])
      (fun i h' => h = h' ∧ i ≤ l.length ∧ l.take i = m.take i) (fun i => l.length - i) 0 ⟨rfl, rfl, rfl, rfl, trivial⟩ ⟨rfl, Nat.zero_le _, rfl⟩ ?_
    rintro i _ ⟨rfl, hi, heq⟩ ih
    refine zgo ?_
    refine Runs.cond_dec rfl (fun hlt => ?_) (fun hge => ?_)
    · have hlt' : i < l.length := by omega
      have hltm : i < m.length := by omega
      have hget : l[i]? = some l[i] := List.getElem?_eq_getElem hlt'
      have hgetm : m[i]? = some m[i] := List.getElem?_eq_getElem hltm
      have hsn := List.take_succ_eq_append_getElem hlt'
      have hsm := List.take_succ_eq_append_getElem hltm
      generalize hx : l[i] = x at *
      generalize hy : m[i] = y at *
      obtain ⟨b0, p0, cap0, e0, _, hcell⟩ := hv.cell (strs_get hget)
      cases e0
      obtain ⟨b1, p1, cap1, e1, _, hcell1⟩ := hu.cell (strs_get hgetm)
      cases e1
      refine zgo ?_
      refine Runs.still mixed (by kernel_rfl) ?_
      refine zws ?_
      refine Runs.cond_ndec rfl (fun hne => ?_) (fun he => ?_)
      · refine zgo ?_
        refine Runs.ret Tryd.func37 (ret1 Tryd.results37 rfl) ⟨rfl, ?_⟩
        have : ¬ l = m := fun e => by
          subst e
          rw [hget] at hgetm
          cases hgetm
          exact hne rfl
        simp [this]
      · refine zgo ?_
        refine ih (i + 1) _ _ (by omega) ⟨rfl, rfl, rfl, rfl, trivial⟩ ⟨rfl, hlt', ?_⟩
        rw [hsn, hsm, heq, he]
    · refine zgo ?_
      refine Runs.ret Tryd.func37 (ret1 Tryd.results37 rfl) ⟨rfl, ?_⟩
      have : l = m := by
        rw [List.take_of_length_le (by omega), List.take_of_length_le (by omega)] at heq
        exact heq
      simp [this]


set_option maxRecDepth 20000 in
set_option maxHeartbeats 800000 in
theorem ksameInts_ret (l m : List Nat) (v u : Value) (h : Heap) (hv : Rd h 1 v l.length (ints l)) (hu : Rd h 1 u m.length (ints m)) (hl : l.length ≤ 16777216) (hm : m.length ≤ 16777216) :
    Ret Tryd.prog 43 #[v, u] h fun r h' => h' = h ∧ r = .bool (decide (l = m)) := by
  obtain ⟨ad, cap, e⟩ := hv.form
  obtain ⟨ad2, cap2, e2⟩ := hu.form
  subst e e2
  refine Ret.of_body Tryd.func43 rfl Tryd.ntmps43 rfl rfl ?_
  refine zgo ?_
  refine Runs.cond_ndec rfl (fun q1 => ?_) (fun q1 => ?_)
  · refine zgo ?_
    refine Runs.ret Tryd.func43 (ret1 Tryd.results43 rfl) ⟨rfl, ?_⟩
    have : ¬ l = m := fun e => q1 (by rw [e])
    simp [this]
  · have hlm : l.length = m.length := by omega
    refine zgo ?_
    refine Runs.loop (X := Nat) (fun i => [(0, .slice ad l.length cap), (1, .slice ad2 m.length cap2), (12, .int .i64 (l.length : Int)), (13, .int .i64 (i : Int))])
      (fun i h' => h = h' ∧ i ≤ l.length ∧ l.take i = m.take i) (fun i => l.length - i) 0 ⟨rfl, rfl, rfl, rfl, trivial⟩ ⟨rfl, Nat.zero_le _, rfl⟩ ?_
    rintro i _ ⟨rfl, hi, heq⟩ ih
    refine zgo ?_
    refine Runs.cond_dec rfl (fun hlt => ?_) (fun hge => ?_)
    · have hlt' : i < l.length := by omega
      have hltm : i < m.length := by omega
      have hget : l[i]? = some l[i] := List.getElem?_eq_getElem hlt'
      have hgetm : m[i]? = some m[i] := List.getElem?_eq_getElem hltm
      have hsn := List.take_succ_eq_append_getElem hlt'
      have hsm := List.take_succ_eq_append_getElem hltm
      generalize hx : l[i] = x at *
      generalize hy : m[i] = y at *
      obtain ⟨b0, p0, cap0, e0, _, hcell⟩ := hv.cell (ints_get hget)
      cases e0
      obtain ⟨b1, p1, cap1, e1, _, hcell1⟩ := hu.cell (ints_get hgetm)
      cases e1
      refine zgo ?_
      refine Runs.still mixed (by kernel_rfl) ?_
      refine zws ?_
      refine Runs.cond_ndec rfl (fun hne => ?_) (fun he => ?_)
      · refine zgo ?_
        refine Runs.ret Tryd.func43 (ret1 Tryd.results43 rfl) ⟨rfl, ?_⟩
        have : ¬ l = m := fun e => by
          subst e
          rw [hget] at hgetm
          cases hgetm
          exact hne rfl
        simp [this]
      · refine zgo ?_
        refine ih (i + 1) _ _ (by omega) ⟨rfl, rfl, rfl, rfl, trivial⟩ ⟨rfl, hlt', ?_⟩
        have : x = y := by omega
        rw [hsn, hsm, heq, this]
    · refine zgo ?_
      refine Runs.ret Tryd.func43 (ret1 Tryd.results43 rfl) ⟨rfl, ?_⟩
      have : l = m := by
        rw [List.take_of_length_le (by omega), List.take_of_length_le (by omega)] at heq
        exact heq
      simp [this]

def kweight (l : List (List UInt8)) : Nat := l.foldr (fun t n => t.length + n) 0
theorem kweight_append (l m : List (List UInt8)) : kweight (l ++ m) = kweight l + kweight m := by
  induction l with
  | nil => simp [kweight]
  | cons a l ih => simp only [kweight, List.cons_append, List.foldr_cons] at ih ⊢; omega
theorem kweight_mem {l : List (List UInt8)} {t : List UInt8} (h : t ∈ l) : t.length ≤ kweight l := by
  induction l with
  | nil => simp at h
  | cons a l ih =>
    simp only [kweight, List.foldr_cons] at ih ⊢
    rcases List.mem_cons.1 h with e | e
    · subst e; omega
    · have := ih e; omega

set_option maxRecDepth 20000 in
set_option maxHeartbeats 1600000 in
theorem ksmall_ret (l : List (List UInt8)) (v : Value) (h : Heap) (hv : Rd h 1 v l.length (strs l)) (hl : l.length ≤ 281474976710656) (hw : ∀ t ∈ l, t.length ≤ 281474976710656) :
    Ret Tryd.prog 9 #[v] h fun r h' => h' = h ∧ ∃ b : Bool, r = .bool b ∧ (b = true → l.length + kweight l ≤ 1048576) := by
  obtain ⟨ad, cap, e⟩ := hv.form
  subst e
  refine Ret.of_body Tryd.func9 rfl Tryd.ntmps9 rfl rfl ?_
  refine zgo ?_
  refine Runs.cond_dec rfl (fun q1 => ?_) (fun q1 => ?_)
  · refine zgo ?_
    exact Runs.ret Tryd.func9 (ret1 Tryd.results9 rfl) ⟨rfl, _, rfl, fun e => by cases e⟩
  refine zgo ?_
  refine Runs.loop (X := Nat) (fun i => [(3, .int .i64 ((l.length + kweight (l.take i) : Nat) : Int)), (10, .slice ad l.length cap), (11, .int .i64 (l.length : Int)), (12, .int .i64 (i : Int))])
    (fun i h' => h = h' ∧ i ≤ l.length ∧ l.length + kweight (l.take i) ≤ 1048576) (fun i => l.length - i) 0 ⟨rfl, rfl, rfl, rfl, trivial⟩ ⟨rfl, Nat.zero_le _, by simp [kweight]; omega⟩ ?_
  rintro i _ ⟨rfl, hi, hw1⟩ ih
  refine zgo ?_
  refine Runs.cond_dec rfl (fun hlt => ?_) (fun hge => ?_)
  rotate_left
  · rw [List.take_of_length_le (by omega)] at hw1
    refine zgo ?_
    exact Runs.ret Tryd.func9 (ret1 Tryd.results9 rfl) ⟨rfl, _, rfl, fun _ => hw1⟩
  have hlt' : i < l.length := by omega
  have hget : l[i]? = some l[i] := List.getElem?_eq_getElem hlt'
  have hmem := hw l[i] (List.getElem_mem hlt')
  have hsn : kweight (l.take (i + 1)) = kweight (l.take i) + l[i].length := by rw [List.take_succ_eq_append_getElem hlt', kweight_append]; simp [kweight]
  generalize l[i] = t at *
  obtain ⟨b0, p0, cap0, hv0, _, hcell⟩ := hv.cell (strs_get hget)
  cases hv0
  refine zgo ?_
  refine Runs.cond_dec rfl (fun q2 => ?_) (fun q2 => ?_)
  · refine zgo ?_
    exact Runs.ret Tryd.func9 (ret1 Tryd.results9 rfl) ⟨rfl, _, rfl, fun e => by cases e⟩
  · refine zgo ?_
    refine ih (i + 1) _ _ (by omega) ⟨?_, rfl, rfl, rfl, trivial⟩ ⟨rfl, hlt', by omega⟩
    rw [hsn]
    have : (l.length + kweight (l.take i) : Int) + (t.length : Int) = ((l.length + (kweight (l.take i) + t.length) : Nat) : Int) := by omega
    exact congrArg (fun z => some (Value.int .i64 z)) (by omega)

/-! ### A store -/
def Sto (F : Nat → Prop) (h : Heap) (b : Nat) (ps : List PatchD) : Prop := ∃ lv l, Blk h b [lv] 65 ∧ XS F h lv l ∧ l.map PD3.p = ps ∧ Set1 ps
theorem Sto.fr {F S : Nat → Prop} {h h' : Heap} {b : Nat} {ps : List PatchD} (x : Sto F h b ps) (f : Fr S h h') (hb : ¬ S b) (hs : ∀ k, F k → ¬ S k) : Sto F h' b ps := by
  obtain ⟨lv, l, h1, h2, h3, h4⟩ := x
  exact ⟨lv, l, h1.fr f hb, h2.fr f hs, h3, h4⟩
theorem Sto.ext {F : Nat → Prop} {h h' : Heap} {b : Nat} {ps : List PatchD} (x : Sto F h b ps) (f : Ext h h') : Sto F h' b ps := x.fr f (by simp) (by simp)
theorem Sto.mono {F F' : Nat → Prop} {h : Heap} {b : Nat} {ps : List PatchD} (x : Sto F h b ps) (hs : ∀ k, F k → F' k) : Sto F' h b ps := by
  obtain ⟨lv, l, h1, h2, h3, h4⟩ := x
  exact ⟨lv, l, h1, h2.mono hs, h3, h4⟩
theorem Sto.set {F : Nat → Prop} {h : Heap} {b : Nat} {ps : List PatchD} (x : Sto F h b ps) : Set1 ps := by obtain ⟨_, _, _, _, _, h4⟩ := x; exact h4
theorem Sto.lt {F : Nat → Prop} {h : Heap} {b : Nat} {ps : List PatchD} (x : Sto F h b ps) : b < h.size := by obtain ⟨_, _, h1, _⟩ := x; exact h1.lt

theorem show_len {ps : List PatchD} {sd : Nat → Int} {orx : Nat → Bool} (hinv : Inv ps) (hn : NumX ps sd orx) : (showW (itemsX ps sd orx)).length ≤ 1000 := by
  obtain ⟨st, hst⟩ := strand_ex (alS ps).length (leadS ps) (blkS ps)
  obtain ⟨orp, hor⟩ := orphan_ex ps (alS ps)
  rw [← show_same hst hor hn]
  have g1 := showTo_len (alS ps) ((opOf ps st orp).to (alS ps).length) (alS ps).length
  have g2 := alS_len ps
  have g3 := hinv.lines
  unfold showFull; omega

/-- Pull. -/
theorem kPull_ret {F : Nat → Prop} {a b : Nat} {ps qs : List PatchD} {h : Heap} (ht : Tab10 h) (hs : Sto F h a ps) (ho : Sto F h b qs) (hF : ∀ k, F k → k ≠ a) :
    Ret Tryd.prog 29 #[.pointer (some ⟨a, 0, none⟩), .pointer (some ⟨b, 0, none⟩)] h fun v h' => Fr (fun k => k = a) h h' ∧ v = .int .i64 ((pullS ps qs).1 : Int) ∧ Sto (fun k => F k ∨ New h h' k) h' a (pullS ps qs).2 := by
  obtain ⟨lv, l, h1, h2, h3, h4⟩ := hs
  obtain ⟨mv, m, g1, g2, g3, g4⟩ := ho
  subst h3 g3
  refine (xPull_ret itoaOK a b l m lv mv h ht h1 g1 h2 g2 hF h4.inv g4.inv).mono fun v h' ⟨hf, hv, lv', l', hb', hs', hp'⟩ => ⟨hf, hv, lv', l', hb', hs', hp', set_pull h4 g4⟩

set_option maxRecDepth 20000 in
theorem ktwin_ret {F : Nat → Prop} {a : Nat} {ps : List PatchD} {h : Heap} (ht : Tab10 h) (hs : Sto F h a ps) (hF : ∀ k, F k → k < h.size) :
    Ret Tryd.prog 21 #[.pointer (some ⟨a, 0, none⟩)] h fun v h' => Ext h h' ∧ v = .pointer (some ⟨h.size, 0, none⟩) ∧ Sto (fun k => F k ∨ (New h h' k ∧ k ≠ h.size)) h' h.size ps := by
  refine Ret.of_body Tryd.func21 rfl Tryd.ntmps21 rfl rfl ?_
  refine zgo ?_
  refine WO.call rfl rfl rfl rfl plain_xNew rfl (xNew_ret _) fun v1 h1 ⟨hx1, hz1, hv1, hb1⟩ => ?_
  subst hv1
  have hnew : Sto F h1 h.size [] := ⟨_, [], hb1, ⟨(Own.nil h1 0 3).rd, by simp, fun k hk => by simp [Value.ownBlock] at hk⟩, rfl, Set1.nil⟩
  refine zgo ?_
  refine WO.call rfl rfl rfl rfl plain_xPull rfl (kPull_ret (ht.fr hx1 (by simp)) hnew (hs.ext hx1) (fun k hk e => by have := hF k hk; omega)) fun v2 h2 ⟨hf2, hv2, hs2⟩ => ?_
  subst hv2
  rw [pull_nil hs.set] at hs2
  refine zgo ?_
  refine Runs.ret Tryd.func21 (ret1 Tryd.results21 rfl) ⟨hx1.wr hf2 (Nat.le_refl _), rfl, hs2.mono fun k e => ?_⟩
  rcases e with e | e
  · exact .inl e
  · exact .inr ⟨e.dn hx1, fun e' => by have := e.1; omega⟩

set_option maxRecDepth 20000 in
set_option maxHeartbeats 1600000 in
theorem kalike_ret {F : Nat → Prop} {a b : Nat} {ps : List PatchD} {h : Heap} (hs : Sto F h a ps) (ho : Sto F h b ps) (hF : ∀ k, F k → k < h.size) :
    Ret Tryd.prog 22 #[.pointer (some ⟨a, 0, none⟩), .pointer (some ⟨b, 0, none⟩)] h fun v h' => Ext h h' ∧ v = .bool true := by
  refine Ret.of_body Tryd.func22 rfl Tryd.ntmps22 rfl rfl ?_
  obtain ⟨lv, l, h1, h2, h3, h4⟩ := hs
  obtain ⟨mv, m, g1, g2, g3, _⟩ := ho
  have hinv := h4.inv
  have hF' : ∀ h', Ext h h' → ∀ k, F k → k < h'.size := fun h' hx k hk => by have := hF k hk; have := hx.size; omega
  have hll : l.length ≤ 1000 := by have := hinv.len; rw [← h3] at this; simp at this; omega
  have hml : m.length ≤ 1000 := by have := hinv.len; rw [← g3] at this; simp at this; omega
  refine zgo ?_
  refine WO.call rfl rfl rfl rfl plain_xShow rfl (xShow_ret a l lv _ h1 h2 hF (by rw [h3]; exact hinv)) fun v1 w1 ⟨hx1, sd1, or1, hn1, ho1, hm1⟩ => ?_
  refine zgo ?_
  refine WO.call rfl rfl rfl rfl plain_xShow rfl (xShow_ret b m mv _ (g1.ext hx1) (g2.ext hx1) (hF' _ hx1) (by rw [g3]; exact hinv)) fun v2 w2 ⟨hx2, sd2, or2, hn2, ho2, hm2⟩ => ?_
  have ho1' := ho1.fr hx2 (by simp)
  rw [h3] at hn1 ho1'
  rw [g3] at hn2 ho2
  rw [show_fun hn2 hn1] at ho2
  have hlen : (showW (itemsX ps sd1 or1)).length ≤ 1000 := show_len hinv hn1
  generalize showW (itemsX ps sd1 or1) = L at *
  have hx02 := hx1.trans hx2
  refine zgo ?_
  refine WO.call rfl rfl rfl rfl plain_ksameTexts rfl (ksameTexts_ret L L v1 v2 _ ho1'.rd ho2.rd (by omega) (by omega)) fun v3 w3 ⟨hh3, hv3⟩ => ?_
  have hv3' : v3 = .bool true := by rw [hv3]; simp
  subst hh3 hv3'
  refine zgo ?_
  refine WO.call rfl rfl rfl rfl plain_xLog rfl (xLog_ret a l lv _ (h1.ext hx02) (h2.ext hx02) hll) fun v4 w4 ⟨hx4, ho4, hm4⟩ => ?_
  have hx04 := hx02.trans hx4
  refine zgo ?_
  refine WO.call rfl rfl rfl rfl plain_xLog rfl (xLog_ret b m mv _ (g1.ext hx04) (g2.ext hx04) hml) fun v5 w5 ⟨hx5, ho5, hm5⟩ => ?_
  have hx05 := hx04.trans hx5
  have ho4' := ho4.fr hx5 (by simp)
  rw [h3] at ho4'
  rw [g3] at ho5
  have hil : (idsS ps).length ≤ 20 := by have := hinv.len; simp [idsS]; omega
  refine zgo ?_
  refine WO.call rfl rfl rfl rfl plain_ksameInts rfl (ksameInts_ret (idsS ps) (idsS ps) v4 v5 _ ho4'.rd ho5.rd (by omega) (by omega)) fun v6 w6 ⟨hh6, hv6⟩ => ?_
  have hv6' : v6 = .bool true := by rw [hv6]; simp
  subst hh6 hv6'
  refine zgo ?_
  refine WO.call rfl rfl rfl rfl plain_xClean rfl (xClean_ret a l lv _ (h1.ext hx05) (h2.ext hx05) (hF' _ hx05) (by rw [h3]; exact hinv)) fun v7 w7 ⟨hx7, sd7, or7, hn7, hv7⟩ => ?_
  have hx07 := hx05.trans hx7
  subst hv7
  refine zgo ?_
  refine WO.call rfl rfl rfl rfl plain_xClean rfl (xClean_ret b m mv _ (g1.ext hx07) (g2.ext hx07) (hF' _ hx07) (by rw [g3]; exact hinv)) fun v8 w8 ⟨hx8, sd8, or8, hn8, hv8⟩ => ?_
  subst hv8
  rw [h3] at hn7
  rw [g3] at hn8
  rw [h3, g3, blank_fun hn8 hn7]
  generalize blankX ps or7 (ordX ps sd7) = B
  refine zgo ?_
  refine WO.val (ov_beql tab_ok rfl rfl rfl rfl) rfl rfl rfl ?_
  refine zgo ?_
  exact Runs.ret Tryd.func22 (ret1 Tryd.results22 rfl) ⟨hx07.trans hx8, by simp⟩

set_option maxRecDepth 20000 in
set_option maxHeartbeats 1600000 in
theorem kmet_ret {F : Nat → Prop} {a b : Nat} {ps qs : List PatchD} {h : Heap} (ht : Tab10 h) (hs : Sto F h a ps) (ho : Sto F h b qs) (hab : a ≠ b) (hFa : ∀ k, F k → k ≠ a) (hFb : ∀ k, F k → k ≠ b) (hF : ∀ k, F k → k < h.size) (h0a : 0 ≠ a) :
    Ret Tryd.prog 14 #[.pointer (some ⟨a, 0, none⟩), .pointer (some ⟨b, 0, none⟩)] h fun v h' => Fr (fun k => k = a ∨ k = b) h h' ∧ v = .bool true := by
  refine Ret.of_body Tryd.func14 rfl Tryd.ntmps14 rfl rfl ?_
  have hla := hs.lt
  have hlb := ho.lt
  refine zgo ?_
  refine WO.call rfl rfl rfl rfl plain_ktwin rfl (ktwin_ret ht hs hF) fun v1 h1 ⟨hx1, hv1, hs1⟩ => ?_
  subst hv1
  have hl1 := hs1.lt
  have hz1 := hx1.size
  refine zgo ?_
  refine WO.call rfl rfl rfl rfl plain_ktwin rfl (ktwin_ret (ht.fr hx1 (by simp)) (ho.ext hx1) (fun k hk => by have := hF k hk; omega)) fun v2 h2 ⟨hx2, hv2, ho2⟩ => ?_
  subst hv2
  have hx02 := hx1.trans hx2
  have hz2 := hx2.size
  have hl2 := ho2.lt
  -- all that is read, in one
  have hG : ∃ G : Nat → Prop, (∀ k, F k → G k) ∧ (∀ k, G k → k < h2.size ∧ k ≠ a ∧ k ≠ b ∧ k ≠ h.size ∧ k ≠ h1.size) ∧ Sto G h2 h.size ps ∧ Sto G h2 h1.size qs := by
    refine ⟨fun k => F k ∨ (New h h1 k ∧ k ≠ h.size) ∨ (New h1 h2 k ∧ k ≠ h1.size), fun k e => .inl e, fun k e => ?_, (hs1.ext hx2).mono fun k e => ?_, ho2.mono fun k e => ?_⟩
    · rcases e with e | ⟨e1, e2⟩ | ⟨e1, e2⟩
      · have := hF k e; have := hFa k e; have := hFb k e; omega
      · have := e1.1; have := e1.2; omega
      · have := e1.1; have := e1.2; omega
    · rcases e with e | e
      · exact .inl e
      · exact .inr (.inl e)
    · rcases e with e | e
      · exact .inl e
      · exact .inr (.inr e)
  obtain ⟨G, hFG, hGn, hold, hpast⟩ := hG
  have hs2 := (hs.ext hx02).mono hFG
  have ho2' := (ho.ext hx02).mono hFG
  have ht2 := ht.fr hx02 (by simp)
  clear hs1 ho2
  refine zgo ?_
  refine WO.call rfl rfl rfl rfl plain_xPull rfl (kPull_ret ht2 hs2 ho2' (fun k hk => (hGn k hk).2.1)) fun v3 h3 ⟨hf3, hv3, hs3⟩ => ?_
  subst hv3
  have hz3 := hf3.size
  have hG3 : ∀ k, (G k ∨ New h2 h3 k) → k < h3.size ∧ k ≠ a ∧ k ≠ b ∧ k ≠ h.size ∧ k ≠ h1.size := fun k e => by
    rcases e with e | e
    · have := hGn k e; omega
    · have := e.1; have := e.2; omega
  have ho3 := (ho2'.fr hf3 (fun e => hab e.symm) (fun k hk => (hGn k hk).2.1)).mono (F' := fun k => G k ∨ New h2 h3 k) fun _ e => .inl e
  have hold3 := (hold.fr hf3 (by omega) (fun k hk => (hGn k hk).2.1)).mono (F' := fun k => G k ∨ New h2 h3 k) fun _ e => .inl e
  have hpast3 := (hpast.fr hf3 (by omega) (fun k hk => (hGn k hk).2.1)).mono (F' := fun k => G k ∨ New h2 h3 k) fun _ e => .inl e
  have hf03 : Fr (fun k => k = a ∨ k = b) h h3 := (hx02.up).trans (hf3.mono fun k _ e => .inl e)
  by_cases he : (pullS ps qs).1 = 0
  · have hback := pull_back hs.set ho.set he
    generalize (pullS ps qs).2 = U at hs3 hback
    rw [he]
    refine zgo ?_
    refine WO.call rfl rfl rfl rfl plain_xPull rfl (kPull_ret (ht2.fr hf3 h0a) ho3 hs3 (fun k hk => (hG3 k hk).2.2.1)) fun v4 h4 ⟨hf4, hv4, ho4⟩ => ?_
    subst hv4
    rw [hback] at ho4
    rw [hback]
    have hz4 := hf4.size
    refine zgo ?_
    refine WO.call rfl rfl rfl rfl plain_kalike rfl (kalike_ret ((hs3.fr hf4 hab (fun k hk => (hG3 k hk).2.2.1)).mono fun k e => .inl e) ho4 (fun k hk => ?_)) fun v5 h5 ⟨hx5, hv5⟩ => ?_
    · rcases hk with e | e
      · have := hG3 k e; omega
      · exact e.2
    subst hv5
    refine zgo ?_
    exact Runs.ret Tryd.func14 (ret1 Tryd.results14 rfl) ⟨(hf03.trans (hf4.mono fun k _ e => .inr e)).ex hx5, rfl⟩
  · have hsame := pull_err he
    rw [hsame] at hs3
    generalize (pullS ps qs).1 = e at he
    have hd : decide ((e : Int) = 0) = false := decide_eq_false (by omega)
    refine zgo ?_
    rw [hd]
    refine zgo ?_
    refine WO.call rfl rfl rfl rfl plain_kalike rfl (kalike_ret hs3 hold3 (fun k hk => (hG3 k hk).1)) fun v4 h4 ⟨hx4, hv4⟩ => ?_
    subst hv4
    have hz4 := hx4.size
    refine zgo ?_
    refine WO.call rfl rfl rfl rfl plain_kalike rfl (kalike_ret (ho3.ext hx4) (hpast3.ext hx4) (fun k hk => by have := hG3 k hk; omega)) fun v5 h5 ⟨hx5, hv5⟩ => ?_
    subst hv5
    refine zgo ?_
    exact Runs.ret Tryd.func14 (ret1 Tryd.results14 rfl) ⟨hf03.ex (hx4.trans hx5), rfl⟩

end Go.Proofs.YtlaffgagmncgjabDoor
