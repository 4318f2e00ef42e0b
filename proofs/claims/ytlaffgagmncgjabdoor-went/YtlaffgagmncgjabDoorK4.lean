import Derived.Test.YtlaffgagmncgjabDoorK3
namespace Go.Proofs.YtlaffgagmncgjabDoor
open Go Go.Pat Go.Proofs

theorem plain_kalive : Plain Tryd.prog 20 := ⟨_, Tryd.func20, by decide +kernel, by rfl⟩
theorem plain_kof : Plain Tryd.prog 10 := ⟨_, Tryd.func10, by decide +kernel, by rfl⟩

/-! ### The document's first example -/
def txtA : List UInt8 := [112, 97, 116, 99, 104, 32, 49, 10, 110, 101, 101, 100, 115, 10, 97, 100, 100, 32, 94, 32, 36, 32, 97, 10, 97, 100, 100, 32, 49, 46, 48, 32, 36, 32, 98, 10, 97, 100, 100, 32, 49, 46, 49, 32, 36, 32, 99, 10]
def patA : PatchD := ⟨1, [], [⟨1, ⟨0, 0⟩, ⟨0, 1⟩, [97]⟩, ⟨1, ⟨1, 0⟩, ⟨0, 1⟩, [98]⟩, ⟨1, ⟨1, 1⟩, ⟨0, 1⟩, [99]⟩]⟩
theorem applyA : applyS [] txtA = (0, [patA]) := by kernel_rfl
theorem textA : textS patA = txtA := by kernel_rfl
theorem blkA : blkS [patA] = [-1, -1, -1] := by kernel_rfl
theorem leadA : leadS [patA] = [[false, true, true], [false, false, true], [false, false, false]] := by kernel_rfl
theorem alA : (alS [patA]).length = 3 := by kernel_rfl
def stA (i : Nat) : Nat := if i < 3 then 0 else i
theorem strandA (i : Nat) : IsStrand (alS [patA]).length (leadS [patA]) (blkS [patA]) i (stA i) := by
  rw [alA, leadA, blkA]
  unfold stA
  split
  · rename_i h
    refine ⟨?_, fun k _ => Nat.zero_le _⟩
    have : i = 0 ∨ i = 1 ∨ i = 2 := by omega
    rcases this with e | e | e
    · subst e; exact .refl
    · subst e; exact .step .refl (by omega) rfl
    · subst e; exact .step .refl (by omega) rfl
  · rename_i h
    refine ⟨.refl, fun k hk => ?_⟩
    have hi : ([-1, -1, -1] : List Int).getD i 0 = 0 := by
      rw [List.getD_eq_getElem?_getD, List.getElem?_eq_none (by simp; omega)]; rfl
    have : k = i := hk (fun x => x = i) rfl fun a b ha hb hbn => by
      exfalso
      subst ha
      unfold bndS at hbn
      rw [Bool.and_eq_true, decide_eq_true_iff, hi] at hbn
      have : b = 0 ∨ b = 1 ∨ b = 2 := by omega
      rcases this with e | e | e <;> (subst e; exact absurd hbn.1 (by decide))
    omega
theorem orphanA (i : Nat) (l : LineD) (_ : (alS [patA])[i]? = some l) : ((fun _ => false : Nat → Bool) i = true ↔ Orphan [patA] l) := by
  constructor
  · intro e; cases e
  · rintro ⟨k, _, d, hd, _⟩
    exfalso
    simp [killersS, kills, patA] at hd
theorem showA : showFull [patA] stA (fun _ => false) = [[32, 97], [32, 98], [32, 99]] := by kernel_rfl
theorem cleanA : cleanS (shL [patA] stA (fun _ => false)) = true := by kernel_rfl
theorem fileA : (shL [patA] stA (fun _ => false)).map (textAt (alS [patA])) = [[97], [98], [99]] := by kernel_rfl

set_option maxRecDepth 20000 in
set_option maxHeartbeats 1600000 in
theorem kalive_ret (h : Heap) (ht : Tab10 h) : Ret Tryd.prog 20 #[] h fun v h' => Ext h h' ∧ v = .bool true := by
  refine Ret.of_body Tryd.func20 rfl Tryd.ntmps20 rfl rfl ?_
  have hpos := ktab_lt ht
  refine zgo ?_
  refine WO.call rfl rfl rfl rfl plain_xNew rfl (xNew_ret _) fun v1 h1 ⟨hx1, hz1, hv1, hb1⟩ => ?_
  subst hv1
  have hnew : Sto (fun _ => False) h1 h.size [] := ⟨_, [], hb1, ⟨(Own.nil h1 0 3).rd, by simp, fun k hk => by simp [Value.ownBlock] at hk⟩, rfl, Set1.nil⟩
  have w1 : KW h1 (fun _ => False) [(h.size, [])] := ⟨fun x hx => by simp at hx; subst hx; exact hnew, fun _ e => e.elim, fun _ _ _ e => e.elim, by simp, ht.fr hx1 (by simp), fun x hx => by simp at hx; subst hx; dsimp only; omega⟩
  refine zgo ?_
  refine WO.call rfl rfl rfl rfl plain_xApply rfl (kApply_ret w1.tab w1.head w1.outH txtA (by decide)) fun v2 h2 ⟨hf2, hv2, hs2⟩ => ?_
  subst hv2
  have w2 := w1.op hf2 hs2
  clear hs2
  rw [applyA] at w2
  rw [applyA]
  dsimp only at w2 ⊢
  have hx2 : Ext h h2 := hx1.wr hf2 (Nat.le_refl _)
  refine zgo ?_
  refine WO.call rfl rfl rfl rfl plain_xText rfl (kText_ret w2.tab w2.head 1) fun v3 h3 ⟨hx3, t3, e3, hv3, ht3⟩ => ?_
  subst hv3
  obtain ⟨rfl, rfl⟩ := tx_fun w2.head.set.inv.nodup ht3 (.inl ⟨patA, by simp, rfl, rfl, rfl⟩)
  rw [textA]
  have w3 := w2.ext hx3
  have hinv := w3.head.set.inv
  obtain ⟨lv, l, b3, s3, p3, _⟩ := w3.head
  have hil : Inv (l.map PD3.p) := by rw [p3]; exact hinv
  refine zgo ?_
  refine WO.call rfl rfl rfl rfl plain_xFile rfl (xFile_ret h.size l lv _ b3 s3 w3.lt hil) fun v4 h4 ⟨hx4, sd4, or4, hn4, hP4⟩ => ?_
  rw [p3] at hn4 hP4
  have hfile : ∃ f4, v4 = .tuple #[f4, .int .i64 0] ∧ Own h4 9 1 f4 3 (strs [[97], [98], [99]]) := by
    have c4 := clean_same strandA orphanA hn4
    have f4 := file_same (orp := fun _ => false) strandA hn4
    rw [cleanA] at c4
    rw [fileA] at f4
    rcases hP4 with ⟨e, _⟩ | ⟨_, f, hv, ho, _⟩
    · rw [← c4] at e; cases e
    · rw [← f4] at ho
      exact ⟨f, hv, ho⟩
  obtain ⟨f4, hv4, hof4⟩ := hfile
  subst hv4
  have hx34 := hx3.trans hx4
  refine zgo ?_
  refine WO.lit [.string (str [97]), .string (str [98]), .string (str [99])] tab_ok rfl rfl rfl rfl rfl rfl rfl rfl rfl rfl rfl rfl fun h5 hb5 hx5 hs5 => ?_
  have hr5 : Rd h5 1 (.slice (some ⟨h4.size, 0, none⟩) 3 3) 3 (strs [[97], [98], [99]]) := ⟨rfl, .inr ⟨h4.size, 0, 3, rfl, Nat.le_refl _, hb5.cells⟩⟩
  refine zgo ?_
  refine WO.call rfl rfl rfl rfl plain_ksameTexts rfl (ksameTexts_ret [[97], [98], [99]] [[97], [98], [99]] f4 _ _ (hof4.fr hx5 (by simp)).rd hr5 (by simp) (by simp)) fun v6 h6 ⟨hh6, hv6⟩ => ?_
  have hv6' : v6 = .bool true := by rw [hv6]; simp
  subst hh6 hv6'
  have hx36 := hx34.trans hx5
  refine zgo ?_
  refine WO.call rfl rfl rfl rfl plain_xShow rfl (xShow_ret h.size l lv _ (b3.ext (hx4.trans hx5)) (s3.ext (hx4.trans hx5)) (fun k hk => by have := w3.lt k hk; have := hx4.size; have := hx5.size; omega) hil) fun v7 h7 ⟨hx7, sd7, or7, hn7, ho7, hm7⟩ => ?_
  rw [p3] at hn7 ho7
  rw [← show_same strandA orphanA hn7, showA] at ho7
  refine zgo ?_
  refine WO.lit [.string (str [32, 97]), .string (str [32, 98]), .string (str [32, 99])] tab_ok rfl rfl rfl rfl rfl rfl rfl rfl rfl rfl rfl rfl fun h8 hb8 hx8 hs8 => ?_
  have hr8 : Rd h8 1 (.slice (some ⟨h7.size, 0, none⟩) 3 3) 3 (strs [[32, 97], [32, 98], [32, 99]]) := ⟨rfl, .inr ⟨h7.size, 0, 3, rfl, Nat.le_refl _, hb8.cells⟩⟩
  refine zgo ?_
  refine WO.call rfl rfl rfl rfl plain_ksameTexts rfl (ksameTexts_ret [[32, 97], [32, 98], [32, 99]] [[32, 97], [32, 98], [32, 99]] v7 _ _ (ho7.fr hx8 (by simp)).rd hr8 (by simp) (by simp)) fun v9 h9 ⟨hh9, hv9⟩ => ?_
  have hv9' : v9 = .bool true := by rw [hv9]; simp
  subst hh9 hv9'
  have hx39 := hx36.trans (hx7.trans hx8)
  have hx49 := (hx4.trans hx5).trans (hx7.trans hx8)
  refine zgo ?_
  refine WO.call rfl rfl rfl rfl plain_xLog rfl (xLog_ret h.size l lv _ (b3.ext hx49) (s3.ext hx49) (by have := congrArg List.length p3; simp at this; omega)) fun va ha ⟨hxa, hoa, hma⟩ => ?_
  rw [p3] at hoa
  refine zgo ?_
  refine WO.lit [.int .i64 1] tab_ok rfl rfl rfl rfl rfl rfl rfl rfl rfl rfl rfl rfl fun hb hbb hxb hsb => ?_
  have hrb : Rd hb 1 (.slice (some ⟨ha.size, 0, none⟩) 1 1) 1 (ints [1]) := ⟨rfl, .inr ⟨ha.size, 0, 1, rfl, Nat.le_refl _, hbb.cells⟩⟩
  refine zgo ?_
  refine WO.call rfl rfl rfl rfl plain_ksameInts rfl (ksameInts_ret [1] [1] va _ _ (hoa.fr hxb (by simp)).rd hrb (by simp) (by simp)) fun vc hc ⟨hhc, hvc⟩ => ?_
  have hvc' : vc = .bool true := by rw [hvc]; simp
  subst hhc hvc'
  refine zgo ?_
  exact Runs.ret Tryd.func20 (ret1 Tryd.results20 rfl) ⟨(hx2.trans hx39).trans (hxa.trans hxb), rfl⟩

structure OfX where
  (i n : Nat) (F : Nat → Prop) (ps : List PatchD)

set_option maxRecDepth 20000 in
set_option maxHeartbeats 1600000 in
theorem kof_ret (l : List (List UInt8)) (v : Value) (h : Heap) (ht : Tab10 h) (hv : Rd h 1 v l.length (strs l)) (hl : l.length + kweight l ≤ 1048576) :
    Ret Tryd.prog 10 #[v] h fun r h' => Ext h h' ∧ r = .tuple #[.pointer (some ⟨h.size, 0, none⟩), .bool true] ∧ ∃ F ps, KW h' F [(h.size, ps)] ∧ ∀ k, F k → h.size < k := by
  obtain ⟨ad, cap, e⟩ := hv.form
  subst e
  refine Ret.of_body Tryd.func10 rfl Tryd.ntmps10 rfl rfl ?_
  have hpos := ktab_lt ht
  refine zgo ?_
  refine WO.call rfl rfl rfl rfl plain_xNew rfl (xNew_ret _) fun v1 h1 ⟨hx1, hz1, hv1, hb1⟩ => ?_
  subst hv1
  have hnew : Sto (fun _ => False) h1 h.size [] := ⟨_, [], hb1, ⟨(Own.nil h1 0 3).rd, by simp, fun k hk => by simp [Value.ownBlock] at hk⟩, rfl, Set1.nil⟩
  have w1 : KW h1 (fun _ => False) [(h.size, [])] := ⟨fun x hx => by simp at hx; subst hx; exact hnew, fun _ e => e.elim, fun _ _ _ e => e.elim, by simp, ht.fr hx1 (by simp), fun x hx => by simp at hx; subst hx; dsimp only; omega⟩
  refine zgo ?_
  refine Runs.loop (X := OfX) (fun u => [(4, .pointer (some ⟨h.size, 0, none⟩)), (5, .int .i64 (u.n : Int)), (9, .slice ad l.length cap), (10, .int .i64 (l.length : Int)), (11, .int .i64 (u.i : Int))])
    (fun u h' => u.i ≤ l.length ∧ Ext h h' ∧ KW h' u.F [(h.size, u.ps)] ∧ u.ps.length = u.n ∧ (∀ k, u.F k → h.size < k) ∧ h.size < h'.size) (fun u => l.length - u.i) ⟨0, 0, fun _ => False, []⟩ ⟨rfl, rfl, rfl, rfl, rfl, trivial⟩ ⟨Nat.zero_le _, hx1, w1, rfl, fun _ e => e.elim, by omega⟩ ?_
  rintro ⟨i, n, F, ps⟩ h2 ⟨hi, hx2, w2, hn, hF, hz2⟩ ih
  dsimp only at hi hx2 w2 hn hF ih ⊢
  have hset := w2.head.set
  have hn20 := hset.inv.len
  refine zgo ?_
  refine Runs.cond_dec rfl (fun hlt => ?_) (fun hge => ?_)
  · have hlt' : i < l.length := by omega
    have hget : l[i]? = some l[i] := List.getElem?_eq_getElem hlt'
    have hmem := kweight_mem (List.getElem_mem hlt')
    generalize l[i] = t at *
    obtain ⟨b0, p0, cap0, hv0, _, hcell⟩ := (hv.ext hx2).cell (strs_get hget)
    cases hv0
    refine zgo ?_
    refine WO.call rfl rfl rfl rfl plain_xApply rfl (kApply_ret w2.tab w2.head w2.outH t (by omega)) fun v3 h3 ⟨hf3, hv3, hs3⟩ => ?_
    subst hv3
    have w3 := w2.op hf3 hs3
    clear hs3
    have hx3 : Ext h h3 := hx2.wr hf3 (Nat.le_refl _)
    have hz3 := hf3.size
    have hF3 : ∀ k, (F k ∨ New h2 h3 k) → h.size < k := fun k e => by
      rcases e with e | e
      · exact hF k e
      · have := e.1; omega
    rcases apply_cases ps t with ⟨e, he0, he⟩ | ⟨p, hp⟩
    · rw [he] at w3
      rw [he]
      dsimp only at w3 ⊢
      have hd : decide ((e : Int) = 0) = false := decide_eq_false (by omega)
      refine zgo ?_
      rw [hd]
      refine zgo ?_
      exact ih ⟨i + 1, n, _, ps⟩ _ _ (by dsimp only; omega) ⟨rfl, rfl, rfl, rfl, rfl, trivial⟩ ⟨hlt', hx3, w3, hn, hF3, by omega⟩
    · rw [lets_apply hp] at w3
      rw [lets_apply hp]
      dsimp only at w3 ⊢
      refine zgo ?_
      exact ih ⟨i + 1, n + 1, _, withS p ps⟩ _ _ (by dsimp only; omega) ⟨rfl, rfl, rfl, rfl, rfl, trivial⟩ ⟨hlt', hx3, w3, by dsimp only; rw [withS_len]; omega, hF3, by omega⟩
  obtain ⟨lv, m, b3, s3, p3, _⟩ := w2.head
  have hml : m.length = n := by have := congrArg List.length p3; simp at this; omega
  refine zgo ?_
  refine WO.call rfl rfl rfl rfl plain_xLog rfl (xLog_ret h.size m lv _ b3 s3 (by omega)) fun v4 h4 ⟨hx4, ho4, hm4⟩ => ?_
  rw [p3] at ho4
  have hil : (idsS ps).length = n := by simp [idsS]; exact hn
  obtain ⟨ad4, cap4, hv4⟩ := ho4.rd.form
  subst hv4
  have hd : decide (((idsS ps).length : Int) = (n : Int)) = true := decide_eq_true (by omega)
  have w4 := w2.ext hx4
  refine zgo ?_
  rw [hd]
  refine zgo ?_
  refine WO.call rfl rfl rfl rfl plain_kalive rfl (kalive_ret _ w4.tab) fun v5 h5 ⟨hx5, hv5⟩ => ?_
  subst hv5
  refine zgo ?_
  exact Runs.ret Tryd.func10 (ret2 Tryd.results10 rfl rfl) ⟨(hx2.trans hx4).trans hx5, rfl, F, ps, w4.ext hx5, hF⟩

end Go.Proofs.YtlaffgagmncgjabDoor
