import Derived.Test.YtfkkphojjfnjnaaGreatDoorT6
namespace Go.Proofs.YtfkkphojjfnjnaaGreatDoor
open Go Go.Pat Go.Proofs

theorem plain87 : Plain Tryz.prog 99 := ⟨_, Tryz.func99, by decide +kernel, by rfl⟩
theorem plain88 : Plain Tryz.prog 100 := ⟨_, Tryz.func100, by decide +kernel, by rfl⟩

def decF : Nat → Nat → List UInt8
  | 0, n => [UInt8.ofNat (48 + n)]
  | f + 1, n => if n < 10 then [UInt8.ofNat (48 + n)] else decF f (n / 10) ++ [UInt8.ofNat (48 + n % 10)]
theorem decF_same : ∀ (f g n : Nat), n ≤ f → n ≤ g → decF f n = decF g n
  | 0, 0, _, _, _ => rfl
  | 0, g + 1, n, h, _ => by
    obtain rfl : n = 0 := by omega
    rfl
  | f + 1, 0, n, _, h => by
    obtain rfl : n = 0 := by omega
    rfl
  | f + 1, g + 1, n, h1, h2 => by
    by_cases h : n < 10
    · rw [decF, decF, if_pos h, if_pos h]
    · rw [decF, decF, if_neg h, if_neg h, decF_same f g (n / 10) (by omega) (by omega)]

/-- n as a text. -/
def decS (n : Nat) : List UInt8 := decF n n

theorem decS_small {n : Nat} (h : n < 10) : decS n = [UInt8.ofNat (48 + n)] := by
  cases n with
  | zero => rfl
  | succ m => rw [decS, decF, if_pos h]
theorem decS_big {n : Nat} (h : ¬ n < 10) : decS n = decS (n / 10) ++ [UInt8.ofNat (48 + n % 10)] := by
  cases n with
  | zero => omega
  | succ m => rw [decS, decF, if_neg h, decS, decF_same m ((m + 1) / 10) ((m + 1) / 10) (by omega) (by omega)]
theorem decS_len : ∀ (k n : Nat), n < 10 ^ (k + 1) → (decS n).length ≤ k + 1 := by
  intro k
  induction k with
  | zero => intro n h; rw [decS_small (by simpa using h)]; simp
  | succ k ih =>
    intro n h
    by_cases h10 : n < 10
    · rw [decS_small h10]; simp
    · rw [decS_big h10]
      have := ih (n / 10) (by rw [Nat.pow_succ] at h; omega)
      simp; omega

set_option maxRecDepth 20000 in
set_option maxHeartbeats 800000 in
theorem decimal_ret (n : Nat) (h : Heap) (hn : n < 1000000) : Ret Tryz.prog 99 #[.int .i64 (n : Int)] h fun v h' => Ext h h' ∧ v = .string (str (decS n)) := by
  induction n using Nat.strongRecOn generalizing h with
  | _ n ihn =>
  refine Ret.of_body Tryz.func99 rfl Tryz.ntmps99 rfl rfl ?_
  refine zgo ?_
  refine WO.val (ov_rem rfl rfl rfl (by omega) (by omega)) rfl rfl rfl ?_
  refine WO.val (ov_add rfl rfl rfl (in_i64 (by omega) (by omega))) rfl rfl rfl ?_
  refine WO.val (ov_conv tab_ok rfl rfl rfl rfl (in_u8 (by omega) (by omega))) rfl rfl rfl ?_
  refine WO.ex rfl rfl rfl (ox_build1 tab_ok rfl rfl rfl rfl rfl rfl rfl rfl ?_)
  have hdig : (UInt8.ofNat (48 + n % 10)).toNat = 48 + n % 10 := by rw [UInt8.toNat_ofNat']; omega
  refine WO.val (ov_bstr (l := [UInt8.ofNat (48 + n % 10)]) tab_ok rfl rfl rfl rfl rfl ?_) rfl rfl rfl ?_
  · have hc := cells_push_new (h := h) [Value.int .u8 (48 + (n : Int) % 10)] 5 (0, 0)
    have e : (([UInt8.ofNat (48 + n % 10)] : List UInt8).map fun (q : UInt8) => Value.int .u8 (q.toNat : Int)) = [Value.int .u8 (48 + (n : Int) % 10)] := by
      simp only [List.map_cons, List.map_nil, hdig]
      congr 2
    rw [e]
    exact hc
  generalize hh1 : (h.push (.cells ([Value.int .u8 (48 + (n : Int) % 10)] : List Value).toArray 5 (0, 0))) = h1
  have hx1 : Ext h h1 := by rw [← hh1]; exact Fr.push _ _ _
  clear hh1
  refine zgo ?_
  refine Runs.cond_dec rfl (fun q1 => ?_) (fun q1 => ?_)
  · refine zgo ?_
    refine Runs.ret Tryz.func99 (ret1 Tryz.results99 rfl) ⟨hx1, ?_⟩
    rw [decS_small (by omega), Nat.mod_eq_of_lt (by omega)]
  · have hlen := decS_len 5 (n / 10) (by omega)
    refine zgo ?_
    refine WO.val (ov_quo rfl rfl rfl (by omega) (by omega) (in_i64 (by omega) (by omega))) rfl rfl rfl ?_
    refine WO.call rfl rfl rfl rfl plain87 rfl (ihn (n / 10) (by omega) _ (by omega)) fun v h2 ⟨hx2, hv2⟩ => ?_
    subst hv2
    refine zgo ?_
    refine Runs.ret Tryz.func99 (ret1 Tryz.results99 rfl) ⟨hx1.trans hx2, ?_⟩
    rw [decS_big (n := n) (by omega)]

/-- A line's name. -/
def refS (r : RefD) : List UInt8 := if 0 < r.p then decS r.p ++ [46] ++ decS r.i else if r.i = 0 then [94] else [36]

set_option maxRecDepth 20000 in
set_option maxHeartbeats 800000 in
theorem name_ret (r : RefD) (h : Heap) (hp : r.p < 1000000) (hi : r.i < 1000000) (he : r.p = 0 → r.i < 2) : Ret Tryz.prog 100 #[.agg r.cells.toArray] h fun v h' => Ext h h' ∧ v = .string (str (refS r)) := by
  refine Ret.of_body Tryz.func100 rfl Tryz.ntmps100 rfl rfl ?_
  refine zgo ?_
  refine WO.box rfl rfl rfl rfl rfl rfl fun h1 hb1 hx1 hs1 => ?_
  have g0 := hb1.cell (j := 0) rfl
  have g1 := hb1.cell (j := 1) rfl
  refine zgo ?_
  refine Runs.cond_dec rfl (fun q1 => ?_) (fun q1 => ?_)
  · have hl0 := decS_len 5 r.p (by omega)
    have hl1 := decS_len 5 r.i (by omega)
    refine zgo ?_
    refine Runs.drawn (m := 9) (Ext h1) (fun _ => false) mixed rfl ?_
    refine WF.take 0 rfl (fun _ _ => ov_pv tab_ok rfl) (Fr.refl _ _) rfl rfl rfl (by kernel_rfl) ?_
    refine WF.take 1 rfl (fun _ hS => ov_load tab_ok rfl rfl rfl rfl (hS.xc g0)) (Fr.refl _ _) rfl rfl rfl (by kernel_rfl) ?_
    refine WF.take 4 rfl (fun _ _ => ov_pv tab_ok rfl) (Fr.refl _ _) rfl rfl rfl (by kernel_rfl) ?_
    refine WF.take 5 rfl (fun _ hS => ov_load tab_ok rfl rfl rfl rfl (hS.xc g1)) (Fr.refl _ _) rfl rfl rfl (by kernel_rfl) ?_
    refine WF.call 2 (by kernel_rfl) rfl rfl rfl rfl rfl plain87 rfl (decimal_ret r.p _ hp) fun v h2 ⟨hx2, hv2⟩ => ⟨.inr hx2, ?_⟩
    subst hv2
    refine WF.take 3 rfl (fun _ _ => ov_sadd rfl rfl rfl (by simp <;> omega)) hx2 rfl rfl rfl (by kernel_rfl) ?_
    refine WF.call 6 (by kernel_rfl) rfl rfl rfl rfl rfl plain87 rfl (decimal_ret r.i _ hi) fun v h3 ⟨hx3, hv3⟩ => ⟨.inr (hx2.trans hx3), ?_⟩
    subst hv3
    refine WF.ex 7 (by kernel_rfl) rfl rfl rfl rfl ((ov_sadd rfl rfl rfl (by simp <;> omega)).ex ⟨.inr (hx2.trans hx3), ?_⟩)
    refine WF.ex 8 (by kernel_rfl) rfl rfl rfl rfl ((ov_pv tab_ok rfl).ex ⟨.inr (hx2.trans hx3), ?_⟩)
    refine WF.done (by kernel_rfl) ?_
    refine zgo ?_
    refine Runs.ret Tryz.func100 (ret1 Tryz.results100 rfl) ⟨hx1.trans (hx2.trans hx3), ?_⟩
    unfold refS; rw [if_pos (by omega)]
  · refine zgo ?_
    refine WO.lit [.string (str [94]), .string (str [36])] tab_ok rfl rfl rfl rfl rfl rfl rfl rfl rfl rfl rfl rfl fun h2 hb2 hx2 hs2 => ?_
    have hc2 := hb2.cells
    replace g1 := hx2.xc g1
    have h0 : r.p = 0 := by omega
    have hi2 := he h0
    obtain ⟨u, hu, hu2⟩ : ∃ u, ([[94], [36]] : List (List UInt8))[r.i]? = some u ∧ refS r = u := by
      unfold refS
      rw [if_neg (by omega)]
      match hr : r.i, hi2 with
      | 0, _ => exact ⟨_, rfl, by simp⟩
      | 1, _ => exact ⟨_, rfl, by simp⟩
    have c1 : cellAt h2 h1.size (0 + r.i * 1) = some (.string (str u)) := by rw [Nat.mul_one]; exact hc2 r.i (.string (str u)) (strs_get (l := [[94], [36]]) hu)
    refine zgo ?_
    refine Runs.ret Tryz.func100 (ret1 Tryz.results100 rfl) ⟨hx1.trans hx2, by rw [hu2]⟩

end Go.Proofs.YtfkkphojjfnjnaaGreatDoor
