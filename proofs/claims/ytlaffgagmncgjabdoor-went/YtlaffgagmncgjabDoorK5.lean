import Derived.Test.YtlaffgagmncgjabDoorK4
namespace Go.Proofs.YtlaffgagmncgjabDoor
open Go Go.Pat Go.Proofs

/-- A list of texts that was handed in. -/
structure Texts (h : Heap) (v : Value) (l : List (List UInt8)) : Prop where
  rd : Rd h 1 v l.length (strs l)
  len : l.length ≤ 281474976710656
  each : ∀ t ∈ l, t.length ≤ 281474976710656
theorem Texts.ext {h h' : Heap} {v : Value} {l : List (List UInt8)} (x : Texts h v l) (f : Ext h h') : Texts h' v l := ⟨x.rd.ext f, x.len, x.each⟩

set_option maxRecDepth 20000 in
set_option maxHeartbeats 1600000 in
theorem kMet_ret (l m : List (List UInt8)) (v u : Value) (h : Heap) (hv : Texts h v l) (hu : Texts h u m) (ht : Tab10 h) :
    Ret Tryd.prog 6 #[v, u] h fun r h' => Ext h h' ∧ r = .bool true := by
  refine Ret.of_body Tryd.func6 rfl Tryd.ntmps6 rfl rfl ?_
  have hpos := ktab_lt ht
  refine zgo ?_
  refine WO.call rfl rfl rfl rfl plain_ksmall rfl (ksmall_ret l v _ hv.rd hv.len hv.each) fun v1 h1 ⟨hh1, r1, hv1, hr1⟩ => ?_
  subst hh1 hv1
  cases r1
  · refine zgo ?_
    exact Runs.ret Tryd.func6 (ret1 Tryd.results6 rfl) ⟨Fr.refl _ _, rfl⟩
  refine zgo ?_
  refine WO.call rfl rfl rfl rfl plain_ksmall rfl (ksmall_ret m u _ hu.rd hu.len hu.each) fun v2 h2 ⟨hh2, r2, hv2, hr2⟩ => ?_
  subst hh2 hv2
  cases r2
  · refine zgo ?_
    exact Runs.ret Tryd.func6 (ret1 Tryd.results6 rfl) ⟨Fr.refl _ _, rfl⟩
  refine zgo ?_
  refine WO.call rfl rfl rfl rfl plain_kof rfl (kof_ret l v _ ht hv.rd (hr1 rfl)) fun v3 h3 ⟨hx3, hv3, F, ps, w3, hF3⟩ => ?_
  subst hv3
  have hl3 := w3.head.lt
  refine zgo ?_
  refine WO.call rfl rfl rfl rfl plain_kof rfl (kof_ret m u _ w3.tab (hu.rd.ext hx3) (hr2 rfl)) fun v4 h4 ⟨hx4, hv4, G, qs, w4, hF4⟩ => ?_
  subst hv4
  have hl4 := w4.head.lt
  refine zgo ?_
  refine WO.call rfl rfl rfl rfl plain_kmet rfl (kmet_ret (F := fun k => F k ∨ G k) w4.tab ((w3.ext hx4).head.mono fun k e => .inl e) (w4.head.mono fun k e => .inr e) (by omega) (fun k e => ?_) (fun k e => ?_) (fun k e => ?_) (by omega)) fun v5 h5 ⟨hf5, hv5⟩ => ?_
  · rcases e with e | e
    · exact w3.outH k e
    · have := hF4 k e; omega
  · rcases e with e | e
    · have := w3.lt k e; omega
    · exact w4.outH k e
  · rcases e with e | e
    · have := w3.lt k e; omega
    · exact w4.lt k e
  subst hv5
  refine zgo ?_
  refine Runs.ret Tryd.func6 (ret1 Tryd.results6 rfl) ⟨(hx3.trans hx4).trans_new (hf5.mono fun k _ e => .inr ?_), rfl⟩
  rcases e with e | e <;> omega

set_option maxRecDepth 20000 in
set_option maxHeartbeats 1600000 in
theorem kCame_ret (l : List (List UInt8)) (v : Value) (t : List UInt8) (h : Heap) (hv : Texts h v l) (hl : t.length ≤ 281474976710656) (ht : Tab10 h) :
    Ret Tryd.prog 3 #[v, .string (str t)] h fun r h' => Ext h h' ∧ r = .bool true := by
  refine Ret.of_body Tryd.func3 rfl Tryd.ntmps3 rfl rfl ?_
  refine zgo ?_
  refine WO.call rfl rfl rfl rfl plain_ksmall rfl (ksmall_ret l v _ hv.rd hv.len hv.each) fun v1 h1 ⟨hh1, r1, hv1, hr1⟩ => ?_
  subst hh1 hv1
  cases r1
  · refine zgo ?_
    exact Runs.ret Tryd.func3 (ret1 Tryd.results3 rfl) ⟨Fr.refl _ _, rfl⟩
  refine zgo ?_
  refine Runs.cond_dec rfl (fun hbig => ?_) (fun hbig => ?_)
  · refine zgo ?_
    exact Runs.ret Tryd.func3 (ret1 Tryd.results3 rfl) ⟨Fr.refl _ _, rfl⟩
  refine zgo ?_
  refine WO.call rfl rfl rfl rfl plain_kof rfl (kof_ret l v _ ht hv.rd (hr1 rfl)) fun v3 h3 ⟨hx3, hv3, F, ps, w3, hF3⟩ => ?_
  subst hv3
  refine zgo ?_
  refine WO.call rfl rfl rfl rfl plain_kcame rfl (kcame_ret w3 t (by omega)) fun v5 h5 ⟨hf5, hv5⟩ => ?_
  subst hv5
  refine zgo ?_
  exact Runs.ret Tryd.func3 (ret1 Tryd.results3 rfl) ⟨hx3.wr hf5 (Nat.le_refl _), rfl⟩

set_option maxRecDepth 20000 in
set_option maxHeartbeats 1600000 in
theorem kWent_ret (l : List (List UInt8)) (v : Value) (q : Int) (h : Heap) (hv : Texts h v l) (ht : Tab10 h) :
    Ret Tryd.prog 4 #[v, .int .i64 q] h fun r h' => Ext h h' ∧ r = .bool true := by
  refine Ret.of_body Tryd.func4 rfl Tryd.ntmps4 rfl rfl ?_
  refine zgo ?_
  refine WO.call rfl rfl rfl rfl plain_ksmall rfl (ksmall_ret l v _ hv.rd hv.len hv.each) fun v1 h1 ⟨hh1, r1, hv1, hr1⟩ => ?_
  subst hh1 hv1
  cases r1
  · refine zgo ?_
    exact Runs.ret Tryd.func4 (ret1 Tryd.results4 rfl) ⟨Fr.refl _ _, rfl⟩
  refine zgo ?_
  refine WO.call rfl rfl rfl rfl plain_kof rfl (kof_ret l v _ ht hv.rd (hr1 rfl)) fun v3 h3 ⟨hx3, hv3, F, ps, w3, hF3⟩ => ?_
  subst hv3
  refine zgo ?_
  refine WO.call rfl rfl rfl rfl plain_kwent rfl (kwent_ret w3 q) fun v5 h5 ⟨hf5, hv5⟩ => ?_
  subst hv5
  refine zgo ?_
  exact Runs.ret Tryd.func4 (ret1 Tryd.results4 rfl) ⟨hx3.wr hf5 (Nat.le_refl _), rfl⟩

end Go.Proofs.YtlaffgagmncgjabDoor
