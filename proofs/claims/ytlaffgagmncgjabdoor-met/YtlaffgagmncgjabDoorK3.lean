import Derived.Test.YtlaffgagmncgjabDoorK2
namespace Go.Proofs.YtlaffgagmncgjabDoor
open Go Go.Pat Go.Proofs

theorem plain_kname : Plain Tryd.prog 23 := ⟨_, Tryd.func23, by decide +kernel, by rfl⟩
theorem plain_kcame : Plain Tryd.prog 11 := ⟨_, Tryd.func11, by decide +kernel, by rfl⟩
theorem plain_kwent : Plain Tryd.prog 12 := ⟨_, Tryd.func12, by decide +kernel, by rfl⟩

/-! ### The name of a patch, off its text -/
def dval (l : List UInt8) : Nat := l.foldl (fun n c => 10 * n + (c.toNat - 48)) 0
theorem dval_snoc (l : List UInt8) (c : UInt8) : dval (l ++ [c]) = 10 * dval l + (c.toNat - 48) := by simp [dval]
theorem dec_val : ∀ m n, n ≤ m → dval (decS n) = n ∧ ∀ c ∈ decS n, 48 ≤ c.toNat ∧ c.toNat ≤ 57 := by
  intro m
  induction m with
  | zero =>
    intro n hn
    have : n = 0 := by omega
    subst this
    rw [decS_small (by omega)]
    exact ⟨rfl, by decide⟩
  | succ m ih =>
    intro n hn
    have hb : ∀ k, k < 10 → (UInt8.ofNat (48 + k)).toNat = 48 + k := fun k hk => by rw [UInt8.toNat_ofNat']; omega
    by_cases h : n < 10
    · rw [decS_small h]
      refine ⟨?_, fun c hc => ?_⟩
      · show dval ([] ++ [UInt8.ofNat (48 + n)]) = n
        rw [dval_snoc, hb n h]
        simp [dval]
      · rw [List.mem_singleton.1 hc, hb n h]; omega
    · obtain ⟨i1, i2⟩ := ih (n / 10) (by omega)
      rw [decS_big h]
      refine ⟨?_, fun c hc => ?_⟩
      · rw [dval_snoc, i1, hb _ (by omega)]; omega
      · rcases List.mem_append.1 hc with e | e
        · exact i2 c e
        · rw [List.mem_singleton.1 e, hb _ (by omega)]; omega
theorem dval_lt : ∀ {l : List UInt8}, (∀ c ∈ l, 48 ≤ c.toNat ∧ c.toNat ≤ 57) → dval l < 10 ^ l.length := by
  intro l
  have key : ∀ k, k ≤ l.length → (∀ c ∈ l, 48 ≤ c.toNat ∧ c.toNat ≤ 57) → dval (l.take k) < 10 ^ k := by
    intro k
    induction k with
    | zero => intro _ _; simp [dval]
    | succ k ih =>
      intro hk hd
      have i := ih (by omega) hd
      have hc := hd l[k] (List.getElem_mem (by omega))
      rw [List.take_succ_eq_append_getElem (by omega), dval_snoc, Nat.pow_succ]
      omega
  intro hd
  have := key l.length (Nat.le_refl _) hd
  rwa [List.take_length] at this

set_option maxRecDepth 20000 in
set_option maxHeartbeats 1600000 in
theorem kname_ret (p : PatchD) (hid : p.id < 10000) (h : Heap) (hl : (textS p).length ≤ 16777216) :
    Ret Tryd.prog 23 #[.string (str (textS p))] h fun v h' => h' = h ∧ v = .int .i64 (p.id : Int) := by
  refine Ret.of_body Tryd.func23 rfl Tryd.ntmps23 rfl rfl ?_
  obtain ⟨hval, hdig⟩ := dec_val p.id p.id (Nat.le_refl _)
  have hdl := decS_len 3 p.id (by omega)
  obtain ⟨R, hR⟩ : ∃ R, textS p = [112, 97, 116, 99, 104, 32] ++ decS p.id ++ 10 :: R := ⟨[110, 101, 101, 100, 115] ++ needsS p.needs ++ [10] ++ p.changes.flatMap chS, by simp [textS, headS]⟩
  generalize textS p = t at *
  generalize decS p.id = D at *
  have hlen : t.length = 6 + D.length + 1 + R.length := by rw [hR]; simp; omega
  have hat : ∀ j, j < D.length → t[6 + j]? = D[j]? := fun j hj => by
    rw [hR, List.append_assoc, List.getElem?_append_right (by simp), show 6 + j - [112, 97, 116, 99, 104, (32 : UInt8)].length = j by simp, List.getElem?_append_left hj]
  have hend : t[6 + D.length]? = some 10 := by
    rw [hR, List.getElem?_append_right (by simp; omega)]
    simp
    rw [show 6 + D.length - (D.length + 6) = 0 by omega]; rfl
  refine zgo ?_
  refine Runs.loop (X := Nat) (fun j => [(0, .string (str t)), (3, .int .i64 (dval (D.take j) : Int)), (4, .int .i64 ((6 + j : Nat) : Int))])
    (fun j h' => h = h' ∧ j ≤ D.length) (fun j => D.length - j) 0 ⟨rfl, rfl, rfl, trivial⟩ ⟨rfl, Nat.zero_le _⟩ ?_
  rintro j _ ⟨rfl, hj⟩ ih
  have hd0 : decide (((6 + j : Nat) : Int) < (t.length : Int)) = true := decide_eq_true (by omega)
  have hb : dval (D.take j) < 10000 := by
    have h1 := dval_lt (l := D.take j) fun c hc => hdig c (List.mem_of_mem_take hc)
    have h2 : (D.take j).length ≤ 4 := by simp; omega
    exact Nat.lt_of_lt_of_le h1 (Nat.pow_le_pow_right (by omega) h2)
  refine zgo ?_
  rw [hd0]
  rcases Nat.lt_or_ge j D.length with hlt | hge
  · have hget : t[6 + j]? = some D[j] := by rw [hat j hlt]; exact List.getElem?_eq_getElem hlt
    have hsn : dval (D.take (j + 1)) = 10 * dval (D.take j) + (D[j].toNat - 48) := by rw [List.take_succ_eq_append_getElem hlt, dval_snoc]
    have hc := hdig D[j] (List.getElem_mem hlt)
    generalize D[j] = c at *
    have hd1 : decide ((48 : Int) ≤ (c.toNat : Int)) = true := decide_eq_true (by omega)
    have hd2 : decide ((c.toNat : Int) ≤ 57) = true := decide_eq_true (by omega)
    refine zgo ?_
    rw [hd1]
    refine zgo ?_
    rw [hd2]
    refine zgo ?_
    refine WO.val (ov_sub rfl rfl rfl (in_u8 (by omega) (by omega))) rfl rfl rfl ?_
    refine zgo ?_
    refine ih (j + 1) _ _ (by omega) ⟨rfl, ?_, rfl, trivial⟩ ⟨rfl, hlt⟩
    rw [hsn]
    exact congrArg (fun z => some (Value.int .i64 z)) (by omega)
  · have hje : j = D.length := by omega
    subst hje
    rw [List.take_length, hval]
    refine zgo ?_
    exact Runs.ret Tryd.func23 (ret1 Tryd.results23 rfl) ⟨rfl, rfl⟩

/-! ### Calls of a store -/
theorem kApply_ret {F : Nat → Prop} {a : Nat} {ps : List PatchD} {h : Heap} (ht : Tab10 h) (hs : Sto F h a ps) (hF : ∀ k, F k → k ≠ a) (t : List UInt8) (hl : t.length ≤ 16777216) :
    Ret Tryd.prog 18 #[.pointer (some ⟨a, 0, none⟩), .string (str t)] h fun v h' => Fr (fun k => k = a) h h' ∧ v = .int .i64 ((applyS ps t).1 : Int) ∧ Sto (fun k => F k ∨ New h h' k) h' a (applyS ps t).2 := by
  obtain ⟨lv, l, h1, h2, h3, h4⟩ := hs
  subst h3
  exact (xApply_ret itoaOK a l lv t h ht h1 h2 hF h4.inv hl).mono fun v h' ⟨hf, hv, lv', l', hb', hs', hp'⟩ => ⟨hf, hv, lv', l', hb', hs', hp', set_apply h4 t⟩
theorem set_un {ps ps' : List PatchD} {q : Int} {e : Nat} (h : Set1 ps) (hu : UnS ps q e ps') : Set1 ps' := by
  by_cases e0 : e = 0
  · subst e0
    obtain ⟨_, _, _, h1, _⟩ := went_un h hu
    exact h1
  · rcases hu with ⟨_, _, rfl⟩ | ⟨p0, hp0, hq, ⟨_, _, rfl⟩ | ⟨hno, e1, rfl⟩⟩
    · exact h
    · exact h
    · exact absurd e1 e0
theorem kUn_ret {F : Nat → Prop} {a : Nat} {ps : List PatchD} {h : Heap} (hs : Sto F h a ps) (hF : ∀ k, F k → k ≠ a) (q : Int) :
    Ret Tryd.prog 25 #[.pointer (some ⟨a, 0, none⟩), .int .i64 q] h fun v h' => Fr (fun k => k = a) h h' ∧ ∃ e ps', v = .int .i64 ((e : Nat) : Int) ∧ UnS ps q e ps' ∧ Sto (fun k => F k ∨ New h h' k) h' a ps' := by
  obtain ⟨lv, l, h1, h2, h3, h4⟩ := hs
  subst h3
  exact (xUnapply_ret a l lv q h h1 h2 hF h4.inv).mono fun v h' ⟨e, ps', hu, hf, hv, lv', l', hb', hs', hp'⟩ => ⟨hf, e, ps', hv, hu, lv', l', hb', hs', hp', set_un h4 hu⟩
theorem kText_ret {F : Nat → Prop} {a : Nat} {ps : List PatchD} {h : Heap} (ht : Tab10 h) (hs : Sto F h a ps) (q : Int) :
    Ret Tryd.prog 24 #[.pointer (some ⟨a, 0, none⟩), .int .i64 q] h fun v h' => Ext h h' ∧ ∃ t e, v = .tuple #[.string (str t), .int .i64 ((e : Nat) : Int)] ∧ TxS ps q t e := by
  obtain ⟨lv, l, h1, h2, h3, h4⟩ := hs
  subst h3
  exact xText_ret itoaOK a l lv q h ht h1 h2 h4.inv

/-! ### Several stores -/
theorem ktab_lt {h : Heap} (x : Tab10 h) : 0 < h.size := by
  obtain ⟨_, _, hx⟩ := x
  exact (Array.getElem?_eq_some_iff.1 hx).1
structure KW (h : Heap) (F : Nat → Prop) (L : List (Nat × List PatchD)) : Prop where
  st : ∀ x ∈ L, Sto F h x.1 x.2
  lt : ∀ k, F k → k < h.size
  out : ∀ x ∈ L, ∀ k, F k → k ≠ x.1
  nd : (L.map Prod.fst).Nodup
  tab : Tab10 h
  pos : ∀ x ∈ L, x.1 ≠ 0
section
variable {h h' : Heap} {F : Nat → Prop} {a : Nat} {ps ps' : List PatchD} {L : List (Nat × List PatchD)}
theorem KW.ext (w : KW h F L) (f : Ext h h') : KW h' F L := ⟨fun x hx => (w.st x hx).ext f, fun k hk => by have := w.lt k hk; have := f.size; omega, w.out, w.nd, w.tab.fr f (by simp), w.pos⟩
theorem KW.head (w : KW h F ((a, ps) :: L)) : Sto F h a ps := w.st (a, ps) (by simp)
theorem KW.outH (w : KW h F ((a, ps) :: L)) : ∀ k, F k → k ≠ a := w.out (a, ps) (by simp)
theorem KW.twin (w : KW h F ((a, ps) :: L)) (f : Ext h h') (hs : Sto (fun k => F k ∨ (New h h' k ∧ k ≠ h.size)) h' h.size ps) : KW h' (fun k => F k ∨ (New h h' k ∧ k ≠ h.size)) ((a, ps) :: (h.size, ps) :: L) := by
  have hl : ∀ x ∈ (a, ps) :: L, x.1 < h.size := fun x hx => (w.st x hx).lt
  have hz := f.size
  have ht := ktab_lt w.tab
  have three : ∀ x, x ∈ (a, ps) :: (h.size, ps) :: L → x = (h.size, ps) ∨ x ∈ (a, ps) :: L := fun x hx => by
    rcases List.mem_cons.1 hx with e | e
    · exact .inr (by simp [e])
    · rcases List.mem_cons.1 e with e | e
      · exact .inl e
      · exact .inr (List.mem_cons_of_mem _ e)
  refine ⟨fun x hx => ?_, fun k hk => ?_, fun x hx k hk => ?_, ?_, w.tab.fr f (by simp), fun x hx => ?_⟩
  · rcases three x hx with e | e
    · subst e; exact hs
    · exact ((w.st x e).ext f).mono fun k e => .inl e
  · rcases hk with e | e
    · have := w.lt k e; omega
    · exact e.1.2
  · rcases three x hx with e | e
    · subst e
      rcases hk with e | e
      · have := w.lt k e; dsimp only; omega
      · exact e.2
    · rcases hk with e' | e'
      · exact w.out x e k e'
      · have := hl x e; have := e'.1.1; omega
  · have hn := w.nd
    simp only [List.map_cons, List.nodup_cons, List.mem_cons, not_or] at hn ⊢
    refine ⟨⟨?_, hn.1⟩, fun hm => ?_, hn.2⟩
    · have := hl (a, ps) (by simp); dsimp only at this; omega
    · obtain ⟨x, hx, e⟩ := List.mem_map.1 hm
      have := hl x (List.mem_cons_of_mem _ hx); omega
  · rcases three x hx with e | e
    · subst e; dsimp only; omega
    · exact w.pos x e
theorem KW.op (w : KW h F ((a, ps) :: L)) (f : Fr (fun k => k = a) h h') (hs : Sto (fun k => F k ∨ New h h' k) h' a ps') : KW h' (fun k => F k ∨ New h h' k) ((a, ps') :: L) := by
  have hz := f.size
  have hl : ∀ x ∈ (a, ps) :: L, x.1 < h.size := fun x hx => (w.st x hx).lt
  have hn := w.nd
  simp only [List.map_cons, List.nodup_cons] at hn
  refine ⟨fun x hx => ?_, fun k hk => ?_, fun x hx k hk => ?_, by simpa using hn, w.tab.fr f (fun e => w.pos (a, ps) (by simp) e.symm), fun x hx => ?_⟩
  · rcases List.mem_cons.1 hx with e | e
    · subst e; exact hs
    · exact ((w.st x (List.mem_cons_of_mem _ e)).fr f (fun e' => hn.1 (List.mem_map.2 ⟨x, e, e'⟩)) w.outH).mono fun k e => .inl e
  · rcases hk with e | e
    · have := w.lt k e; omega
    · exact e.2
  · have hx' : ∃ y ∈ (a, ps) :: L, y.1 = x.1 := by
      rcases List.mem_cons.1 hx with e | e
      · exact ⟨(a, ps), by simp, by rw [e]⟩
      · exact ⟨x, List.mem_cons_of_mem _ e, rfl⟩
    obtain ⟨y, hy, ey⟩ := hx'
    rcases hk with e | e
    · rw [← ey]; exact w.out y hy k e
    · have := hl y hy; have := e.1; omega
  · rcases List.mem_cons.1 hx with e | e
    · subst e; exact w.pos (a, ps) (by simp)
    · exact w.pos x (List.mem_cons_of_mem _ e)
end

set_option maxRecDepth 20000 in
set_option maxHeartbeats 1600000 in
theorem kcame_ret {F : Nat → Prop} {a : Nat} {ps : List PatchD} {h : Heap} (w : KW h F [(a, ps)]) (t : List UInt8) (hl : t.length ≤ 16777216) :
    Ret Tryd.prog 11 #[.pointer (some ⟨a, 0, none⟩), .string (str t)] h fun v h' => Fr (fun k => k = a) h h' ∧ v = .bool true := by
  refine Ret.of_body Tryd.func11 rfl Tryd.ntmps11 rfl rfl ?_
  have hset := w.head.set
  refine zgo ?_
  refine WO.call rfl rfl rfl rfl plain_ktwin rfl (ktwin_ret w.tab w.head w.lt) fun v1 h1 ⟨hx1, hv1, hs1⟩ => ?_
  subst hv1
  have w1 := w.twin hx1 hs1
  clear hs1
  refine zgo ?_
  refine WO.call rfl rfl rfl rfl plain_xApply rfl (kApply_ret w1.tab w1.head w1.outH t hl) fun v2 h2 ⟨hf2, hv2, hs2⟩ => ?_
  subst hv2
  have w2 := w1.op hf2 hs2
  clear hs2
  have hf02 : Fr (fun k => k = a) h h2 := hx1.up.trans hf2
  rcases apply_cases ps t with ⟨e, he0, he⟩ | ⟨p, hp⟩
  · rw [he] at w2
    rw [he]
    dsimp only at w2 ⊢
    have hd : decide ((e : Int) = 0) = false := decide_eq_false (by omega)
    refine zgo ?_
    rw [hd]
    refine zgo ?_
    refine WO.call rfl rfl rfl rfl plain_kalike rfl (kalike_ret w2.head (w2.st (h.size, ps) (by simp)) w2.lt) fun v3 h3 ⟨hx3, hv3⟩ => ?_
    subst hv3
    refine zgo ?_
    exact Runs.ret Tryd.func11 (ret1 Tryd.results11 rfl) ⟨hf02.ex hx3, rfl⟩
  have hap := lets_apply hp
  have htx := parse_text hp.parse
  have hpok := (parse_ok hp.parse).1
  rw [hap] at w2
  rw [hap]
  dsimp only at w2 ⊢
  refine zgo ?_
  rw [← htx]
  rw [← htx] at hl
  refine WO.call rfl rfl rfl rfl plain_kname rfl (kname_ret p (by have := hpok.id; omega) _ hl) fun v3 h3 ⟨hh3, hv3⟩ => ?_
  subst hh3 hv3
  refine zgo ?_
  refine WO.call rfl rfl rfl rfl plain_xText rfl (kText_ret w2.tab w2.head (p.id : Int)) fun v4 h4 ⟨hx4, t4, e4, hv4, ht4⟩ => ?_
  subst hv4
  have hmem : p ∈ withS p ps := withS_mem.2 (.inl rfl)
  obtain ⟨rfl, rfl⟩ := tx_fun w2.head.set.inv.nodup ht4 (.inl ⟨p, hmem, rfl, rfl, rfl⟩)
  have w4 := w2.ext hx4
  refine zgo ?_
  refine WO.call rfl rfl rfl rfl plain_ktwin rfl (ktwin_ret w4.tab w4.head w4.lt) fun v5 h5 ⟨hx5, hv5, hs5⟩ => ?_
  subst hv5
  have w5 := w4.twin hx5 hs5
  clear hs5
  refine zgo ?_
  refine WO.call rfl rfl rfl rfl plain_xUnapply rfl (kUn_ret w5.head w5.outH (p.id : Int)) fun v6 h6 ⟨hf6, e6, ps6, hv6, hu6, hs6⟩ => ?_
  obtain ⟨rfl, rfl⟩ := un_fun w2.head.set.inv.nodup hu6 (un_with hset hp)
  subst hv6
  have w6 := w5.op hf6 hs6
  clear hs6
  refine zgo ?_
  refine WO.call rfl rfl rfl rfl plain_kalike rfl (kalike_ret w6.head (w6.st (h.size, ps6) (by simp)) w6.lt) fun v7 h7 ⟨hx7, hv7⟩ => ?_
  subst hv7
  have w7 := w6.ext hx7
  refine zgo ?_
  refine WO.call rfl rfl rfl rfl plain_xApply rfl (kApply_ret w7.tab w7.head w7.outH (textS p) hl) fun v8 h8 ⟨hf8, hv8, hs8⟩ => ?_
  subst hv8
  have w8 := w7.op hf8 hs8
  clear hs8
  have hap2 : applyS ps6 (textS p) = (0, withS p ps6) := by rw [htx]; exact hap
  rw [hap2] at w8
  rw [hap2]
  dsimp only at w8 ⊢
  have hdt : decide (textS p = textS p) = true := by simp
  refine zgo ?_
  rw [hdt]
  refine zgo ?_
  refine WO.call rfl rfl rfl rfl plain_kalike rfl (kalike_ret w8.head (w8.st (h4.size, withS p ps6) (by simp)) w8.lt) fun v9 h9 ⟨hx9, hv9⟩ => ?_
  subst hv9
  refine zgo ?_
  exact Runs.ret Tryd.func11 (ret1 Tryd.results11 rfl) ⟨((((((hf02.ex hx4).ex hx5).trans hf6).ex hx7).trans hf8).ex hx9), rfl⟩

set_option maxRecDepth 20000 in
set_option maxHeartbeats 1600000 in
theorem kwent_ret {F : Nat → Prop} {a : Nat} {ps : List PatchD} {h : Heap} (w : KW h F [(a, ps)]) (q : Int) :
    Ret Tryd.prog 12 #[.pointer (some ⟨a, 0, none⟩), .int .i64 q] h fun v h' => Fr (fun k => k = a) h h' ∧ v = .bool true := by
  refine Ret.of_body Tryd.func12 rfl Tryd.ntmps12 rfl rfl ?_
  have hset := w.head.set
  refine zgo ?_
  refine WO.call rfl rfl rfl rfl plain_ktwin rfl (ktwin_ret w.tab w.head w.lt) fun v1 h1 ⟨hx1, hv1, hs1⟩ => ?_
  subst hv1
  have w1 := w.twin hx1 hs1
  clear hs1
  refine zgo ?_
  refine WO.call rfl rfl rfl rfl plain_xText rfl (kText_ret w1.tab w1.head q) fun v2 h2 ⟨hx2, t, e, hv2, ht⟩ => ?_
  subst hv2
  have w2 := w1.ext hx2
  refine zgo ?_
  refine WO.call rfl rfl rfl rfl plain_xUnapply rfl (kUn_ret w2.head w2.outH q) fun v3 h3 ⟨hf3, f, ps3, hv3, hu, hs3⟩ => ?_
  subst hv3
  have w3 := w2.op hf3 hs3
  clear hs3
  have hf03 : Fr (fun k => k = a) h h3 := ((hx1.trans hx2).up).trans hf3
  by_cases f0 : f = 0
  · subst f0
    obtain ⟨p, hp, hq, hset3, hlets, hback⟩ := went_un hset hu
    obtain ⟨rfl, rfl⟩ := tx_fun hset.inv.nodup ht (.inl ⟨p, hp, hq, rfl, rfl⟩)
    have hap := lets_apply hlets
    have hpl := text_1400 hset.inv hp
    refine zgo ?_
    refine WO.call rfl rfl rfl rfl plain_xApply rfl (kApply_ret w3.tab w3.head w3.outH (textS p) (by omega)) fun v4 h4 ⟨hf4, hv4, hs4⟩ => ?_
    subst hv4
    have w4 := w3.op hf4 hs4
    clear hs4
    rw [hap, hback] at w4
    rw [hap]
    dsimp only at w4 ⊢
    refine zgo ?_
    refine WO.call rfl rfl rfl rfl plain_kalike rfl (kalike_ret w4.head (w4.st (h.size, ps) (by simp)) w4.lt) fun v5 h5 ⟨hx5, hv5⟩ => ?_
    subst hv5
    refine zgo ?_
    exact Runs.ret Tryd.func12 (ret1 Tryd.results12 rfl) ⟨(hf03.trans hf4).ex hx5, rfl⟩
  · have same : ps3 = ps ∧ (f = 8 ↔ e = 8) := by
      rcases hu with ⟨h1, h2, h3⟩ | ⟨p, hp, hq, ⟨_, h2, h3⟩ | ⟨_, h2, _⟩⟩
      · refine ⟨h3, fun _ => ?_, fun _ => h2⟩
        rcases ht with ⟨p, hp, hq, _⟩ | ⟨_, _, e8⟩
        · exact absurd hq (h1 p hp)
        · exact e8
      · refine ⟨h3, fun e9 => by omega, fun e8 => ?_⟩
        rcases ht with ⟨_, _, _, _, e0⟩ | ⟨hno, _, _⟩
        · omega
        · exact absurd hq (hno p hp)
      · exact absurd h2 f0
    obtain ⟨rfl, hfe⟩ := same
    have hd : decide ((f : Int) = 0) = false := decide_eq_false (by omega)
    have he : decide ((f : Int) = 8) = decide ((e : Int) = 8) := decide_eq_decide.2 (by omega)
    refine zgo ?_
    rw [hd]
    refine zgo ?_
    refine WO.call rfl rfl rfl rfl plain_kalike rfl (kalike_ret w3.head (w3.st (h.size, ps3) (by simp)) w3.lt) fun v5 h5 ⟨hx5, hv5⟩ => ?_
    subst hv5
    refine zgo ?_
    rw [he]
    refine WO.val (ov_beql tab_ok rfl rfl rfl rfl) rfl rfl rfl ?_
    refine zgo ?_
    exact Runs.ret Tryd.func12 (ret1 Tryd.results12 rfl) ⟨hf03.ex hx5, by simp⟩

end Go.Proofs.YtlaffgagmncgjabDoor
