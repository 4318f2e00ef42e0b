import Derived.Test.YtfkkphojjfnjnaaGreatDoorT25
namespace Go.Proofs.YtfkkphojjfnjnaaGreatDoor
open Go Go.Pat Go.Proofs

theorem plain_Of : Plain Tryz.prog 90 := plain80
theorem plain_mShow : Plain Tryz.prog 49 := ⟨_, Tryz.func49, by decide +kernel, by rfl⟩

theorem strand_ex (n : Nat) (ld : List (List Bool)) (bl : List Int) : ∃ st : Nat → Nat, ∀ i, IsStrand n ld bl i (st i) := by
  refine Classical.axiomOfChoice fun i => ?_
  have key : ∀ m k, k ≤ m → Conn n ld bl i k → ∃ r, IsStrand n ld bl i r := by
    intro m
    induction m with
    | zero => intro k hk hc; exact ⟨k, hc, fun j _ => by omega⟩
    | succ m ih =>
      intro k hk hc
      by_cases h : ∃ j, j < k ∧ Conn n ld bl i j
      · obtain ⟨j, hj, hjc⟩ := h
        exact ih j (by omega) hjc
      · refine ⟨k, hc, fun j hj => ?_⟩
        rcases Nat.lt_or_ge j k with e | e
        · exact absurd ⟨j, e, hj⟩ h
        · exact e
  exact key i i (Nat.le_refl _) .refl
theorem orphan_ex (ps : List PatchD) (al : List LineD) : ∃ orp : Nat → Bool, ∀ i l, al[i]? = some l → (orp i = true ↔ Orphan ps l) := by
  refine ⟨fun i => @decide (∃ l, al[i]? = some l ∧ Orphan ps l) (Classical.propDecidable _), fun i l hl => ?_⟩
  rw [@decide_eq_true_iff _ (Classical.propDecidable _)]
  constructor
  · rintro ⟨l', h1, h2⟩
    rw [hl] at h1; cases h1; exact h2
  · intro h; exact ⟨l, hl, h⟩

def opOf (ps : List PatchD) (st : Nat → Nat) (orp : Nat → Bool) : OP := ⟨(alS ps).length, leadS ps, fixS ps, blkS ps, st, orp⟩
def showFull (ps : List PatchD) (st : Nat → Nat) (orp : Nat → Bool) : List (List UInt8) := showTo (alS ps) ((opOf ps st orp).to (alS ps).length) (alS ps).length

theorem alS_mem {ps : List PatchD} {l : LineD} (h : l ∈ alS ps) : l ∈ linesS ps := by
  unfold alS alOf at h
  obtain ⟨k, _, e⟩ := List.mem_filterMap.1 h
  exact List.mem_of_getElem? e
theorem alS_len (ps : List PatchD) : (alS ps).length ≤ (linesS ps).length := by
  unfold alS alOf liveS liveTo
  refine Nat.le_trans (List.length_filterMap_le _ _) (Nat.le_trans (List.length_filter_le _ _) ?_)
  simp
theorem linesS_mem {ps : List PatchD} {l : LineD} (h : l ∈ linesS ps) : ∃ p ∈ ps, l.ref.p = p.id ∧ ∃ c ∈ p.changes, l.text = c.text := by
  unfold linesS linesOfS linesUp at h
  obtain ⟨p, hp, hl⟩ := List.mem_flatMap.1 h
  obtain ⟨⟨c, i⟩, hc, rfl⟩ := List.mem_map.1 hl
  have := List.mem_zipIdx' hc
  refine ⟨p, hp, rfl, c, ?_, rfl⟩
  have h2 := this.2
  rw [h2]
  exact (List.mem_filter.1 (List.getElem_mem _)).1

theorem show_ne {ps : List PatchD} {st : Nat → Nat} {orp : Nat → Bool} : ∀ t ∈ showFull ps st orp, t ≠ [] := by
  intro t ht
  unfold showFull showTo at ht
  obtain ⟨k, hk, hs⟩ := List.mem_flatMap.1 ht
  unfold showAt at hs
  split at hs
  · rename_i s e
    have hm := (opOf ps st orp).to_mem _ s (List.mem_of_getElem? e)
    rcases List.mem_append.1 hs with h | h
    · unfold preP at h
      split at h
      · simp at h; subst h; simp
      · split at h
        · simp at h; subst h; simp
        · simp at h
    · rcases List.mem_cons.1 h with h | h
      · subst h
        unfold lineT
        rw [List.getElem?_eq_getElem hm.1]
        simp
      · unfold preQ at h
        split at h
        · simp at h; subst h; simp
        · simp at h
  · simp at hs

set_option maxRecDepth 20000 in
theorem mShow_ret {F : Nat → Prop} (bm b : Nat) (bs : List Nat) (ps : List PatchD) (st : Nat → Nat) (orp : Nat → Bool) (h : Heap) (hb : Blk h bm [.pointer (some ⟨b, 0, none⟩)] 65) (hs : SA F h b bs ps) (hg : Good ps) (hcl : Closed ps)
    (hst : ∀ i, IsStrand (alS ps).length (leadS ps) (blkS ps) i (st i)) (hor : ∀ i l, (alS ps)[i]? = some l → (orp i = true ↔ Orphan ps l)) :
    Ret Tryz.prog 49 #[.pointer (some ⟨bm, 0, none⟩)] h fun v h' => Ext h h' ∧ Own h' 9 1 v (showFull ps st orp).length (strs (showFull ps st orp)) ∧ ∀ k, v.ownBlock = some k → h.size ≤ k := by
  refine Ret.of_body Tryz.func49 rfl Tryz.ntmps49 rfl rfl ?_
  have m0 := hb.cell (j := 0) rfl
  have hbs : bs.length = ps.length := by obtain ⟨_, _, _, e, _⟩ := hs; exact e.1
  have hpl := hg.len
  have hll := linesS_len hg
  have hal := alS_len ps
  have hch : ∀ p ∈ ps, p.changes.length ≤ 1000 := fun p hp => by have := (hg.ok p hp).len; omega
  have hnd : ∀ p ∈ ps, p.needs.length ≤ 1000 := fun p hp => by have := (hg.ok p hp).nlen; omega
  refine zgo ?_
  refine WO.call rfl rfl rfl rfl plain_Of rfl (of_ret b bs ps _ hs (by omega) hch (by omega)) fun v1 h1 ⟨hx1, mb, hv1, hg1⟩ => ?_
  subst hv1
  refine zgo ?_
  refine WO.call rfl rfl rfl rfl plain85 rfl (show_ret mb b bs ps (alS ps) (opOf ps st orp) _ (hs.ext hx1) hcl hg1 rfl (fun i _ => hst i) hor (fun l hl => ?_) (by omega) hch hnd (by omega) (fun l hl => ?_)) fun v2 h2 ⟨hx2, ho2, hm2⟩ => ?_
  · obtain ⟨p, hp, e, _⟩ := linesS_mem (alS_mem hl)
    exact List.mem_map.2 ⟨p, hp, e.symm⟩
  · obtain ⟨p, hp, _, c, hc, e⟩ := linesS_mem (alS_mem hl)
    have := ((hg.ok p hp).changes c hc).text
    rw [e]; omega
  refine zgo ?_
  have hz := hx1.size
  exact Runs.ret Tryz.func49 (ret1 Tryz.results49 rfl) ⟨hx1.trans hx2, ho2, fun k hk => by have := hm2 k hk; omega⟩

end Go.Proofs.YtfkkphojjfnjnaaGreatDoor
