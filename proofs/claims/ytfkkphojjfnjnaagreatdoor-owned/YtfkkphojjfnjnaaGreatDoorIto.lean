import Derived.Test.YtfkkphojjfnjnaaGreatDoorShelf
import Derived.Test.YtfkkphojjfnjnaaGreatDoorP4
namespace Go.Proofs.YtfkkphojjfnjnaaGreatDoor
open Go Go.Pat Go.Proofs

/-- The library's table of powers of ten lies as it is laid. -/
def Tab10 (h : Heap) : Prop := ∃ e fr, h[0]? = some (.cells (Lib.pow10Tab.map fun z => Value.int .u64 z).toArray e fr)
theorem Tab10.fr {S : Nat → Prop} {h h' : Heap} (x : Tab10 h) (f : Fr S h h') (hs : ¬ S 0) : Tab10 h' := by
  obtain ⟨e, fr, hx⟩ := x
  exact ⟨e, fr, by rw [f.same 0 (Array.getElem?_eq_some_iff.1 hx).1 hs]; exact hx⟩

theorem glob0 : Tryz.prog.globalNamed "internal/strconv.uint64pow10" = some 0 := by kernel_rfl

theorem Tab10.is {w : World} (x : Tab10 w.heap) : Lib.TabIs Tryz.prog w "internal/strconv.uint64pow10" .u64 Lib.pow10Tab := by
  obtain ⟨e, fr, hx⟩ := x
  unfold Lib.TabIs World.var?
  rw [glob0]
  simp only [Option.bind_some, hx]

theorem itoa_eq (n : Nat) : Lib.itoa (n : Int) = decS n := by
  unfold Lib.itoa
  rw [if_neg (by omega), Int.toNat_natCast]
  induction n using Nat.strongRecOn with
  | ind n ih =>
    rw [Lib.decDigits]
    by_cases h : n < 10
    · rw [dif_pos h, decS_small h]
    · rw [dif_neg h, decS_big h, ih (n / 10) (by omega)]

theorem itoaOK : ItoaOK Tab10 := by
  refine ⟨fun h h' hx f => hx.fr f (by simp), fun n h ht hn w hw => ?_⟩
  subst hw
  refine (Any.strconv_Itoa Tryz.laysM171 (n : Int) (by omega) (by omega) w ht.is).mono ?_
  rintro e w' ⟨rfl, k, os, rfl⟩
  refine ⟨_, rfl, ⟨rfl, rfl, rfl⟩, ⟨?_, fun b hb _ => ?_⟩, by rw [itoa_eq]; rfl⟩
  · simp [Go.Sort.grow, World.drewN]
  · simp [Go.Sort.grow, World.drewN, Array.getElem?_append, hb]

end Go.Proofs.YtfkkphojjfnjnaaGreatDoor
