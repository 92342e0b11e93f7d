/- What is reached: of all objects, of none, of one. -/
import Derived.Test.YtjpibkcbgogfoaaMP
import Derived.Test.YtjpibkcbgogfoaaL
namespace Go.Proofs.Ytjpibkcbgogfoaa
open Go.RowKit
def evens (n : Nat) : List Int := (List.range n).map fun i : Nat => 2 * (i : Int)
theorem at_even {i : Nat} (h : i < 1048576) : atB (2 * (i : Int)) = true ∧ atV (2 * (i : Int)) = i := by
  have h1 : atB (2 * (i : Int)) = true := atB_iff.2 (by omega)
  refine ⟨h1, ?_⟩
  unfold atV
  rw [if_pos h1]
  omega
theorem ref_even {n i : Nat} (hn : n ≤ 256) (h : i < n) : refB n (2 * (i : Int)) = true := by
  obtain ⟨h1, h2⟩ := at_even (i := i) (by omega)
  unfold refB
  rw [h1, h2]
  simpa using h
theorem evens_ok {h : Hp} (hm : mayB h = true) : liE h (evens h.objs.length) = 0 := by
  have hle := may_len hm
  unfold liE
  rw [if_pos hm, if_pos]
  refine List.all_eq_true.2 fun v hv => ?_
  obtain ⟨i, hi, rfl⟩ := List.mem_map.1 hv
  unfold hasB
  rw [ref_even hle (List.mem_range.1 hi), Bool.or_true]
theorem evens_live {h : Hp} (hm : mayB h = true) : (liL h (evens h.objs.length)).length = h.objs.length := by
  have hle := may_len hm
  unfold liL
  rw [if_pos (evens_ok hm), liveL_length]
  have : liveN h (evens h.objs.length) = List.range h.objs.length := by
    unfold liveN
    refine List.filter_eq_self.2 fun i hi => ?_
    have hi' := List.mem_range.1 hi
    have hr := ref_even (n := h.objs.length) hle hi'
    have := Reach.root (h := h) (rs := evens h.objs.length) (2 * (i : Int)) (List.mem_map.2 ⟨i, hi, rfl⟩) hr
    rw [(at_even (i := i) (by omega)).2, Int.toNat_natCast] at this
    simpa using this
  rw [this, List.length_range]
theorem none_reach {h : Hp} {i : Nat} : ¬ Reach h [] i := fun r => r.least (fun _ => False) (fun v hv => by simp at hv) (fun i o v hi => hi.elim)
theorem none_live {h : Hp} (hm : mayB h = true) : liE h [] = 0 ∧ liL h [] = [] := by
  have e : liE h [] = 0 := by unfold liE; rw [if_pos hm]; rfl
  refine ⟨e, ?_⟩
  unfold liL
  rw [if_pos e]
  refine List.eq_nil_iff_forall_not_mem.2 fun x hx => ?_
  obtain ⟨i, -, hi⟩ := mem_liveL.1 hx
  exact none_reach hi
theorem one_has {h : Hp} (hm : mayB h = true) (v : Int) : mhB h [v] v = refB h.objs.length v := by
  unfold mhB
  cases hr : refB h.objs.length v
  · cases ha : atB v
    · rfl
    · have hn : nB v = false := by
        cases hn : nB v
        · rfl
        · have := nB_iff.1 hn; have := atB_iff.1 ha; omega
      have e : liE h [v] = 31 := by
        unfold liE
        rw [if_pos hm, if_neg]
        simp [hasB, hn, hr]
      unfold liL
      rw [e]
      simp
  · obtain ⟨ha, h0, h1⟩ := refB_no hr
    have e : liE h [v] = 0 := by
      unfold liE
      rw [if_pos hm, if_pos]
      simp [hasB, hr]
    unfold liL
    rw [if_pos e, ha]
    have : atV v ∈ liveL h [v] := mem_liveL.2 ⟨_, (refB_nat hr).2.symm, .root v (by simp) hr⟩
    simpa using this
end Go.Proofs.Ytjpibkcbgogfoaa
