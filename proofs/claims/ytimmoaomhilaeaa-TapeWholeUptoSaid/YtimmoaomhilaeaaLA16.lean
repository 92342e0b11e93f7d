/- The answers' lengths; what is drawn of tapes that may be. -/
import Derived.Test.YtimmoaomhilaeaaTH16
namespace Go.Proofs.Ytimmoaomhilaeaa
open Go.RowKit
set_option maxRecDepth 100000
theorem drT_len16 (t : Tp) (k : Int) (h : t.log.length + t.rest.length ≤ 1100) : (drT t k).log.length ≤ 1101 ∧ (drT t k).rest.length ≤ 1100 := by
  unfold drT
  split
  · split
    · exact ⟨by omega, by omega⟩
    · refine ⟨?_, ?_⟩
      · show (t.log ++ [_]).length ≤ 1101
        rw [List.length_append]; simp; omega
      · show (t.rest.drop 1).length ≤ 1100
        rw [List.length_drop]; omega
  · exact ⟨by simp, by simp⟩
theorem dvT_len16 (t : Tp) (k : Int) (h : t.log.length + t.rest.length ≤ 1100) : (dvT t k).log.length ≤ 1101 ∧ (dvT t k).rest.length ≤ 1100 := by
  unfold dvT
  split
  · refine ⟨?_, ?_⟩
    · show (t.log.take _).length ≤ 1101
      rw [List.length_take]; omega
    · show t.rest.length ≤ 1100
      omega
  · exact ⟨by simp, by simp⟩
theorem ints_emp16 {w : World} {A : Option Addr} {xs : List Int} (h : xs.length = 0) : IntsR w A xs := by rw [List.eq_nil_of_length_eq_zero h]; exact ints_nil16 _ _
theorem mayT_iff16 {t : Tp} : mayT t = true ↔ (∀ x ∈ allT t, smB x = true) ∧ t.log.length + t.rest.length ≤ 1000 := by
  unfold mayT smT
  rw [Bool.and_eq_true, decide_eq_true_iff, List.all_eq_true, allT_len]
theorem may_take16 {t : Tp} (h : mayT t = true) (m : Nat) : mayT ⟨t.log.take m, t.rest⟩ = true := by
  obtain ⟨h1, h2⟩ := mayT_iff16.1 h
  refine mayT_iff16.2 ⟨fun x hx => h1 x ?_, ?_⟩
  · rcases List.mem_append.1 hx with g | g
    · exact List.mem_append_left _ (List.mem_of_mem_take g)
    · exact List.mem_append_right _ g
  · show (t.log.take m).length + t.rest.length ≤ 1000
    rw [List.length_take]; omega
theorem dv_in16 {t : Tp} (h : mayT t = true) {m : Nat} (hm : m ≤ t.log.length) : dvT t m = ⟨t.log.take m, t.rest⟩ ∧ dvE t m = 0 := by
  have e : dvB t m = true := by unfold dvB; rw [h, decide_eq_true (by omega), decide_eq_true (by omega)]; rfl
  exact ⟨dvT_yes e, dvE_yes e⟩
theorem drB_in16 {t : Tp} (h : mayT t = true) {m : Nat} (hm : m ≤ t.log.length) (h1 : m ≠ 1000) : drB t m = true := by
  unfold drB dvB; rw [h, decide_eq_true (by omega), decide_eq_true (by omega), decide_eq_true (by omega)]; rfl
theorem dr_end16 {t : Tp} (h : mayT t = true) {m : Nat} (hm : t.log.length = m) (h1 : m ≠ 1000) {x : Int} (hx : t.rest.getD 0 0 = x) : drN t m = x ∧ drT t m = ⟨t.log ++ [x], t.rest.drop 1⟩ ∧ drE t m = 0 := by
  have e := drB_in16 h (Nat.le_of_eq hm.symm) h1
  subst hx
  obtain ⟨h2, h3⟩ := drT_new e hm.symm
  exact ⟨h3, h2, drE_yes e⟩
theorem dr_in16 {t : Tp} (h : mayT t = true) {m : Nat} (hm : m < t.log.length) (h1 : m ≠ 1000) : drN t m = t.log[m] ∧ drT t m = t ∧ drE t m = 0 := by
  have e := drB_in16 h (Nat.le_of_lt hm) h1
  obtain ⟨h2, h3⟩ := drT_log e hm
  exact ⟨h3, h2, drE_yes e⟩
end Go.Proofs.Ytimmoaomhilaeaa
