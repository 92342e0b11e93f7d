/- Values by a heap's table: what the law asks of one, and of two. -/
import Derived.Test.YtelljlmjhnjpiaaVA
import Derived.Test.YtelljlmjhnjpiaaMB
namespace Go.Proofs.Ytelljlmjhnjpiaa
open Go.RowKit
/-- a value of the heap has a value by the table just if it is no ref, or its object is reached -/
theorem val5 {h : Hp} {rs : List Int} (e : liE h rs = 0) {a : Int} (ha : hasB h.objs.length a = true) :
    (refI h.objs.length a < 0 ∧ vaB (tabL h rs) a = true) ∨ (0 ≤ refI h.objs.length a ∧ decide (refI h.objs.length a ∈ liL h rs) = vaB (tabL h rs) a) := by
  cases hr : refB h.objs.length a
  · exact .inl ⟨by rw [refI_no hr]; decide, (va_small (has_not ha hr)).2⟩
  · have hx := refB_nat hr
    refine .inr ⟨by rw [refI_nonneg hr, ← hx.2]; exact Int.natCast_nonneg _, ?_⟩
    rw [refI_nonneg hr, (li_ok e).2.2, ← hx.2]
    by_cases g : (atV a).toNat ∈ liveN h rs
    · rw [(va_ref e hr g).2, decide_eq_true (mem_liveL_nat.2 g)]
    · rw [(va_gone e hr g).2, decide_eq_false fun m => g (mem_liveL_nat.1 m)]
theorem val5_live {h : Hp} {rs : List Int} (e : liE h rs = 0) {a : Int} (ha : hasB h.objs.length a = true) (pa : vaB (tabL h rs) a = true) : LiveV h rs a := by
  refine ⟨ha, fun hr => ?_⟩
  by_cases g : (atV a).toNat ∈ liveN h rs
  · exact g
  · rw [(va_gone e hr g).2] at pa; cases pa
theorem val5_eq {h : Hp} {rs : List Int} (e : liE h rs = 0) {a b : Int} (ha : hasB h.objs.length a = true) (hb : hasB h.objs.length b = true) (pa : vaB (tabL h rs) a = true) (pb : vaB (tabL h rs) b = true) :
    (a = b ∧ vaV (tabL h rs) a = vaV (tabL h rs) b) ∨ ((a == b) = false ∧ (vaV (tabL h rs) a == vaV (tabL h rs) b) = false) := by
  have key := va_inj e (val5_live e ha pa) (val5_live e hb pb)
  by_cases g : a = b
  · exact .inl ⟨g, by rw [g]⟩
  · exact .inr ⟨by simpa using g, by simpa using fun k => g (key.1 k)⟩
end Go.Proofs.Ytelljlmjhnjpiaa
