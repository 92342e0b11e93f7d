/- Become twice changes nothing, whichever is told first: over plain heaps. -/
import Derived.Test.YtkpfmbdkfgeboaaGreatMK0
import Derived.Test.YtkpfmbdkfgeboaaGreatB
namespace Go.Proofs.YtkpfmbdkfgeboaaGreat
open Go.RowKit
/-- v and u have changed places -/
def swH (h : Hp) (v u : Int) : Hp := putO (putO h (atV v).toNat (obAt h u)) (atV u).toNat (obAt h v)
theorem swH_len (h : Hp) (v u : Int) : (swH h v u).objs.length = h.objs.length := by unfold swH; rw [putO_len, putO_len]
theorem be_ok {h : Hp} {v u : Int} (hm : mayB h = true) (hv : refB h.objs.length v = true) (hu : refB h.objs.length u = true) : beE h v u = 0 ∧ beR h v u = swH h v u := by
  have n1 : ¬ mayB h = false := by rw [hm]; decide
  have n2 : ¬ (refB h.objs.length v = false ∨ refB h.objs.length u = false) := by rw [hv, hu]; decide
  exact ⟨by unfold beE; rw [if_neg n1, if_neg n2], by unfold beR; rw [if_neg n1, if_neg n2]; rfl⟩
theorem sw_may {h : Hp} {v u : Int} (hm : mayB h = true) (hv : refB h.objs.length v = true) (hu : refB h.objs.length u = true) : mayB (swH h v u) = true := by
  unfold swH
  refine putO_may (putO_may hm (may_all hm _ (ob_mem hu))) ?_
  rw [putO_len]
  exact may_all hm _ (ob_mem hv)
theorem at_ne {n : Nat} {v u : Int} (hv : refB n v = true) (hu : refB n u = true) (e : v ≠ u) : (atV v).toNat ≠ (atV u).toNat := fun g => by
  obtain ⟨b1, c1, d1⟩ := refB_no hv
  obtain ⟨b2, c2, d2⟩ := refB_no hu
  exact e (atB_eq b1 b2 (by omega))
theorem putO_swap (h : Hp) {i j : Nat} (o p : Ob) (e : i ≠ j) : putO (putO h i o) j p = putO (putO h j p) i o := by
  unfold putO
  simp only [Hp.mk.injEq, and_true]
  exact List.set_comm o p e
theorem putO_twice (h : Hp) (i : Nat) (o p : Ob) : putO (putO h i o) i p = putO h i p := by
  unfold putO
  simp only [List.set_set]
theorem putO_self {h : Hp} {v : Int} (hv : refB h.objs.length v = true) : putO h (atV v).toNat (obAt h v) = h := by
  have := putO_back hv (obAt h v)
  rw [putO_twice] at this
  exact this
theorem sw_self {h : Hp} {v : Int} (hv : refB h.objs.length v = true) : swH h v v = h := by
  unfold swH
  rw [putO_twice]
  exact putO_self hv
theorem sw_sym {h : Hp} {v u : Int} (hv : refB h.objs.length v = true) (hu : refB h.objs.length u = true) : swH h u v = swH h v u := by
  by_cases e : v = u
  · rw [e]
  · unfold swH
    exact putO_swap h _ _ (at_ne hu hv (fun g => e g.symm))
theorem sw_at {h : Hp} {v u : Int} (hv : refB h.objs.length v = true) (hu : refB h.objs.length u = true) : obAt (swH h v u) v = obAt h u := by
  unfold swH
  rw [obAt_put (by rw [putO_len]; exact hu) (by rw [putO_len]; exact hv)]
  by_cases e : v = u
  · rw [if_pos e, e]
  · rw [if_neg e, obAt_put hv hv, if_pos rfl]
theorem sw_back {h : Hp} {v u : Int} (hv : refB h.objs.length v = true) (hu : refB h.objs.length u = true) : swH (swH h v u) u v = h := by
  by_cases e : v = u
  · rw [e, sw_self hu, sw_self hu]
  · have a1 : obAt (swH h v u) v = obAt h u := sw_at hv hu
    have a2 : obAt (swH h v u) u = obAt h v := by rw [← sw_sym hv hu]; exact sw_at hu hv
    have n := at_ne hv hu e
    show putO (putO (swH h v u) (atV u).toNat (obAt (swH h v u) v)) (atV v).toNat (obAt (swH h v u) u) = h
    rw [a1, a2]
    unfold swH
    rw [putO_twice, putO_swap h _ _ n, putO_twice, putO_swap _ _ _ (fun g => n g.symm), putO_self hv, putO_self hu]
/-- all that the law asks -/
structure Swaps (h k : Hp) (v u : Int) : Prop where
  e1 : beE h v u = 0
  r1 : beR h v u = k
  e2 : beE k u v = 0
  r2 : beR k u v = h
  e3 : beE h u v = 0
  r3 : beR h u v = k
  e4 : beE h v v = 0
  r4 : beR h v v = h
  may : mayB k = true
  fit : k.Fit
  len : k.objs.length = h.objs.length
  at_ : k.objs[(atV v).toNat]? = h.objs[(atV u).toNat]?
  lo : 0 ≤ atV v
  hi : atV v < h.objs.length
  lo' : 0 ≤ atV u
  hi' : atV u < h.objs.length
theorem swaps {h : Hp} {v u : Int} (hm : mayB h = true) (hv : refB h.objs.length v = true) (hu : refB h.objs.length u = true) : Swaps h (swH h v u) v u := by
  have m := sw_may hm hv hu
  have l := swH_len h v u
  have hv' : refB (swH h v u).objs.length v = true := by rw [l]; exact hv
  have hu' : refB (swH h v u).objs.length u = true := by rw [l]; exact hu
  obtain ⟨_, c1, d1⟩ := refB_no hv
  obtain ⟨_, c2, d2⟩ := refB_no hu
  refine ⟨(be_ok hm hv hu).1, (be_ok hm hv hu).2, (be_ok m hu' hv').1, by rw [(be_ok m hu' hv').2, sw_back hv hu], (be_ok hm hu hv).1, by rw [(be_ok hm hu hv).2, sw_sym hv hu], (be_ok hm hv hv).1, by rw [(be_ok hm hv hv).2, sw_self hv], m, may_fit m, l, ?_, c1, d1, c2, d2⟩
  obtain ⟨i, hi, ei, oi⟩ := obAt_get hv'
  obtain ⟨j, hj, ej, oj⟩ := obAt_get hu
  rw [sw_at hv hu] at oi
  rw [show (atV v).toNat = i by omega, show (atV u).toNat = j by omega, oi, oj]
theorem refI_no {n : Nat} {v : Int} (h : refB n v = false) : refI n v = -1 := by unfold refI; rw [if_neg (by rw [h]; decide)]
theorem refI_yes {n : Nat} {v : Int} (h : refB n v = true) : ¬ refI n v < 0 := by rw [refI_nonneg h]; have := refB_no h; omega
theorem refI_lss {n : Nat} {v : Int} (h : refB n v = true) : decide (refI n v < 0) = false := decide_eq_false (refI_yes h)
end Go.Proofs.YtkpfmbdkfgeboaaGreat
