/- A pair laid first into a class's own dictionary, in plain mathematics. -/
import Derived.Test.YtcahdhocilmoeaaSA9
namespace Go.Proofs.Ytcahdhocilmoeaa
open Go.RowKit
/-- an object with two slots ahead -/
def ahead9 (o : Ob) (x y : Int) : Ob := { o with slots := x :: y :: o.slots }
def ly9 (h : Hp) (d x y : Int) : Hp := { h with objs := h.objs.set (atV d).toNat (ahead9 (obAt h d) x y) }
theorem ly9_len (h : Hp) (d x y : Int) : (ly9 h d x y).objs.length = h.objs.length := by unfold ly9; simp
theorem atV_zero9 {v : Int} (h : atB v = false) : atV v = 0 := by unfold atV; rw [if_neg (by rw [h]; decide)]
theorem atV_two9 {v : Int} (h : atB v = true) : v = 2 * atV v := by
  have h1 := atB_iff.1 h
  unfold atV; rw [if_pos h]; omega
theorem ob_ly9 {h : Hp} {d x y v : Int} (hd : refB h.objs.length d = true) (h0 : d ≠ 0) (hv : v ≠ d) : obAt (ly9 h d x y) v = obAt h v := by
  unfold obAt ly9
  simp only
  rw [List.getD_eq_getElem?_getD, List.getD_eq_getElem?_getD, List.getElem?_set_ne]
  intro e
  obtain ⟨d1, d2, d3⟩ := refB_no hd
  have d4 := atV_two9 d1
  cases hb : atB v with
  | true =>
    have v1 := atV_two9 hb
    have v2 := (atV_lt hb).1
    omega
  | false =>
    have v1 := atV_zero9 hb
    omega
theorem ob_here9 {h : Hp} {d x y : Int} (hd : refB h.objs.length d = true) : obAt (ly9 h d x y) d = ahead9 (obAt h d) x y := by
  have hl := (ref_is9 hd).2
  show (ly9 h d x y).objs.getD _ _ = _
  unfold ly9
  simp only
  rw [List.getD_eq_getElem?_getD, List.getElem?_set_self hl]; rfl
theorem kind_ly9 {h : Hp} {d x y : Int} (hd : refB h.objs.length d = true) (h0 : d ≠ 0) (v : Int) : (obAt (ly9 h d x y) v).kind = (obAt h v).kind := by
  by_cases hv : v = d
  · rw [hv, ob_here9 hd]; rfl
  · rw [ob_ly9 hd h0 hv]
theorem may_ly9 {h : Hp} {d x y : Int} (hm : mayB h = true) (hd : refB h.objs.length d = true) (hk : (obAt h d).kind = 0) (hl : (obAt h d).slots.length ≤ 60) (hx : hasB h.objs.length x = true) (hy : hasB h.objs.length y = true) : mayB (ly9 h d x y) = true := by
  have hall := may_all hm
  obtain ⟨i, hi, hv, ho⟩ := obAt_get hd
  have hob := hall _ (List.mem_of_getElem? ho)
  unfold mayB at hm ⊢
  rw [ly9_len]
  simp only [Bool.and_eq_true, decide_eq_true_eq, List.all_eq_true] at hm ⊢
  refine ⟨⟨hm.1.1, hm.1.2⟩, fun o hoo => ?_⟩
  rcases List.mem_or_eq_of_mem_set hoo with h1 | h1
  · exact hall o h1
  · rw [h1]
    unfold obB at hob ⊢
    simp only [Bool.and_eq_true, List.all_eq_true] at hob ⊢
    refine ⟨⟨hob.1.1, ?_⟩, fun v hv => ?_⟩
    · have k := hob.1.2
      unfold kiB at k ⊢
      rw [if_pos hk] at k
      rw [if_pos (show (ahead9 (obAt h d) x y).kind = 0 from hk)]
      simp only [Bool.and_eq_true, decide_eq_true_eq] at k ⊢
      refine ⟨⟨?_, k.1.2⟩, k.2⟩
      show (((x :: y :: (obAt h d).slots).length : Nat) : Int) ≤ 64
      simp only [List.length_cons]; omega
    · rcases List.mem_cons.1 hv with rfl | hv
      · exact hx
      · rcases List.mem_cons.1 hv with rfl | hv
        · exact hy
        · exact hob.2 v hv
section
variable {h : Hp} {d x y : Int}
theorem paB_ly9 (hd : refB h.objs.length d = true) (h0 : d ≠ 0) (v : Int) : paB9 (ly9 h d x y) v = paB9 h v := by
  unfold paB9
  rw [ly9_len, kind_ly9 hd h0]
theorem cl_ly9 (hm : mayB h = true) (gm : mayB (ly9 h d x y) = true) (hd : refB h.objs.length d = true) (h0 : d ≠ 0) (nh : clB9 h d = false) (ng : clB9 (ly9 h d x y) d = false) (c : Int) : clB9 (ly9 h d x y) c = clB9 h c := by
  by_cases hc : c = d
  · rw [hc, nh, ng]
  · unfold clB9 sl9
    rw [ob_ly9 hd h0 hc, paB_ly9 hd h0, ly9_len, hm, gm]
theorem paL_ly9 (hd : refB h.objs.length d = true) (h0 : d ≠ 0) {v : Int} (hv : v ≠ d) : paL9 (ly9 h d x y) v = paL9 h v := by
  unfold paL9
  rw [ly9_len, ob_ly9 hd h0 hv]
theorem ref_pos9 {n : Nat} {d : Int} (hd : refB n d = true) (h0 : d ≠ 0) : 0 < refI n d := by
  have h1 := refB_no hd
  have h2 := ref_is9 hd
  rw [refI_nonneg hd]; omega
theorem paL_here9 (hd : refB h.objs.length d = true) (h0 : d ≠ 0) (hk : (obAt h d).kind = 0) : paL9 (ly9 h d x y) d = x :: y :: paL9 h d := by
  have hp := ref_pos9 hd h0
  unfold paL9
  rw [ly9_len, ob_here9 hd, if_neg (by rintro (e | e | e); · omega
                                       · omega
                                       · exact e hk), if_neg (by rintro (e | e | e); · omega
                                                                 · omega
                                                                 · exact e hk)]
  rfl
theorem pf9_cons (a b : Int) (l : List Int) (s : Int) : pf9 (a :: b :: l) s = if a = s then some b else pf9 l s := rfl
/-- a class's dictionary is one -/
theorem cl9_dict {c : Int} (hc : clB9 h c = true) : paB9 h (sl9 h c 1) = true := by
  unfold clB9 at hc
  simp only [Bool.and_eq_true] at hc
  exact hc.2.2.2.2.2.1
theorem pa9_ref {v : Int} (hp : paB9 h v = true) (h0 : v ≠ 0) : refB h.objs.length v = true ∧ (obAt h v).kind = 0 := by
  unfold paB9 at hp
  simp only [Bool.or_eq_true, Bool.and_eq_true, decide_eq_true_eq] at hp
  cases hr : refB h.objs.length v with
  | true =>
    have := ref_pos9 hr h0
    rcases hp with hp | hp
    · omega
    · exact ⟨rfl, hp.2⟩
  | false =>
    have e : refI h.objs.length v = -1 := by unfold refI; rw [if_neg (by rw [hr]; decide)]
    rw [e] at hp
    rcases hp with hp | hp <;> omega
theorem fi_ly9 {c s : Int} (hm : mayB h = true) (gm : mayB (ly9 h d x y) = true) (hd : refB h.objs.length d = true) (h0 : d ≠ 0) (hk : (obAt h d).kind = 0) (nh : clB9 h d = false) (ng : clB9 (ly9 h d x y) d = false) (hs : x ≠ s) (k : Nat) (e : Int) (he : e = c ∨ e ≠ 0) : fi9 (ly9 h d x y) s k e = fi9 h s k e := by
  induction k generalizing e with
  | zero => rfl
  | succ k ih =>
    have e1 := cl_ly9 hm gm hd h0 nh ng e
    cases hcl : clB9 h e with
    | false =>
      rw [hcl] at e1
      rw [fi9_not hcl, fi9_not e1]
    | true =>
      rw [hcl] at e1
      have hne : e ≠ d := fun f => by rw [f, nh] at hcl; cases hcl
      have sl : ∀ j, sl9 (ly9 h d x y) e j = sl9 h e j := fun j => by unfold sl9; rw [ob_ly9 hd h0 hne]
      have hp : pf9 (paL9 (ly9 h d x y) (sl9 (ly9 h d x y) e 1)) s = pf9 (paL9 h (sl9 h e 1)) s := by
        rw [sl]
        by_cases hec : sl9 h e 1 = d
        · rw [hec, paL_here9 hd h0 hk, pf9_cons, if_neg hs]
        · rw [paL_ly9 hd h0 hec]
      cases hq : pf9 (paL9 h (sl9 h e 1)) s with
      | some v => rw [fi9_here hcl hq, fi9_here e1 (hp.trans hq)]
      | none =>
        rw [fi9_step hcl hq, fi9_step e1 (hp.trans hq), sl]
        by_cases hz : sl9 h e 0 = 0 ∨ k = 0
        · rw [if_pos hz, if_pos hz]
        · rw [if_neg hz, if_neg hz]
          exact ih _ (.inr fun f => hz (.inl f))
theorem fi_new9 {c : Int} (hm : mayB h = true) (gm : mayB (ly9 h d x y) = true) (hd : refB h.objs.length d = true) (h0 : d ≠ 0) (hk : (obAt h d).kind = 0) (nh : clB9 h d = false) (ng : clB9 (ly9 h d x y) d = false)
    (hcl : clB9 h c = true) (hc : sl9 h c 1 = d) : fi9 (ly9 h d x y) x 64 c = (y, c, 0) := by
  have e1 := (cl_ly9 hm gm hd h0 nh ng c).trans hcl
  have hne : c ≠ d := fun f => by rw [f, nh] at hcl; cases hcl
  have sl : sl9 (ly9 h d x y) c 1 = d := by unfold sl9; rw [ob_ly9 hd h0 hne]; exact hc
  refine fi9_here e1 ?_
  rw [sl, paL_here9 hd h0 hk, pf9_cons, if_pos rfl]
end
end Go.Proofs.Ytcahdhocilmoeaa
