/- A byte that was written is read, and no other one changes: over plain heaps. -/
import Derived.Test.YtelljlmjhnjpiaaMK
import Derived.Test.YtelljlmjhnjpiaaSB
namespace Go.Proofs.Ytelljlmjhnjpiaa
open Go.RowKit
theorem setT_size (t : ByteArray) (j : Nat) (x : Int) : (setT t j x).size = t.size := by
  show (setT t j x).data.size = t.data.size
  unfold setT
  simp
theorem setT_at (t : ByteArray) (j : Nat) (x : Int) (i : Nat) : (setT t j x).data.getD i 0 = if j = i ∧ i < t.size then UInt8.ofNat x.toNat else t.data.getD i 0 := by
  unfold setT
  rw [Array.getD_eq_getD_getElem?, Array.getD_eq_getD_getElem?]
  simp only [List.getElem?_toArray]
  rw [List.getElem?_set]
  by_cases e : j = i
  · subst e
    by_cases h : j < t.size
    · simp [h]
    · simp [h]
  · simp [e]
theorem text_ext {t u : ByteArray} (hs : t.size = u.size) (h : ∀ i, i < t.size → t.data.getD i 0 = u.data.getD i 0) : t = u := by
  have hs' : t.data.size = u.data.size := hs
  have : t.data = u.data := by
    apply Array.ext hs'
    intro i h1 h2
    have := h i h1
    rw [Array.getD_eq_getD_getElem?, Array.getD_eq_getD_getElem?, Array.getElem?_eq_getElem h1, Array.getElem?_eq_getElem h2] at this
    exact this
  cases t; cases u; simp at this; rw [this]
structure PlacedT (h : Hp) (v k : Int) : Prop where
  may : mayB h = true
  ref : refB h.objs.length v = true
  kind : (obAt h v).kind = 1
  lo : 0 ≤ k
  hi : k.toNat < (obAt h v).text.size
theorem placedT {h : Hp} {v k : Int} (e : plE h v 1 k = 0) : PlacedT h v k := by
  obtain ⟨h1, h2, h3, h4, h5⟩ := pl_ok e
  refine ⟨h1, h2, h3, h4, ?_⟩
  unfold szO at h5
  rw [if_pos rfl] at h5
  omega
theorem sbH_put (h : Hp) (v k x : Int) : sbH h v k x = putO h (atV v).toNat { obAt h v with text := setT (obAt h v).text k.toNat x } := rfl
theorem sbH_len (h : Hp) (v k x : Int) : (sbH h v k x).objs.length = h.objs.length := putO_len _ _ _
theorem text_ob {n : Nat} {o : Ob} (h : obB n o = true) (hk : o.kind = 1) {t : ByteArray} (ht : t.size = o.text.size) : obB n { o with text := t } = true := by
  unfold obB at h ⊢
  simp only [Bool.and_eq_true] at h ⊢
  obtain ⟨⟨⟨h1, h2⟩, h3⟩, h4⟩ := h
  refine ⟨⟨⟨h1, h2⟩, ?_⟩, h4⟩
  unfold kiB at h3 ⊢
  have k0 : ¬ o.kind = 0 := by omega
  rw [if_neg k0, if_pos hk] at h3
  rw [if_neg k0, if_pos hk]
  simpa [ht] using h3
theorem sb_may {h : Hp} {v k x : Int} (p : PlacedT h v k) : mayB (sbH h v k x) = true := by
  rw [sbH_put]
  exact putO_may p.may (text_ob (may_all p.may _ (ob_mem p.ref)) p.kind (setT_size _ _ _))
theorem sb_plE {h : Hp} {v k x : Int} (p : PlacedT h v k) (u kind l : Int) : plE (sbH h v k x) u kind l = plE h u kind l := by
  unfold plE
  rw [sb_may p, p.may, sbH_len]
  by_cases hu : refB h.objs.length u = true
  · have e := obAt_put p.ref hu { obAt h v with text := setT (obAt h v).text k.toNat x }
    rw [← sbH_put] at e
    rw [e]
    by_cases g : u = v
    · subst g
      rw [if_pos rfl]
      have e2 : szO kind { obAt h u with text := setT (obAt h u).text k.toNat x } = szO kind (obAt h u) := by unfold szO; rw [setT_size]
      rw [e2]
    · rw [if_neg g]
  · simp only [Bool.not_eq_true] at hu
    simp [hu]
theorem sb_at {h : Hp} {v k x : Int} (p : PlacedT h v k) : obAt (sbH h v k x) v = { obAt h v with text := setT (obAt h v).text k.toNat x } := by
  rw [sbH_put, obAt_put p.ref p.ref, if_pos rfl]
theorem sb_get {h : Hp} {v k x : Int} (e : plE h v 1 k = 0) (h0 : 0 ≤ x) (h1 : x ≤ 255) : byV (sbH h v k x) v k = x := by
  have p := placedT e
  have hi := p.hi
  unfold byV
  rw [sb_plE p, if_pos e, sb_at p]
  show (((setT (obAt h v).text k.toNat x).data.getD k.toNat 0).toNat : Int) = x
  rw [setT_at, if_pos ⟨rfl, hi⟩, UInt8.toNat_ofNat']
  omega
theorem byV_lt (h : Hp) (v k : Int) : 0 ≤ byV h v k ∧ byV h v k ≤ 255 := by
  unfold byV
  split
  · have := ((obAt h v).text.data.getD k.toNat 0).toNat_lt
    omega
  · omega
theorem sb_back {h : Hp} {v k x : Int} (e : plE h v 1 k = 0) : sbH (sbH h v k x) v k (byV h v k) = h := by
  have p := placedT e
  have h2 : byV h v k = (((obAt h v).text.data.getD k.toNat 0).toNat : Int) := by unfold byV; rw [if_pos e]
  have h3 : setT (setT (obAt h v).text k.toNat x) k.toNat (byV h v k) = (obAt h v).text := by
    refine text_ext (by rw [setT_size, setT_size]) fun i hi => ?_
    rw [setT_at, setT_at, setT_size, h2]
    by_cases g : k.toNat = i ∧ i < (obAt h v).text.size
    · rw [if_pos g, ← g.1]
      simp
    · rw [if_neg g, if_neg g]
  rw [sbH_put (sbH h v k x), sb_at p]
  show putO (sbH h v k x) (atV v).toNat { obAt h v with text := setT (setT (obAt h v).text k.toNat x) k.toNat (byV h v k) } = h
  rw [h3, sbH_put]
  exact putO_back p.ref _
theorem sb_other {h : Hp} {v k x u l : Int} (e : plE h v 1 k = 0) : byV h u l = byV (sbH h v k x) u l ∨ (v = u ∧ k = l) := by
  have p := placedT e
  unfold byV
  rw [sb_plE p]
  by_cases e2 : plE h u 1 l = 0
  · have p2 := placedT e2
    rw [if_pos e2, if_pos e2, sbH_put, obAt_put p.ref p2.ref]
    by_cases g : u = v
    · subst g
      rw [if_pos rfl]
      by_cases g2 : k = l
      · exact .inr ⟨rfl, g2⟩
      · left
        have h1 := p.lo
        have h2 := p2.lo
        show _ = (((setT (obAt h u).text k.toNat x).data.getD l.toNat 0).toNat : Int)
        rw [setT_at, if_neg (by omega)]
    · rw [if_neg g]; exact .inl rfl
  · rw [if_neg e2, if_neg e2]; exact .inl rfl
theorem sb_no {h : Hp} (hm : mayB h = true) {v k x : Int} (e : plE h v 1 k ≠ 0) : sbE h v k x = plE h v 1 k ∧ sbR h v k x = h := by
  have h1 : sbE h v k x = plE h v 1 k := by unfold sbE; rw [if_neg e]
  refine ⟨h1, ?_⟩
  unfold sbR; rw [h1, if_neg e]
  unfold unH
  rw [if_neg]
  intro g
  unfold plE at g
  rw [if_neg (by rw [hm]; decide)] at g
  repeat' split at g
  all_goals cases g
theorem sb_range {h : Hp} {v k x : Int} (e : plE h v 1 k = 0) (hx : ¬ (0 ≤ x ∧ x ≤ 255)) : sbE h v k x = 32 ∧ sbR h v k x = h := by
  have h1 : sbE h v k x = 32 := by unfold sbE; rw [if_pos e, if_neg hx]
  exact ⟨h1, by unfold sbR; rw [h1, if_neg (by decide)]; unfold unH; rw [if_neg (by decide)]⟩
theorem sb_ok {h : Hp} {v k x : Int} (e : plE h v 1 k = 0) (hx : 0 ≤ x ∧ x ≤ 255) : sbE h v k x = 0 ∧ sbR h v k x = sbH h v k x := by
  have h1 : sbE h v k x = 0 := by unfold sbE; rw [if_pos e, if_pos hx]
  exact ⟨h1, by unfold sbR; rw [if_pos h1]⟩
end Go.Proofs.Ytelljlmjhnjpiaa
