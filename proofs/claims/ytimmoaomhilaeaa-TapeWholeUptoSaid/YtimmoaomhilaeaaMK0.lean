/- Heaps that may be are small. What was written is read at its place, and all else is as it was: over plain heaps. -/
import Derived.Test.YtimmoaomhilaeaaT0
import Derived.Test.YtimmoaomhilaeaaI0
namespace Go.Proofs.Ytimmoaomhilaeaa
open Go.RowKit
theorem fitZ : zeroH.Fit := ⟨Nat.zero_le _, fun o ho => by simp [zeroH] at ho⟩
theorem may_fit {h : Hp} (hm : mayB h = true) : h.Fit :=
  ⟨by have := may_len hm; omega, fun o ho => by have := (kind_len (ob_kind (may_all hm o ho))).1; show o.slots.length ≤ _; omega⟩
end Go.Proofs.Ytimmoaomhilaeaa
namespace Go.Proofs.Ytimmoaomhilaeaa
open Go.RowKit
theorem atB_eq {u v : Int} (hu : atB u = true) (hv : atB v = true) (h : atV u = atV v) : u = v := by
  have h1 := atB_iff.1 hu
  have h2 := atB_iff.1 hv
  unfold atV at h
  rw [if_pos hu, if_pos hv] at h
  omega
/-- one object in another's place -/
def putO (h : Hp) (i : Nat) (o : Ob) : Hp := { h with objs := h.objs.set i o }
theorem putO_len (h : Hp) (i : Nat) (o : Ob) : (putO h i o).objs.length = h.objs.length := by simp [putO]
theorem putO_may {h : Hp} (hm : mayB h = true) {i : Nat} {o : Ob} (ho : obB h.objs.length o = true) : mayB (putO h i o) = true := by
  have hm' := hm
  unfold mayB at hm ⊢
  rw [putO_len]
  simp only [Bool.and_eq_true] at hm ⊢
  refine ⟨hm.1, List.all_eq_true.2 fun p hp => ?_⟩
  rcases List.mem_or_eq_of_mem_set hp with h1 | h1
  · exact may_all hm' p h1
  · rw [h1]; exact ho
theorem obAt_put {h : Hp} {v u : Int} (hv : refB h.objs.length v = true) (hu : refB h.objs.length u = true) (o : Ob) : obAt (putO h (atV v).toNat o) u = if u = v then o else obAt h u := by
  obtain ⟨b1, c1, d1⟩ := refB_no hv
  obtain ⟨b2, c2, d2⟩ := refB_no hu
  unfold obAt putO
  rw [List.getD_eq_getElem?_getD, List.getD_eq_getElem?_getD]
  show ((h.objs.set _ o)[(atV u).toNat]?).getD default = _
  rw [List.getElem?_set]
  by_cases e : u = v
  · subst e; rw [if_pos rfl, if_pos (by omega), if_pos rfl]; rfl
  · rw [if_neg (fun g => e (atB_eq b2 b1 (by omega))), if_neg e]
theorem putO_back {h : Hp} {v : Int} (hv : refB h.objs.length v = true) (o : Ob) : putO (putO h (atV v).toNat o) (atV v).toNat (obAt h v) = h := by
  obtain ⟨i, hi, e, ho⟩ := obAt_get hv
  unfold putO
  rw [show (atV v).toNat = i by omega]
  simp only [List.set_set]
  have : h.objs.set i (obAt h v) = h.objs := by
    apply List.ext_getElem?
    intro j
    rw [List.getElem?_set]
    by_cases e : i = j
    · subst e; rw [if_pos rfl, if_pos hi, ho]
    · rw [if_neg e]
  rw [this]
theorem setH_put (h : Hp) (v k x : Int) : setH h v k x = putO h (atV v).toNat { obAt h v with slots := (obAt h v).slots.set k.toNat x } := rfl
structure Placed (h : Hp) (v k : Int) : Prop where
  may : mayB h = true
  ref : refB h.objs.length v = true
  kind : (obAt h v).kind = 0
  lo : 0 ≤ k
  hi : k.toNat < (obAt h v).slots.length
theorem placed {h : Hp} {v k : Int} (e : plE h v 0 k = 0) : Placed h v k := by
  obtain ⟨h1, h2, h3, h4, h5⟩ := pl_ok e
  refine ⟨h1, h2, h3, h4, ?_⟩
  unfold szO at h5
  rw [if_neg (by decide)] at h5
  omega
theorem ob_mem {h : Hp} {v : Int} (hv : refB h.objs.length v = true) : obAt h v ∈ h.objs := by
  obtain ⟨i, _, _, ho⟩ := obAt_get hv
  exact List.mem_of_getElem? ho
theorem slots_ob {n : Nat} {o : Ob} (h : obB n o = true) (hk : o.kind = 0) {j : Nat} {x : Int} (hx : hasB n x = true) : obB n { o with slots := o.slots.set j x } = true := by
  unfold obB at h ⊢
  simp only [Bool.and_eq_true] at h ⊢
  obtain ⟨⟨⟨h1, h2⟩, h3⟩, h4⟩ := h
  refine ⟨⟨⟨h1, h2⟩, ?_⟩, ?_⟩
  · unfold kiB at h3 ⊢
    rw [if_pos hk] at h3
    rw [if_pos hk]
    simpa using h3
  · refine List.all_eq_true.2 fun y hy => ?_
    rcases List.mem_or_eq_of_mem_set hy with g | g
    · exact List.all_eq_true.1 h4 y g
    · rw [g]; exact hx
theorem set_may {h : Hp} {v k x : Int} (p : Placed h v k) (hx : hasB h.objs.length x = true) : mayB (setH h v k x) = true := by
  rw [setH_put]
  exact putO_may p.may (slots_ob (may_all p.may _ (ob_mem p.ref)) p.kind hx)
theorem setH_len (h : Hp) (v k x : Int) : (setH h v k x).objs.length = h.objs.length := putO_len _ _ _
theorem set_plE {h : Hp} {v k x : Int} (p : Placed h v k) (hx : hasB h.objs.length x = true) (u kind l : Int) : plE (setH h v k x) u kind l = plE h u kind l := by
  unfold plE
  rw [set_may p hx, p.may, setH_len]
  by_cases hu : refB h.objs.length u = true
  · have e := obAt_put p.ref hu { obAt h v with slots := (obAt h v).slots.set k.toNat x }
    rw [← setH_put] at e
    rw [e]
    by_cases g : u = v
    · subst g
      rw [if_pos rfl]
      have e2 : szO kind { obAt h u with slots := (obAt h u).slots.set k.toNat x } = szO kind (obAt h u) := by unfold szO; rw [List.length_set]
      rw [e2]
    · rw [if_neg g]
  · simp only [Bool.not_eq_true] at hu
    simp [hu]
theorem set_get_x {h : Hp} {v k x : Int} (e : plE h v 0 k = 0) (hx : hasB h.objs.length x = true) : geV (setH h v k x) v k = x := by
  have p := placed e
  unfold geV
  rw [set_plE p hx, if_pos e, setH_put, obAt_put p.ref p.ref, if_pos rfl]
  have hi := p.hi
  simp [List.getD_eq_getElem?_getD, hi]
theorem set_back {h : Hp} {v k x : Int} (e : plE h v 0 k = 0) (_hx : hasB h.objs.length x = true) : setH (setH h v k x) v k (geV h v k) = h := by
  have p := placed e
  have h1 : obAt (setH h v k x) v = { obAt h v with slots := (obAt h v).slots.set k.toNat x } := by rw [setH_put, obAt_put p.ref p.ref, if_pos rfl]
  have h2 : geV h v k = (obAt h v).slots.getD k.toNat 0 := by unfold geV; rw [if_pos e]
  have h3 : ((obAt h v).slots.set k.toNat x).set k.toNat (geV h v k) = (obAt h v).slots := by
    rw [h2, List.set_set]
    apply List.ext_getElem?
    intro j
    rw [List.getElem?_set]
    by_cases g : k.toNat = j
    · subst g; rw [if_pos rfl, if_pos p.hi, getD_at _ _ p.hi]
    · rw [if_neg g]
  rw [setH_put (setH h v k x), h1]
  show putO (setH h v k x) (atV v).toNat { obAt h v with slots := ((obAt h v).slots.set k.toNat x).set k.toNat (geV h v k) } = h
  rw [h3, setH_put]
  exact putO_back p.ref _
theorem geV_has {h : Hp} {v k : Int} (e : plE h v 0 k = 0) : hasB h.objs.length (geV h v k) = true := by
  have p := placed e
  have h2 : geV h v k = (obAt h v).slots.getD k.toNat 0 := by unfold geV; rw [if_pos e]
  have ho := may_all p.may _ (ob_mem p.ref)
  unfold obB at ho
  simp only [Bool.and_eq_true] at ho
  rw [h2, List.getD_eq_getElem?_getD, List.getElem?_eq_getElem p.hi]
  exact List.all_eq_true.1 ho.2 _ (List.getElem_mem p.hi)
theorem set_other {h : Hp} {v k x u l : Int} (e : plE h v 0 k = 0) (hx : hasB h.objs.length x = true) : geV h u l = geV (setH h v k x) u l ∨ (v = u ∧ k = l) := by
  have p := placed e
  unfold geV
  rw [set_plE p hx]
  by_cases e2 : plE h u 0 l = 0
  · have p2 := placed e2
    rw [if_pos e2, if_pos e2, setH_put, obAt_put p.ref p2.ref]
    by_cases g : u = v
    · subst g
      rw [if_pos rfl]
      by_cases g2 : k = l
      · exact .inr ⟨rfl, g2⟩
      · left
        have h1 := p.lo
        have h2 := p2.lo
        show _ = ((obAt h u).slots.set k.toNat x).getD l.toNat 0
        rw [List.getD_eq_getElem?_getD, List.getD_eq_getElem?_getD, List.getElem?_set, if_neg (by omega)]
    · rw [if_neg g]; exact .inl rfl
  · rw [if_neg e2, if_neg e2]; exact .inl rfl
/-- all that the law asks -/
theorem keeps_no {h : Hp} (hm : mayB h = true) {v k x : Int} (e : plE h v 0 k ≠ 0) : setE h v k x = plE h v 0 k ∧ setR h v k x = h := by
  have h1 : setE h v k x = plE h v 0 k := by unfold setE; rw [if_neg e]
  refine ⟨h1, ?_⟩
  unfold setR; rw [h1, if_neg e]
  unfold unH
  rw [if_neg]
  intro g
  unfold plE at g
  rw [if_neg (by rw [hm]; decide)] at g
  repeat' split at g
  all_goals cases g
theorem keeps_ref {h : Hp} {v k x : Int} (e : plE h v 0 k = 0) (hx : hasB h.objs.length x = false) : setE h v k x = 31 ∧ setR h v k x = h := by
  have h1 : setE h v k x = 31 := by unfold setE; rw [if_pos e, hx]; rfl
  exact ⟨h1, by unfold setR; rw [h1, if_neg (by decide)]; unfold unH; rw [if_neg (by decide)]⟩
theorem keeps_ok {h : Hp} {v k x : Int} (e : plE h v 0 k = 0) (hx : hasB h.objs.length x = true) : setE h v k x = 0 ∧ setR h v k x = setH h v k x := by
  have h1 : setE h v k x = 0 := by unfold setE; rw [if_pos e, hx]; rfl
  exact ⟨h1, by unfold setR; rw [if_pos h1]⟩
end Go.Proofs.Ytimmoaomhilaeaa
