/- What one comes to by a way: over plain heaps; the law's end walked. -/
import Derived.Test.YtelljlmjhnjpiaaVA
import Derived.Test.YtelljlmjhnjpiaaMB
namespace Go.Proofs.Ytelljlmjhnjpiaa
open Go.RowKit
set_option maxRecDepth 100000
/-- what one comes to from a value by a way, if there is such a way -/
def endV (h : Hp) : Int → List Int → Option Int
  | v, [] => some v
  | v, x :: l => if refB h.objs.length v = false then none else if x = -1 then endV h (obAt h v).cls l else if x < 0 ∨ ((obAt h v).slots.length : Int) ≤ x then none else endV h ((obAt h v).slots.getD x.toNat 0) l
def endI (h : Hp) (v : Int) (l : List Int) : Int := (endV h v l).getD 0
def endB (h : Hp) (v : Int) (l : List Int) : Bool := (endV h v l).isSome
theorem endV_no {h : Hp} {v x : Int} {l : List Int} (hr : refB h.objs.length v = false) : endV h v (x :: l) = none := by show (if _ then _ else _) = _; rw [if_pos hr]
theorem endV_cls {h : Hp} {v x : Int} {l : List Int} (hr : refB h.objs.length v = true) (hx : x = -1) : endV h v (x :: l) = endV h (obAt h v).cls l := by
  show (if _ then _ else _) = _; rw [if_neg (by rw [hr]; decide), if_pos hx]
theorem endV_none {h : Hp} {v x : Int} {l : List Int} (hr : refB h.objs.length v = true) (hx : x ≠ -1) (hg : x < 0 ∨ ((obAt h v).slots.length : Int) ≤ x) : endV h v (x :: l) = none := by
  show (if _ then _ else _) = _; rw [if_neg (by rw [hr]; decide), if_neg hx, if_pos hg]
theorem endV_slot {h : Hp} {v x : Int} {l : List Int} (hr : refB h.objs.length v = true) (h0 : 0 ≤ x) (hg : x < ((obAt h v).slots.length : Int)) : endV h v (x :: l) = endV h ((obAt h v).slots.getD x.toNat 0) l := by
  show (if _ then _ else _) = _; rw [if_neg (by rw [hr]; decide), if_neg (by omega), if_neg (by omega)]
/-- the object that stands for one that is reached -/
theorem co_at {h : Hp} {rs : List Int} (e : liE h rs = 0) {v : Int} (hr : refB h.objs.length v = true) (hi : (atV v).toNat ∈ liveN h rs) : obAt (coH h rs) (vaV (tabL h rs) v) = moO (tabL h rs) (obAt h v) := by
  have hx : (liveN h rs).idxOf (atV v).toNat < (liveN h rs).length := List.idxOf_lt_length_iff.2 hi
  obtain ⟨o, h1, h2⟩ := coH_get e hx
  rw [List.getElem_idxOf hx] at h1
  obtain ⟨i, _, hv, ho⟩ := obAt_get hr
  have hvi : (atV v).toNat = i := by omega
  rw [hvi, ho] at h1
  obtain rfl : obAt h v = o := Option.some.inj h1
  have hm := (li_ok e).1
  have h256 := may_len hm
  have hle := liveN_le h rs
  unfold obAt
  rw [(va_ref e hr hi).1, (at_even (i := (liveN h rs).idxOf (atV v).toNat) (by omega)).2, Int.toNat_natCast, List.getD_eq_getElem?_getD, h2]
  rfl
/-- by each way one comes to what one came to -/
theorem end_live {h : Hp} {rs : List Int} (e : liE h rs = 0) : ∀ (l : List Int) (v : Int), LiveV h rs v →
    endV (coH h rs) (vaV (tabL h rs) v) l = (endV h v l).map (vaV (tabL h rs)) ∧ ∀ u, endV h v l = some u → LiveV h rs u
  | [], v, hv => ⟨rfl, fun u hu => by cases hu; exact hv⟩
  | x :: l, v, hv => by
    have hrr := (va_live e hv).2.2
    cases hr : refB h.objs.length v
    · rw [hr] at hrr
      rw [endV_no hr, endV_no hrr]
      exact ⟨rfl, fun u hu => by cases hu⟩
    · rw [hr] at hrr
      have hi := hv.2 hr
      have ho := co_at e hr hi
      obtain ⟨i, _, hvi, hoi⟩ := obAt_get hr
      have hin : i ∈ liveN h rs := by have : (atV v).toNat = i := by omega
                                      rwa [this] at hi
      by_cases hx : x = -1
      · rw [endV_cls hr hx, endV_cls hrr hx, ho]
        exact end_live e l _ (live_step e hin hoi (by simp))
      · by_cases hg : x < 0 ∨ ((obAt h v).slots.length : Int) ≤ x
        · rw [endV_none hr hx hg, endV_none hrr hx (by rw [ho]; simpa [moO] using hg)]
          exact ⟨rfl, fun u hu => by cases hu⟩
        · have h0 : 0 ≤ x := by omega
          have h1 : x < ((obAt h v).slots.length : Int) := by omega
          have hxl : x.toNat < (obAt h v).slots.length := by omega
          have hgd : (moO (tabL h rs) (obAt h v)).slots.getD x.toNat 0 = vaV (tabL h rs) ((obAt h v).slots.getD x.toNat 0) := by
            simp [moO, List.getD_eq_getElem?_getD, List.getElem?_map, List.getElem?_eq_getElem hxl]
          rw [endV_slot hr h0 h1, endV_slot hrr h0 (by rw [ho]; simpa [moO] using h1), ho, hgd]
          refine end_live e l _ (live_step e hin hoi (List.mem_cons_of_mem _ ?_))
          rw [List.getD_eq_getElem?_getD, List.getElem?_eq_getElem hxl]
          exact List.getElem_mem hxl
theorem drop_cons {l : List Int} {j : Nat} (hj : j < l.length) : l.drop j = l[j] :: l.drop (j + 1) := List.drop_eq_getElem_cons hj
end Go.Proofs.Ytelljlmjhnjpiaa
