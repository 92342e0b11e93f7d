/- The document's small words on processes, and a number's place. -/
import Derived.Test.YtkpfmbdkfgeboaaPE14
import Derived.Test.YtkpfmbdkfgeboaaSK12
namespace Go.Proofs.Ytkpfmbdkfgeboaa
open Go.RowKit
set_option maxRecDepth 100000
theorem rin_any14 (L : List Int) (x : Int) (A : Option Addr) (c : Nat) (w : World) (hs : IntsR w A L) (hl : L.length ≤ 9223372036854775807) :
    Calls Try.prog 24 #[.slice A L.length c, .int .i64 x] w fun e w' => e = .returned (.bool (decide (x ∈ L))) ∧ Below w.heap.size w w' := by
  have HS := hid hs
  clear hs
  go_enter Try.func24, Try.ntmps24
  go_wp2
  go_loopw [5] (fun i wr => ∃ k : Nat, k ≤ L.length ∧ i = .int .i64 k ∧ x ∉ L.take k ∧ Below w.heap.size w wr) (fun i _ => L.length - (intOf i).toNat)
  case atStart => exact ⟨0, Nat.zero_le _, rfl, by simp, Below.refl _ _⟩
  case round =>
    obtain ⟨k, hk, rfl, hno, hbw⟩ := hrel
    have HW := hid hbw
    have HN := hid hno
    clear hbw hno
    by_cases hlt : k < L.length
    · obtain ⟨bs, os, rfl, hbs, hcs⟩ := HS.out (by omega)
      have hcell : wr.cell? ⟨bs, os + k, none⟩ = some (.int .i64 L[k]) := (HW.out.cell (p := ⟨bs, os + k, none⟩) hbs).trans (hcs k _ (List.getElem?_eq_getElem hlt))
      clear hcs
      by_cases he : L[k] = x
      · have hcx : Hid (decide (x ∈ L) = true) := by show _ = _; rw [decide_eq_true_eq, ← he]; exact List.getElem_mem hlt
        rw [he] at hcell
        go_wp2
        go_ret
        exact ⟨by rw [hcx.out]; rfl, HW.out⟩
      · have hne : (L[k] == x) = false := by simpa using he
        have HNX : Hid (x ∉ L.take (k + 1)) := by
          show ¬ _
          rw [List.take_succ_eq_append_getElem hlt]
          simp only [List.mem_append, List.mem_singleton, not_or]
          exact ⟨HN.out, fun e => he e.symm⟩
        go_wp2
        go_roundw
        case rel => exact ⟨k + 1, by omega, by go_num, HNX.out, HW.out⟩
        case measure => simp [intOf]; omega
    · have hkn : k = L.length := by omega
      have hcx : Hid (decide (x ∈ L) = false) := by
        show _ = _
        have := HN.out
        rw [hkn, List.take_length] at this
        exact decide_eq_false this
      go_wp2
      go_ret
      exact ⟨by rw [hcx.out]; rfl, HW.out⟩
theorem idx_at14 {L : List Int} {x : Int} {k : Nat} (hk : k < L.length) (he : L[k] = x) (hn : x ∉ L.take k) : L.idxOf x = k := by
  have h1 : ¬ L.idxOf x < k := fun g => hn (by
    have h2 : L.idxOf x < L.length := by omega
    have : L[L.idxOf x] = x := List.getElem_idxOf h2
    rw [List.mem_take_iff_getElem]
    exact ⟨L.idxOf x, by omega, this⟩)
  have h2 : ¬ k < L.idxOf x := fun g => by
    have := List.not_of_lt_findIdx (p := (· == x)) (xs := L) (i := k) g
    simp [he] at this
  omega
theorem place_any14 (L : List Int) (x : Int) (A : Option Addr) (c : Nat) (w : World) (hs : IntsR w A L) (hl : L.length ≤ 9223372036854775807) :
    Calls Try.prog 16 #[.slice A L.length c, .int .i64 x] w fun e w' => e = .returned (.int .i64 (if x ∈ L then (L.idxOf x : Int) else -1)) ∧ Below w.heap.size w w' := by
  have HS := hid hs
  obtain ⟨r, hr⟩ : ∃ r : Int, r = if x ∈ L then (L.idxOf x : Int) else -1 := ⟨_, rfl⟩
  rw [← hr]
  have HR := hid hr
  clear hs hr
  go_enter Try.func16, Try.ntmps16
  go_wp2
  go_loopw [5] (fun i wr => ∃ k : Nat, k ≤ L.length ∧ i = .int .i64 k ∧ x ∉ L.take k ∧ Below w.heap.size w wr) (fun i _ => L.length - (intOf i).toNat)
  case atStart => exact ⟨0, Nat.zero_le _, rfl, by simp, Below.refl _ _⟩
  case round =>
    obtain ⟨k, hk, rfl, hno, hbw⟩ := hrel
    have HW := hid hbw
    have HN := hid hno
    clear hbw hno
    by_cases hlt : k < L.length
    · obtain ⟨bs, os, rfl, hbs, hcs⟩ := HS.out (by omega)
      have hcell : wr.cell? ⟨bs, os + k, none⟩ = some (.int .i64 L[k]) := (HW.out.cell (p := ⟨bs, os + k, none⟩) hbs).trans (hcs k _ (List.getElem?_eq_getElem hlt))
      clear hcs
      by_cases he : L[k] = x
      · have hcx : Hid (r = (k : Int)) := by
          show _ = _
          rw [HR.out, if_pos (by rw [← he]; exact List.getElem_mem hlt), idx_at14 hlt he HN.out]
        rw [he] at hcell
        go_wp2
        go_ret
        exact ⟨by rw [hcx.out]; rfl, HW.out⟩
      · have hne : (L[k] == x) = false := by simpa using he
        have HNX : Hid (x ∉ L.take (k + 1)) := by
          show ¬ _
          rw [List.take_succ_eq_append_getElem hlt]
          simp only [List.mem_append, List.mem_singleton, not_or]
          exact ⟨HN.out, fun e => he e.symm⟩
        go_wp2
        go_roundw
        case rel => exact ⟨k + 1, by omega, by go_num, HNX.out, HW.out⟩
        case measure => simp [intOf]; omega
    · have hkn : k = L.length := by omega
      have hcx : Hid (r = -1) := by
        show _ = _
        have := HN.out
        rw [hkn, List.take_length] at this
        rw [HR.out]; exact if_neg this
      go_wp2
      go_ret
      exact ⟨by rw [hcx.out]; rfl, HW.out⟩
/-- the slots of a ref that is of a class, so many; else none -/
def ro14 (h : Hp) (v cl : Int) (many : Nat) : List Int := if (sls12 h v).length = many ∧ (obAt h v).cls = cl then sls12 h v else []
theorem slot_ref14 {h : Hp} (hm : mayB h = true) {v : Int} (hv : refB h.objs.length v = true) {x : Int} (hx : x ∈ (obAt h v).slots) : refB h.objs.length x = atB x := by
  obtain ⟨i, hi, -, ho⟩ := obAt_get hv
  have := may_all hm _ (List.mem_of_getElem? ho)
  unfold obB at this
  simp only [Bool.and_eq_true, List.all_eq_true] at this
  have h1 := this.2 x hx
  cases hr : refB h.objs.length x
  · unfold hasB at h1
    rw [hr, Bool.or_false] at h1
    unfold nB at h1
    unfold atB
    cases hod : odB x
    · rw [hod] at h1; cases h1
    · rfl
  · exact (refB_no hr).1.symm
theorem slot_kind14 {h : Hp} (hm : mayB h = true) {v : Int} (hv : refB h.objs.length v = true) (hs : (obAt h v).slots ≠ []) : sls12 h v = (obAt h v).slots := by
  obtain ⟨i, hi, -, ho⟩ := obAt_get hv
  have := may_all hm _ (List.mem_of_getElem? ho)
  unfold obB kiB at this
  simp only [Bool.and_eq_true] at this
  have hk := this.1.2
  unfold sls12 kd12
  rw [hv]
  split
  · rfl
  · rename_i g
    exfalso
    simp_all
/-- the document's words on a process are the program's, in a heap that may be -/
theorem ro_pc14 {h : Hp} (hm : mayB h = true) (p : Int) : pc14 h p = (decide (ro14 h p 14 4 ≠ []) && (refB h.objs.length ((ro14 h p 14 4).getD 0 0) && (refB h.objs.length ((ro14 h p 14 4).getD 1 0) && (decide (0 ≤ sm12 ((ro14 h p 14 4).getD 2 0) 7) && refB h.objs.length ((ro14 h p 14 4).getD 3 0))))) := by
  have e0 : ∀ b : Bool, (decide (([] : List Int) ≠ []) && b) = false := fun b => by simp
  cases hr : refB h.objs.length p
  · have hs : sls12 h p = [] := by unfold sls12 kd12; rw [hr]; rfl
    have h1 : ro14 h p 14 4 = [] := by unfold ro14; rw [hs, if_neg (by simp)]
    rw [h1, e0]
    unfold pc14 in14
    rw [hr]; rfl
  · by_cases hl : (obAt h p).slots.length = 4
    · have hne : (obAt h p).slots ≠ [] := fun e => by rw [e] at hl; cases hl
      have hs := slot_kind14 hm hr hne
      by_cases hc : (obAt h p).cls = 14
      · have h1 : ro14 h p 14 4 = (obAt h p).slots := by unfold ro14; rw [hs, if_pos ⟨hl, hc⟩]
        have hall := fun x hx => slot_ref14 hm hr (x := x) hx
        rw [h1]
        unfold pc14 in14 sl14
        rw [hr, hc, hl]
        obtain ⟨a0, a1, a2, a3, hsl⟩ := list4_14 hl
        rw [hsl] at hall ⊢
        simp only [List.getD_cons_zero, List.getD_cons_succ]
        rw [hall a0 (by simp), hall a1 (by simp), hall a3 (by simp)]
        have hw : wi14 a2 7 = decide (0 ≤ sm12 a2 7) := by
          unfold wi14 sm12
          cases nB a2
          · simp
          · by_cases g0 : 0 ≤ nV a2
            · by_cases g1 : nV a2 ≤ 7
              · simp [g0, g1]
              · simp [g1]
            · simp [g0]
        rw [hw]
        generalize atB a0 = x
        generalize atB a1 = y
        generalize atB a3 = z
        generalize decide (0 ≤ sm12 a2 7) = u
        have e1 : decide ((14 : Int) = 2 * 7) = true := rfl
        rw [e1]
        simp only [ne_eq, reduceCtorEq, not_false_eq_true, decide_true, Bool.true_and]
        cases x <;> cases y <;> cases z <;> cases u <;> rfl
      · have h1 : ro14 h p 14 4 = [] := by unfold ro14; rw [if_neg (fun g => hc g.2)]
        rw [h1, e0]
        unfold pc14 in14
        rw [decide_eq_false (show ¬ (obAt h p).cls = 2 * 7 from hc)]
        simp
    · have h1 : ro14 h p 14 4 = [] := by
        unfold ro14
        rw [if_neg]
        rintro ⟨g, -⟩
        by_cases hne : (obAt h p).slots = []
        · unfold sls12 at g
          split at g
          · exact hl g
          · cases g
        · rw [slot_kind14 hm hr hne] at g
          exact hl g
      rw [h1, e0]
      unfold pc14 in14
      rw [decide_eq_false (show ¬ ((obAt h p).slots.length : Int) = 4 by omega)]
      simp
end Go.Proofs.Ytkpfmbdkfgeboaa
