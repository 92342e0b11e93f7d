/- The program's word on what is a dictionary. -/
import Derived.Test.YtkpfmbdkfgeboaaGreatTB9
namespace Go.Proofs.YtkpfmbdkfgeboaaGreat
open Go.RowKit
set_option maxRecDepth 100000
theorem pa9_no {h : Hp} {v : Int} (hr : refB h.objs.length v = false) : paB9 h v = false := by
  have e : refI h.objs.length v = -1 := by unfold refI; rw [if_neg (by rw [hr]; decide)]
  unfold paB9
  rw [e]
  rfl
theorem pa9_zero {h : Hp} {v : Int} (hr : refB h.objs.length v = true) (h0 : v = 0) : paB9 h v = true := by
  subst h0
  unfold paB9
  rw [decide_eq_true (show refI h.objs.length 0 = 0 by rw [refI_nonneg hr]; decide +kernel)]
  rfl
theorem pa9_kind {h : Hp} {v : Int} (hr : refB h.objs.length v = true) (h0 : v ≠ 0) : paB9 h v = decide ((obAt h v).kind = 0) := by
  have hp := ref_pos9 hr h0
  unfold paB9
  rw [decide_eq_false (show ¬ refI h.objs.length v = 0 by omega), decide_eq_true (show 0 ≤ refI h.objs.length v by omega)]
  rfl
set_option maxHeartbeats 2000000 in
theorem pdict_any9 (h : Hp) (v : Int) (A : Option Addr) (d : Nat) (u w : World) (hs : ObsR u A h.objs) (hu : Below u.heap.size u w) :
    Calls Tryz.prog 170 #[.agg #[.slice A h.objs.length d, .int .i64 h.cap, .int .i64 h.last], .int .i64 v] w fun e w' => e = .returned (.bool (paB9 h v)) ∧ Below w.heap.size w w' := by
  obtain ⟨w0, hw0⟩ : ∃ w0, w0 = w.alloc (.cells #[Value.slice A h.objs.length d, Value.int .i64 h.cap, Value.int .i64 h.last] 24) := ⟨_, rfl⟩
  have HB0 : Hid (Below w.heap.size w w0) := by show Below _ _ _; rw [hw0]; exact below_alloc _ _
  have HX0 : Hid (Lies w0 w.heap.size 24 #[Value.slice A h.objs.length d, Value.int .i64 h.cap, Value.int .i64 h.last]) := by
    show Lies _ _ _ _
    rw [hw0]; exact Lies.new _ _ _
  have HU0 : Hid (Below u.heap.size u w0) := hu.trans (HB0.out.mono hu.size)
  have HC0 := pobj_any9 h v A d u w0 hs HU0.out
  clear hs hu
  go_enter Tryz.func170, Tryz.ntmps170
  go_upto_region 1 with fail
  rw [← hw0]
  clear hw0
  have x0 := HX0.out.cell 0
  have x1 := HX0.out.cell 1
  have x2 := HX0.out.cell 2
  simp only [List.getElem?_toArray, List.getElem?_cons_zero, List.getElem?_cons_succ] at x0 x1 x2
  cases hr : refB h.objs.length v
  · have E := hid (pa9_no hr)
    rw [hr] at HC0
    clear hr
    go_wp2_with fail
    refine HC0.mono ?_
    rintro e w1 ⟨S, dd, rfl, -, -, hb⟩
    have HB1 := hid (HB0.out.trans (hb.mono HB0.out.size))
    clear hb x0 x1 x2
    go_wp2_with fail
    go_ret
    exact ⟨by rw [E.out]; rfl, HB1.out.alloc HB1.out.size _⟩
  · rw [hr, obD9_yes hr] at HC0
    have E0 := hid (pa9_zero (h := h) (v := v) hr)
    have E1 := hid (pa9_kind (h := h) (v := v) hr)
    obtain ⟨o, ho⟩ : ∃ o, o = obAt h v := ⟨_, rfl⟩
    rw [← ho] at HC0 E1
    clear hr ho
    go_wp2_with fail
    refine HC0.mono ?_
    rintro e w1 ⟨S, dd, rfl, -, -, hb⟩
    obtain ⟨w1_, hw1⟩ : ∃ W, W = w1.alloc (.cells #[.int .i64 o.cls, .int .i64 o.kind, .slice S o.slots.length dd, .string o.text, .int .i64 o.bits, .int .i64 o.hash] 41) := ⟨_, rfl⟩
    obtain ⟨g, hg⟩ : ∃ g, g = w1.heap.size := ⟨_, rfl⟩
    have HG : Hid (Lies w1_ g 41 #[.int .i64 o.cls, .int .i64 o.kind, .slice S o.slots.length dd, .string o.text, .int .i64 o.bits, .int .i64 o.hash]) := by
      show Lies _ _ _ _
      rw [hw1, hg]; exact Lies.new _ _ _
    have hb1 : Below w0.heap.size w0 w1_ := by rw [hw1]; exact then_w hb (below_alloc _ _)
    have HW1 := hid (HB0.out.trans (hb1.mono HB0.out.size))
    clear hb hb1 x0 x1 x2
    have y1 := HG.out.cell 1
    simp only [List.getElem?_toArray, List.getElem?_cons_zero, List.getElem?_cons_succ] at y1
    go_upto_region 2 with fail
    rw [← hw1, ← hg]
    clear hw1 hg
    by_cases hz : v = 0
    · have E := hid (E0.out hz)
      clear E0 E1
      have hN := isnone_any9 v w1_
      rw [decide_eq_true hz] at hN
      clear hz
      go_wp2_with (go_at_call 173; refine hN.mono ?_; rintro e w2 ⟨rfl, rfl⟩)
      go_ret
      exact ⟨by rw [E.out]; rfl, HW1.out⟩
    · have hN := isnone_any9 v w1_
      rw [decide_eq_false hz] at hN
      by_cases hk : o.kind = 0
      · have E : Hid (paB9 h v = true) := by show _ = _; rw [E1.out hz, decide_eq_true hk]
        have hkB : (o.kind == 0) = true := beq_iff_eq.2 hk
        clear E0 E1 hz
        go_wp2_with (go_at_call 173; refine hN.mono ?_; rintro e w2 ⟨rfl, rfl⟩)
        go_ret
        exact ⟨by rw [E.out]; rfl, HW1.out⟩
      · have E : Hid (paB9 h v = false) := by show _ = _; rw [E1.out hz, decide_eq_false hk]
        have hkB : (o.kind == 0) = false := beq_eq_false_iff_ne.2 hk
        clear E0 E1 hz
        go_wp2_with (go_at_call 173; refine hN.mono ?_; rintro e w2 ⟨rfl, rfl⟩)
        go_ret
        exact ⟨by rw [E.out]; rfl, HW1.out⟩
end Go.Proofs.YtkpfmbdkfgeboaaGreat
