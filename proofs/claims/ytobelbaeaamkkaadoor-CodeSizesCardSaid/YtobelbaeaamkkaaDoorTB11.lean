/- The program's small words on instructions: which have an argument, which send, which end, which may be, what they find. -/
import Derived.Test.YtobelbaeaamkkaaDoorSE11
namespace Go.Proofs.YtobelbaeaamkkaaDoor
open Go.RowKit
set_option maxRecDepth 100000
theorem phas_any11 (op : Int) (w : World) : Calls Tryd.prog 39 #[.int .i64 op] w fun e w' => e = .returned (.bool (!no11 op)) ∧ w = w' := by
  have fin : ∀ b : Bool, no11 op = b → ∀ c : Bool, c = !b → Ending.returned (.bool c) = .returned (.bool (!no11 op)) := fun b h c k => by rw [h, k]
  have HF := hid fin
  clear fin
  by_cases h0 : op = 0
  · subst h0
    go_enter Tryd.func39, Tryd.ntmps39
    go_wp2_with fail
    go_ret
    exact ⟨HF.out true rfl _ rfl, rfl⟩
  by_cases h1 : op = 6
  · subst h1
    go_enter Tryd.func39, Tryd.ntmps39
    go_wp2_with fail
    go_ret
    exact ⟨HF.out true rfl _ rfl, rfl⟩
  by_cases h2 : op = 7
  · subst h2
    go_enter Tryd.func39, Tryd.ntmps39
    go_wp2_with fail
    go_ret
    exact ⟨HF.out true rfl _ rfl, rfl⟩
  by_cases h3 : op = 14
  · subst h3
    go_enter Tryd.func39, Tryd.ntmps39
    go_wp2_with fail
    go_ret
    exact ⟨HF.out true rfl _ rfl, rfl⟩
  by_cases h4 : op = 15
  · subst h4
    go_enter Tryd.func39, Tryd.ntmps39
    go_wp2_with fail
    go_ret
    exact ⟨HF.out true rfl _ rfl, rfl⟩
  by_cases h5 : op = 18
  · subst h5
    go_enter Tryd.func39, Tryd.ntmps39
    go_wp2_with fail
    go_ret
    exact ⟨HF.out true rfl _ rfl, rfl⟩
  have HN : Hid (no11 op = false) := by
    show no11 op = false
    simp [no11, h0, h1, h2, h3, h4, h5]
  go_enter Tryd.func39, Tryd.ntmps39
  go_wp2_with fail
  go_ret
  exact ⟨HF.out false HN.out _ rfl, rfl⟩
theorem psend_any11 (op : Int) (w : World) : Calls Tryd.prog 40 #[.int .i64 op] w fun e w' => e = .returned (.bool (decide (op = 8 ∨ op = 9))) ∧ w = w' := by
  by_cases h0 : op = 8
  · subst h0
    go_enter Tryd.func40, Tryd.ntmps40
    go_wp2_with fail
    go_ret
    exact ⟨rfl, rfl⟩
  by_cases h1 : op = 9
  · subst h1
    go_enter Tryd.func40, Tryd.ntmps40
    go_wp2_with fail
    go_ret
    exact ⟨rfl, rfl⟩
  have HN : Hid (decide (op = 8 ∨ op = 9) = false) := decide_eq_false (by omega)
  have h0B : (op == 8) = false := beq_eq_false_iff_ne.2 h0
  have h1B : (op == 9) = false := beq_eq_false_iff_ne.2 h1
  rw [HN.out]
  go_enter Tryd.func40, Tryd.ntmps40
  go_wp2_with fail
  go_ret
  exact ⟨rfl, rfl⟩
theorem plast_any11 (op : Int) (w : World) : Calls Tryd.prog 23 #[.int .i64 op] w fun e w' => e = .returned (.bool (decide (op = 14) || (decide (op = 15) || decide (op = 10)))) ∧ w = w' := by
  by_cases h0 : op = 14
  · subst h0
    go_enter Tryd.func23, Tryd.ntmps23
    go_wp2_with fail
    go_ret
    exact ⟨rfl, rfl⟩
  by_cases h1 : op = 15
  · subst h1
    go_enter Tryd.func23, Tryd.ntmps23
    go_wp2_with fail
    go_ret
    exact ⟨rfl, rfl⟩
  by_cases h2 : op = 10
  · subst h2
    go_enter Tryd.func23, Tryd.ntmps23
    go_wp2_with fail
    go_ret
    exact ⟨rfl, rfl⟩
  have HN : Hid ((decide (op = 14) || (decide (op = 15) || decide (op = 10))) = false) := by
    show _ = false
    simp [h0, h1, h2]
  have h0B : (op == 14) = false := beq_eq_false_iff_ne.2 h0
  have h1B : (op == 15) = false := beq_eq_false_iff_ne.2 h1
  have h2B : (op == 10) = false := beq_eq_false_iff_ne.2 h2
  rw [HN.out]
  go_enter Tryd.func23, Tryd.ntmps23
  go_wp2_with fail
  go_ret
  exact ⟨rfl, rfl⟩
set_option maxHeartbeats 1000000 in
theorem pmay_any11 (x : In) (w : World) : Calls Tryd.prog 31 #[.agg #[.int .i64 x.op, .int .i64 x.a]] w fun e w' => e = .returned (.bool (may11 x)) ∧ Below w.heap.size w w' := by
  obtain ⟨op, a⟩ := x
  show Calls Tryd.prog 31 #[.agg #[.int .i64 op, .int .i64 a]] w _
  have HB := hid (below_alloc w (.cells #[.int .i64 op, .int .i64 a] 34))
  have hX := Lies.new w 34 #[.int .i64 op, .int .i64 a]
  have x0 := hX.cell 0
  have x1 := hX.cell 1
  simp only [List.getElem?_toArray, List.getElem?_cons_zero, List.getElem?_cons_succ] at x0 x1
  have HMAY : Hid (may11 ⟨op, a⟩ = (decide (0 ≤ op) && (decide (op ≤ 18) && (decide (0 ≤ a) && (decide (a ≤ 255) && (decide (a = 0) || !no11 op)))))) := rfl
  clear hX
  by_cases h1 : 0 ≤ op
  · by_cases h2 : op ≤ 18
    · have h1b : ¬ op < 0 := by omega
      have h2b : ¬ 19 ≤ op := by omega
      by_cases h0 : a = 0
      · subst h0
        have HR : Hid (may11 ⟨op, 0⟩ = true) := by
          show _ = true
          rw [HMAY.out]
          simp [h1, h2]
        rw [HR.out]
        clear HMAY
        go_enter Tryd.func31, Tryd.ntmps31
        go_wp2_with fail
        go_ret
        exact ⟨rfl, HB.out⟩
      · have h0B : (a == 0) = false := beq_eq_false_iff_ne.2 h0
        cases hn : no11 op
        · by_cases h3 : 0 < a
          · by_cases h4 : a ≤ 255
            · have HR : Hid (may11 ⟨op, a⟩ = true) := by
                show _ = true
                rw [HMAY.out]
                simp [h1, h2, h4, hn, show 0 ≤ a by omega]
              rw [HR.out]
              have HNO := hid hn
              clear hn
              clear HMAY
              go_enter Tryd.func31, Tryd.ntmps31
              go_wp2_with fail
              refine (phas_any11 op _).mono ?_
              rintro e w1 ⟨rfl, rfl⟩
              rw [HNO.out]
              go_wp2_with fail
              go_ret
              exact ⟨by simp, HB.out⟩
            · have h4b : ¬ a ≤ 255 := h4
              have HR : Hid (may11 ⟨op, a⟩ = false) := by
                show _ = false
                rw [HMAY.out]
                simp [h4]
              rw [HR.out]
              have HNO := hid hn
              clear hn
              clear HMAY
              go_enter Tryd.func31, Tryd.ntmps31
              go_wp2_with fail
              refine (phas_any11 op _).mono ?_
              rintro e w1 ⟨rfl, rfl⟩
              rw [HNO.out]
              go_wp2_with fail
              go_ret
              exact ⟨by simp [h4], HB.out⟩
          · have HR : Hid (may11 ⟨op, a⟩ = false) := by
              show _ = false
              rw [HMAY.out]
              simp [show ¬ 0 ≤ a by omega]
            rw [HR.out]
            have HNO := hid hn
            clear hn
            clear HMAY
            go_enter Tryd.func31, Tryd.ntmps31
            go_wp2_with fail
            refine (phas_any11 op _).mono ?_
            rintro e w1 ⟨rfl, rfl⟩
            rw [HNO.out]
            go_wp2_with fail
            go_ret
            exact ⟨rfl, HB.out⟩
        · have HNO := hid hn
          have HR : Hid (may11 ⟨op, a⟩ = false) := by
            show _ = false
            rw [HMAY.out]
            simp [hn, h0]
          rw [HR.out]
          clear hn
          clear HMAY
          go_enter Tryd.func31, Tryd.ntmps31
          go_wp2_with fail
          refine (phas_any11 op _).mono ?_
          rintro e w1 ⟨rfl, rfl⟩
          rw [HNO.out]
          go_wp2_with fail
          go_ret
          exact ⟨rfl, HB.out⟩
    · have h1b : ¬ op < 0 := by omega
      have h2b : 19 ≤ op := by omega
      have HR : Hid (may11 ⟨op, a⟩ = false) := by
        show _ = false
        rw [HMAY.out]
        simp [h2]
      rw [HR.out]
      clear HMAY
      go_enter Tryd.func31, Tryd.ntmps31
      go_wp2_with fail
      go_ret
      exact ⟨rfl, HB.out⟩
  · have h1b : op < 0 := by omega
    have HR : Hid (may11 ⟨op, a⟩ = false) := by
      show _ = false
      rw [HMAY.out]
      simp [h1]
    rw [HR.out]
    clear HMAY
    go_enter Tryd.func31, Tryd.ntmps31
    go_wp2_with fail
    go_ret
    exact ⟨rfl, HB.out⟩
theorem pnot_any11 (x : In) (w : World) : Calls Tryd.prog 36 #[.agg #[.int .i64 x.op, .int .i64 x.a]] w fun e w' => e = .returned (.bool (!may11 x)) ∧ Below w.heap.size w w' := by
  obtain ⟨op, a⟩ := x
  show Calls Tryd.prog 36 #[.agg #[.int .i64 op, .int .i64 a]] w _
  have hX := Lies.new w 34 #[.int .i64 op, .int .i64 a]
  have hb0 := hid (below_alloc w (.cells #[.int .i64 op, .int .i64 a] 34))
  have x0 := hX.cell 0
  have x1 := hX.cell 1
  simp only [List.getElem?_toArray, List.getElem?_cons_zero, List.getElem?_cons_succ] at x0 x1
  clear hX
  go_enter Tryd.func36, Tryd.ntmps36
  go_wp2_with fail
  refine (pmay_any11 ⟨op, a⟩ _).mono ?_
  rintro e w1 ⟨rfl, hb⟩
  have HB := hid (hb0.out.trans (hb.mono hb0.out.size))
  clear hb x0 x1
  go_wp2_with fail
  go_ret
  exact ⟨rfl, HB.out⟩
end Go.Proofs.YtobelbaeaamkkaaDoor
