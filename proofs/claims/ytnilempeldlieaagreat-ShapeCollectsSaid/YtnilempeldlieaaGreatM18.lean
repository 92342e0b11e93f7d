/- The document on states: whether one may be; its roots. Pairing what must be paired, again and again: it finds whether two heaps with roots are the same. -/
import Derived.Test.YtnilempeldlieaaGreatM09
import Derived.Test.YtnilempeldlieaaGreatM05
import Derived.Test.YtnilempeldlieaaGreatM07
namespace Go.Proofs.YtnilempeldlieaaGreat
open Go.RowKit
set_option maxRecDepth 100000
theorem rfI_no15 {n : Nat} {v : Int} (h : refB n v = false) : refI n v < 0 := by unfold refI; rw [if_neg (by rw [h]; decide)]; decide
theorem rfI_yes15 {n : Nat} {v : Int} (h : refB n v = true) : ¬ refI n v < 0 := by have := (refB_no h).2.1; rw [refI_nonneg h]; omega
set_option maxHeartbeats 3000000 in
theorem rck_any15 (s : St) (A : Option Addr) (c : Nat) (w : World) (hsX : ObsR w A s.hp.objs) (fitX : s.hp.Fit) :
    Calls Tryz.prog 11 #[.agg #[.slice A s.hp.objs.length c, .int .i64 s.hp.cap, .int .i64 s.hp.last, .int .i64 s.proc, .int .i64 s.ready, .int .i64 s.halt, .int .i64 s.steps, .int .i64 s.used]] w fun e w' => e = .returned (.int .i64 (ckI s)) ∧ Below w.heap.size w w' := by
  obtain ⟨w0, hw0⟩ : ∃ w0, w0 = (w.alloc (.cells #[.slice A s.hp.objs.length c, .int .i64 s.hp.cap, .int .i64 s.hp.last, .int .i64 s.proc, .int .i64 s.ready, .int .i64 s.halt, .int .i64 s.steps, .int .i64 s.used] 27)) := ⟨_, rfl⟩
  have HB0 : Hid (Below w.heap.size w w0) := by show Below _ _ _; rw [hw0]; exact below_alloc w _
  have X0 : Hid (Lies w0 (w.heap.size) 27 #[.slice A s.hp.objs.length c, .int .i64 s.hp.cap, .int .i64 s.hp.last, .int .i64 s.proc, .int .i64 s.ready, .int .i64 s.halt, .int .i64 s.steps, .int .i64 s.used]) := by
    show Lies _ _ _ _
    rw [hw0]
    have := Lies.new w 27 #[.slice A s.hp.objs.length c, .int .i64 s.hp.cap, .int .i64 s.hp.last, .int .i64 s.proc, .int .i64 s.ready, .int .i64 s.halt, .int .i64 s.steps, .int .i64 s.used]
    simpa [Hid] using this
  have OX0 := hid (hsX.below HB0.out)
  have HFX := hid fitX
  have hflX := fitX.1
  clear hsX fitX
  go_enter Tryz.func11, Tryz.ntmps11
  go_upto_region 1 with fail
  rw [← hw0]
  clear hw0
  have x0 := X0.out.cell 0
  have x1 := X0.out.cell 1
  have x2 := X0.out.cell 2
  have x3 := X0.out.cell 3
  have x4 := X0.out.cell 4
  have x5 := X0.out.cell 5
  have x6 := X0.out.cell 6
  have x7 := X0.out.cell 7
  simp only [List.getElem?_toArray, List.getElem?_cons_zero, List.getElem?_cons_succ] at x0 x1 x2 x3 x4 x5 x6 x7
  go_wp2_with fail
  refine (rmay_any s.hp A c _ OX0.out HFX.out).mono ?_
  rintro e w1 ⟨rfl, hb⟩
  clear x0 x1 x2 x3 x4 x5 x6 x7
  have HB1 := hid (then_w HB0.out hb)
  have X1 := hid (X0.out.later hb)
  have OX1 := hid (OX0.out.below hb)
  clear hb
  clear HB0 X0 OX0
  cases hm : mayB s.hp
  · have e : ckI s = 150 := ckI_no (Bool.eq_false_iff.2 fun hc => by rw [(ck_iff.1 hc).may] at hm; cases hm)
    have E := hid e
    clear e
    clear hm
    have x0 := X1.out.cell 0
    have x1 := X1.out.cell 1
    have x2 := X1.out.cell 2
    have x3 := X1.out.cell 3
    have x4 := X1.out.cell 4
    have x5 := X1.out.cell 5
    have x6 := X1.out.cell 6
    have x7 := X1.out.cell 7
    simp only [List.getElem?_toArray, List.getElem?_cons_zero, List.getElem?_cons_succ] at x0 x1 x2 x3 x4 x5 x6 x7
    go_wp2_with fail
    clear x0 x1 x2 x3 x4 x5 x6 x7
    go_ret
    exact ⟨by rw [E.out]; rfl, HB1.out⟩
  · have HM := hid hm
    clear hm
    by_cases hl : s.hp.objs.length < 12
    · have hl' : (s.hp.objs.length : Int) < 12 := by omega
      have e : ckI s = 150 := ckI_no (Bool.eq_false_iff.2 fun hc => by have := (ck_iff.1 hc).len; omega)
      have E := hid e
      clear e
      have x0 := X1.out.cell 0
      have x1 := X1.out.cell 1
      have x2 := X1.out.cell 2
      have x3 := X1.out.cell 3
      have x4 := X1.out.cell 4
      have x5 := X1.out.cell 5
      have x6 := X1.out.cell 6
      have x7 := X1.out.cell 7
      simp only [List.getElem?_toArray, List.getElem?_cons_zero, List.getElem?_cons_succ] at x0 x1 x2 x3 x4 x5 x6 x7
      go_wp2_with fail
      clear x0 x1 x2 x3 x4 x5 x6 x7
      go_ret
      exact ⟨by rw [E.out]; rfl, HB1.out⟩
    · have hl' : ¬ (s.hp.objs.length : Int) < 12 := by omega
      have HL : Hid (12 ≤ s.hp.objs.length) := by show _ ≤ _; omega
      clear hl
      obtain ⟨ri, hri⟩ : ∃ x, x = refI s.hp.objs.length s.proc := ⟨_, rfl⟩
      have HRI := hid hri
      clear hri
      have x0 := X1.out.cell 0
      have x1 := X1.out.cell 1
      have x2 := X1.out.cell 2
      have x3 := X1.out.cell 3
      have x4 := X1.out.cell 4
      have x5 := X1.out.cell 5
      have x6 := X1.out.cell 6
      have x7 := X1.out.cell 7
      simp only [List.getElem?_toArray, List.getElem?_cons_zero, List.getElem?_cons_succ] at x0 x1 x2 x3 x4 x5 x6 x7
      go_wp2_with fail
      refine (rref_any s.hp s.proc A c _).mono ?_
      rintro e w2 ⟨rfl, hb⟩
      clear x0 x1 x2 x3 x4 x5 x6 x7
      rw [← HRI.out]
      have HB2 := hid (then_w HB1.out hb)
      have X2 := hid (X1.out.later hb)
      have OX2 := hid (OX1.out.below hb)
      clear hb
      clear HB1 X1 OX1
      cases hp : refB s.hp.objs.length s.proc
      · have hr' : ri < 0 := by rw [HRI.out]; exact rfI_no15 hp
        have e : ckI s = 150 := ckI_no (Bool.eq_false_iff.2 fun hc => by rw [(ck_iff.1 hc).proc] at hp; cases hp)
        have E := hid e
        clear e
        clear hp
        have x0 := X2.out.cell 0
        have x1 := X2.out.cell 1
        have x2 := X2.out.cell 2
        have x3 := X2.out.cell 3
        have x4 := X2.out.cell 4
        have x5 := X2.out.cell 5
        have x6 := X2.out.cell 6
        have x7 := X2.out.cell 7
        simp only [List.getElem?_toArray, List.getElem?_cons_zero, List.getElem?_cons_succ] at x0 x1 x2 x3 x4 x5 x6 x7
        go_wp2_with fail
        clear x0 x1 x2 x3 x4 x5 x6 x7
        go_ret
        exact ⟨by rw [E.out]; rfl, HB2.out⟩
      · have hr' : ¬ ri < 0 := by rw [HRI.out]; exact rfI_yes15 hp
        have HP := hid hp
        clear hp
        obtain ⟨qi, hqi⟩ : ∃ x, x = refI s.hp.objs.length s.ready := ⟨_, rfl⟩
        have HQI := hid hqi
        clear hqi
        have x0 := X2.out.cell 0
        have x1 := X2.out.cell 1
        have x2 := X2.out.cell 2
        have x3 := X2.out.cell 3
        have x4 := X2.out.cell 4
        have x5 := X2.out.cell 5
        have x6 := X2.out.cell 6
        have x7 := X2.out.cell 7
        simp only [List.getElem?_toArray, List.getElem?_cons_zero, List.getElem?_cons_succ] at x0 x1 x2 x3 x4 x5 x6 x7
        go_wp2_with fail
        refine (rref_any s.hp s.ready A c _).mono ?_
        rintro e w3 ⟨rfl, hb⟩
        clear x0 x1 x2 x3 x4 x5 x6 x7
        rw [← HQI.out]
        have HB3 := hid (then_w HB2.out hb)
        have X3 := hid (X2.out.later hb)
        have OX3 := hid (OX2.out.below hb)
        clear hb
        clear HB2 X2 OX2
        cases hp : refB s.hp.objs.length s.ready
        · have hq' : qi < 0 := by rw [HQI.out]; exact rfI_no15 hp
          have e : ckI s = 150 := ckI_no (Bool.eq_false_iff.2 fun hc => by rw [(ck_iff.1 hc).ready] at hp; cases hp)
          have E := hid e
          clear e
          clear hp
          have x0 := X3.out.cell 0
          have x1 := X3.out.cell 1
          have x2 := X3.out.cell 2
          have x3 := X3.out.cell 3
          have x4 := X3.out.cell 4
          have x5 := X3.out.cell 5
          have x6 := X3.out.cell 6
          have x7 := X3.out.cell 7
          simp only [List.getElem?_toArray, List.getElem?_cons_zero, List.getElem?_cons_succ] at x0 x1 x2 x3 x4 x5 x6 x7
          go_wp2_with fail
          clear x0 x1 x2 x3 x4 x5 x6 x7
          go_ret
          exact ⟨by rw [E.out]; rfl, HB3.out⟩
        · have hq' : ¬ qi < 0 := by rw [HQI.out]; exact rfI_yes15 hp
          have HQ := hid hp
          clear hp
          by_cases h1 : s.halt < 0
          · have e : ckI s = 150 := ckI_no (Bool.eq_false_iff.2 fun hc => by have := (ck_iff.1 hc).halt; omega)
            have E := hid e
            clear e
            have x0 := X3.out.cell 0
            have x1 := X3.out.cell 1
            have x2 := X3.out.cell 2
            have x3 := X3.out.cell 3
            have x4 := X3.out.cell 4
            have x5 := X3.out.cell 5
            have x6 := X3.out.cell 6
            have x7 := X3.out.cell 7
            simp only [List.getElem?_toArray, List.getElem?_cons_zero, List.getElem?_cons_succ] at x0 x1 x2 x3 x4 x5 x6 x7
            go_wp2_with fail
            clear x0 x1 x2 x3 x4 x5 x6 x7
            go_ret
            exact ⟨by rw [E.out]; rfl, HB3.out⟩
          · by_cases h2 : 255 < s.halt
            · have e : ckI s = 150 := ckI_no (Bool.eq_false_iff.2 fun hc => by have := (ck_iff.1 hc).halt; omega)
              have E := hid e
              clear e
              have x0 := X3.out.cell 0
              have x1 := X3.out.cell 1
              have x2 := X3.out.cell 2
              have x3 := X3.out.cell 3
              have x4 := X3.out.cell 4
              have x5 := X3.out.cell 5
              have x6 := X3.out.cell 6
              have x7 := X3.out.cell 7
              simp only [List.getElem?_toArray, List.getElem?_cons_zero, List.getElem?_cons_succ] at x0 x1 x2 x3 x4 x5 x6 x7
              go_wp2_with fail
              clear x0 x1 x2 x3 x4 x5 x6 x7
              go_ret
              exact ⟨by rw [E.out]; rfl, HB3.out⟩
            · by_cases h3 : s.steps < 0
              · have e : ckI s = 150 := ckI_no (Bool.eq_false_iff.2 fun hc => by have := (ck_iff.1 hc).steps; omega)
                have E := hid e
                clear e
                have x0 := X3.out.cell 0
                have x1 := X3.out.cell 1
                have x2 := X3.out.cell 2
                have x3 := X3.out.cell 3
                have x4 := X3.out.cell 4
                have x5 := X3.out.cell 5
                have x6 := X3.out.cell 6
                have x7 := X3.out.cell 7
                simp only [List.getElem?_toArray, List.getElem?_cons_zero, List.getElem?_cons_succ] at x0 x1 x2 x3 x4 x5 x6 x7
                go_wp2_with fail
                clear x0 x1 x2 x3 x4 x5 x6 x7
                go_ret
                exact ⟨by rw [E.out]; rfl, HB3.out⟩
              · by_cases h4 : 1099511627776 < s.steps
                · have e : ckI s = 150 := ckI_no (Bool.eq_false_iff.2 fun hc => by have := (ck_iff.1 hc).steps; omega)
                  have E := hid e
                  clear e
                  have x0 := X3.out.cell 0
                  have x1 := X3.out.cell 1
                  have x2 := X3.out.cell 2
                  have x3 := X3.out.cell 3
                  have x4 := X3.out.cell 4
                  have x5 := X3.out.cell 5
                  have x6 := X3.out.cell 6
                  have x7 := X3.out.cell 7
                  simp only [List.getElem?_toArray, List.getElem?_cons_zero, List.getElem?_cons_succ] at x0 x1 x2 x3 x4 x5 x6 x7
                  go_wp2_with fail
                  clear x0 x1 x2 x3 x4 x5 x6 x7
                  go_ret
                  exact ⟨by rw [E.out]; rfl, HB3.out⟩
                · by_cases h5 : s.used < 0
                  · have e : ckI s = 150 := ckI_no (Bool.eq_false_iff.2 fun hc => by have := (ck_iff.1 hc).used; omega)
                    have E := hid e
                    clear e
                    have x0 := X3.out.cell 0
                    have x1 := X3.out.cell 1
                    have x2 := X3.out.cell 2
                    have x3 := X3.out.cell 3
                    have x4 := X3.out.cell 4
                    have x5 := X3.out.cell 5
                    have x6 := X3.out.cell 6
                    have x7 := X3.out.cell 7
                    simp only [List.getElem?_toArray, List.getElem?_cons_zero, List.getElem?_cons_succ] at x0 x1 x2 x3 x4 x5 x6 x7
                    go_wp2_with fail
                    clear x0 x1 x2 x3 x4 x5 x6 x7
                    go_ret
                    exact ⟨by rw [E.out]; rfl, HB3.out⟩
                  · by_cases h6 : 1000 < s.used
                    · have e : ckI s = 150 := ckI_no (Bool.eq_false_iff.2 fun hc => by have := (ck_iff.1 hc).used; omega)
                      have E := hid e
                      clear e
                      have x0 := X3.out.cell 0
                      have x1 := X3.out.cell 1
                      have x2 := X3.out.cell 2
                      have x3 := X3.out.cell 3
                      have x4 := X3.out.cell 4
                      have x5 := X3.out.cell 5
                      have x6 := X3.out.cell 6
                      have x7 := X3.out.cell 7
                      simp only [List.getElem?_toArray, List.getElem?_cons_zero, List.getElem?_cons_succ] at x0 x1 x2 x3 x4 x5 x6 x7
                      go_wp2_with fail
                      clear x0 x1 x2 x3 x4 x5 x6 x7
                      go_ret
                      exact ⟨by rw [E.out]; rfl, HB3.out⟩
                    · have e : ckI s = 0 := ckI_yes (ck_iff.2 ⟨HM.out, HL.out, HP.out, HQ.out, by omega, by omega, by omega⟩)
                      have E := hid e
                      clear e
                      have x0 := X3.out.cell 0
                      have x1 := X3.out.cell 1
                      have x2 := X3.out.cell 2
                      have x3 := X3.out.cell 3
                      have x4 := X3.out.cell 4
                      have x5 := X3.out.cell 5
                      have x6 := X3.out.cell 6
                      have x7 := X3.out.cell 7
                      simp only [List.getElem?_toArray, List.getElem?_cons_zero, List.getElem?_cons_succ] at x0 x1 x2 x3 x4 x5 x6 x7
                      go_wp2_with fail
                      clear x0 x1 x2 x3 x4 x5 x6 x7
                      go_ret
                      exact ⟨by rw [E.out]; rfl, HB3.out⟩
set_option maxHeartbeats 1500000 in
theorem rroots_any15 (s : St) (A : Option Addr) (c : Nat) (w : World) (hsX : ObsR w A s.hp.objs) (fitX : s.hp.Fit) :
    Calls Tryz.prog 14 #[.agg #[.slice A s.hp.objs.length c, .int .i64 s.hp.cap, .int .i64 s.hp.last, .int .i64 s.proc, .int .i64 s.ready, .int .i64 s.halt, .int .i64 s.steps, .int .i64 s.used]] w (IntsOf15 w (rtL s)) := by
  obtain ⟨w0, hw0⟩ : ∃ w0, w0 = (w.alloc (.cells #[.slice A s.hp.objs.length c, .int .i64 s.hp.cap, .int .i64 s.hp.last, .int .i64 s.proc, .int .i64 s.ready, .int .i64 s.halt, .int .i64 s.steps, .int .i64 s.used] 27)) := ⟨_, rfl⟩
  have HB0 : Hid (Below w.heap.size w w0) := by show Below _ _ _; rw [hw0]; exact below_alloc w _
  have X0 : Hid (Lies w0 (w.heap.size) 27 #[.slice A s.hp.objs.length c, .int .i64 s.hp.cap, .int .i64 s.hp.last, .int .i64 s.proc, .int .i64 s.ready, .int .i64 s.halt, .int .i64 s.steps, .int .i64 s.used]) := by
    show Lies _ _ _ _
    rw [hw0]
    have := Lies.new w 27 #[.slice A s.hp.objs.length c, .int .i64 s.hp.cap, .int .i64 s.hp.last, .int .i64 s.proc, .int .i64 s.ready, .int .i64 s.halt, .int .i64 s.steps, .int .i64 s.used]
    simpa [Hid] using this
  have OX0 := hid (hsX.below HB0.out)
  have HFX := hid fitX
  have hflX := fitX.1
  obtain ⟨cI, hcI⟩ : ∃ x, x = ckI s := ⟨_, rfl⟩
  have HCI := hid hcI
  clear hcI
  clear hsX fitX
  go_enter Tryz.func14, Tryz.ntmps14
  go_upto_region 1 with fail
  rw [← hw0]
  clear hw0
  have x0 := X0.out.cell 0
  have x1 := X0.out.cell 1
  have x2 := X0.out.cell 2
  have x3 := X0.out.cell 3
  have x4 := X0.out.cell 4
  have x5 := X0.out.cell 5
  have x6 := X0.out.cell 6
  have x7 := X0.out.cell 7
  simp only [List.getElem?_toArray, List.getElem?_cons_zero, List.getElem?_cons_succ] at x0 x1 x2 x3 x4 x5 x6 x7
  go_wp2_with fail
  refine (rck_any15 s A c _ OX0.out HFX.out).mono ?_
  rintro e w1 ⟨rfl, hb⟩
  clear x0 x1 x2 x3 x4 x5 x6 x7
  rw [← HCI.out]
  have HB1 := hid (then_w HB0.out hb)
  have X1 := hid (X0.out.later hb)
  have OX1 := hid (OX0.out.below hb)
  clear hb
  clear HB0 X0 OX0
  cases hm : ckB s
  · obtain rfl : cI = 150 := HCI.out.trans (ckI_no hm)
    have E := hid (rtL_no hm)
    clear hm
    have x0 := X1.out.cell 0
    have x1 := X1.out.cell 1
    have x2 := X1.out.cell 2
    have x3 := X1.out.cell 3
    have x4 := X1.out.cell 4
    have x5 := X1.out.cell 5
    have x6 := X1.out.cell 6
    have x7 := X1.out.cell 7
    simp only [List.getElem?_toArray, List.getElem?_cons_zero, List.getElem?_cons_succ] at x0 x1 x2 x3 x4 x5 x6 x7
    go_wp2_with fail
    clear x0 x1 x2 x3 x4 x5 x6 x7
    go_ret
    exact ⟨none, 0, by rw [E.out]; rfl, by rw [E.out]; exact fun h => absurd h (by decide), HB1.out⟩
  · obtain rfl : cI = 0 := HCI.out.trans (ckI_yes hm)
    have E := hid (rtL_yes hm)
    clear hm
    have x0 := X1.out.cell 0
    have x1 := X1.out.cell 1
    have x2 := X1.out.cell 2
    have x3 := X1.out.cell 3
    have x4 := X1.out.cell 4
    have x5 := X1.out.cell 5
    have x6 := X1.out.cell 6
    have x7 := X1.out.cell 7
    simp only [List.getElem?_toArray, List.getElem?_cons_zero, List.getElem?_cons_succ] at x0 x1 x2 x3 x4 x5 x6 x7
    go_wp2_with fail
    clear x0 x1 x2 x3 x4 x5 x6 x7
    go_ret
    refine ⟨some ⟨w1.heap.size, 0, none⟩, 14, by rw [E.out]; rfl, ?_, HB1.out.alloc HB1.out.size _⟩
    rw [E.out]
    exact lies_ints15 (Lies.new w1 3 #[.int .i64 0, .int .i64 2, .int .i64 4, .int .i64 6, .int .i64 8, .int .i64 10, .int .i64 12, .int .i64 14, .int .i64 16, .int .i64 18, .int .i64 20, .int .i64 22, .int .i64 s.proc, .int .i64 s.ready]) rfl
end Go.Proofs.YtnilempeldlieaaGreat
namespace Go.Proofs.YtnilempeldlieaaGreat
open Go.RowKit
structure Pr where
  t : List Int
  f : List Int
def Pr.T (s : Pr) (i : Nat) : Int := s.t.getD i (-1)
def Pr.F (s : Pr) (k : Nat) : Int := s.f.getD k (-1)
def prN (s : Pr) (i k : Nat) : Pr := if s.T i = -1 ∧ s.F k = -1 then ⟨s.t.set i k, s.f.set k i⟩ else s
/-- two values are paired, if they may be -/
def prV (a b : Hp) (s : Pr) (v w : Int) : Option Pr :=
  if refB a.objs.length v = true ∧ refB b.objs.length w = true then
    (if (prN s (atV v).toNat (atV w).toNat).T (atV v).toNat = atV w ∧ (prN s (atV v).toNat (atV w).toNat).F (atV w).toNat = atV v then some (prN s (atV v).toNat (atV w).toNat) else none)
  else if nB v = true ∧ v = w then some s else none
def prL (a b : Hp) : Pr → List Int → List Int → Option Pr
  | s, v :: vs, w :: ws => (prV a b s v w).bind fun s' => prL a b s' vs ws
  | s, [], _ => some s
  | s, _ :: _, [] => some s
def alike (x y : Ob) : Prop := x.kind = y.kind ∧ x.text = y.text ∧ x.bits = y.bits ∧ x.hash = y.hash ∧ x.slots.length = y.slots.length
open Classical in
/-- what the i'th object's pair leads to is paired, if all may be -/
noncomputable def prO (a b : Hp) (s : Pr) (i : Nat) : Option Pr :=
  if s.T i < 0 then some s
  else if alike (a.objs.getD i default) (b.objs.getD (s.T i).toNat default) then
    prL a b s ((a.objs.getD i default).cls :: (a.objs.getD i default).slots) ((b.objs.getD (s.T i).toNat default).cls :: (b.objs.getD (s.T i).toNat default).slots)
  else none
/-- of the first n objects -/
noncomputable def prF (a b : Hp) : Nat → Pr → Option Pr
  | 0, s => some s
  | n + 1, s => (prF a b n s).bind fun s' => prO a b s' n
/-- m times all -/
noncomputable def prR (a b : Hp) : Nat → Pr → Option Pr
  | 0, s => some s
  | m + 1, s => (prR a b m s).bind fun s' => prF a b a.objs.length s'
def pr0 (a b : Hp) : Pr := ⟨List.replicate a.objs.length (-1), List.replicate b.objs.length (-1)⟩
noncomputable def prS (a : Hp) (p : List Int) (b : Hp) (q : List Int) : Option Pr :=
  if p.length = q.length then (prL a b (pr0 a b) p q).bind fun s => prR a b (a.objs.length + 1) s else none
/-! ### Each has just one -/
structure Good (a b : Hp) (s : Pr) : Prop where
  lt : s.t.length = a.objs.length
  lf : s.f.length = b.objs.length
  one : ∀ i, s.T i ≠ -1 → ∃ k : Nat, k < b.objs.length ∧ s.T i = k ∧ s.F k = i
  two : ∀ k, s.F k ≠ -1 → ∃ i : Nat, i < a.objs.length ∧ s.F k = i ∧ s.T i = k
def Ext (s s' : Pr) : Prop := ∀ i k : Nat, s.T i = k → s'.T i = k
def cnt (s : Pr) : Nat := s.t.countP fun x => decide (x ≠ -1)
def sR (s : Pr) (i k : Nat) : Prop := s.T i = k
def More (s s' : Pr) : Prop := s' = s ∨ cnt s < cnt s'
theorem Ext.refl (s : Pr) : Ext s s := fun _ _ h => h
theorem Ext.trans {s r u : Pr} (h : Ext s r) (g : Ext r u) : Ext s u := fun i k e => g i k (h i k e)
theorem More.refl (s : Pr) : More s s := .inl rfl
theorem More.trans {s r u : Pr} (h : More s r) (g : More r u) : More s u := by
  rcases h with h | h <;> rcases g with g | g
  · exact .inl (g.trans h)
  · rw [h] at g; exact .inr g
  · rw [← g] at h; exact .inr h
  · exact .inr (Nat.lt_trans h g)
/-- between two that are alike there is but this one -/
theorem More.mid {s r u : Pr} (h : More s r) (g : More r u) (e : u = s) : r = s := by
  rcases h with h | h
  · exact h
  · rcases g with g | g
    · rw [← g, e]
    · rw [e] at g; exact absurd (Nat.lt_trans h g) (Nat.lt_irrefl _)
theorem cnt_le {a b : Hp} {s : Pr} (G : Good a b s) : cnt s ≤ a.objs.length := by
  unfold cnt; rw [← G.lt]; exact List.countP_le_length
theorem set_T {s : Pr} {i : Nat} {x y : List Int} {k : Int} (hi : i < s.t.length) (e : x = s.t.set i k) (j : Nat) : (Pr.mk x y).T j = if j = i then k else s.T j := by
  subst e
  unfold Pr.T
  rw [List.getD_eq_getElem?_getD, List.getD_eq_getElem?_getD, List.getElem?_set]
  by_cases g : i = j
  · subst g; rw [if_pos rfl, if_pos hi, if_pos rfl]; rfl
  · rw [if_neg g, if_neg (fun h => g h.symm)]
theorem set_F {s : Pr} {i : Nat} {x y : List Int} {k : Int} (hi : i < s.f.length) (e : y = s.f.set i k) (j : Nat) : (Pr.mk x y).F j = if j = i then k else s.F j := by
  subst e
  unfold Pr.F
  rw [List.getD_eq_getElem?_getD, List.getD_eq_getElem?_getD, List.getElem?_set]
  by_cases g : i = j
  · subst g; rw [if_pos rfl, if_pos hi, if_pos rfl]; rfl
  · rw [if_neg g, if_neg (fun h => g h.symm)]
theorem cnt_set : ∀ (l : List Int) (i : Nat) (k : Int), i < l.length → l.getD i (-1) = -1 → k ≠ -1 → (l.set i k).countP (fun x => decide (x ≠ -1)) = l.countP (fun x => decide (x ≠ -1)) + 1
  | [], i, k, h, _, _ => by simp at h
  | x :: l, 0, k, _, e, hk => by
    obtain rfl : x = -1 := e
    rw [List.set_cons_zero, List.countP_cons_of_pos (by simpa using hk), List.countP_cons_of_neg (by simp)]
  | x :: l, i + 1, k, h, e, hk => by
    rw [List.set_cons_succ, List.countP_cons, List.countP_cons, cnt_set l i k (by simpa using h) e hk]; omega
theorem prN_good {a b : Hp} {s : Pr} (G : Good a b s) {i k : Nat} (hi : i < a.objs.length) (hk : k < b.objs.length) : Good a b (prN s i k) ∧ Ext s (prN s i k) ∧ More s (prN s i k) := by
  unfold prN
  split
  · rename_i hc
    obtain ⟨h1, h2⟩ := hc
    have hit : i < s.t.length := by rw [G.lt]; exact hi
    have hkf : k < s.f.length := by rw [G.lf]; exact hk
    have T := set_T (s := s) (y := s.f.set k i) (k := (k : Int)) hit rfl
    have F := set_F (s := s) (x := s.t.set i k) (k := (i : Int)) hkf rfl
    refine ⟨⟨by simp [G.lt], by simp [G.lf], fun j hj => ?_, fun l hl => ?_⟩, fun j l hj => ?_, .inr ?_⟩
    · rw [T] at hj
      rw [T]
      by_cases g : j = i
      · rw [if_pos g]; exact ⟨k, hk, rfl, by rw [F, if_pos rfl, g]⟩
      · rw [if_neg g] at hj ⊢
        obtain ⟨l, hl, h3, h4⟩ := G.one j hj
        refine ⟨l, hl, h3, ?_⟩
        rw [F, if_neg fun e => by rw [e, h2] at h4; omega]
        exact h4
    · rw [F] at hl
      rw [F]
      by_cases g : l = k
      · rw [if_pos g]; exact ⟨i, hi, rfl, by rw [T, if_pos rfl, g]⟩
      · rw [if_neg g] at hl ⊢
        obtain ⟨j, hj, h3, h4⟩ := G.two l hl
        refine ⟨j, hj, h3, ?_⟩
        rw [T, if_neg fun e => by rw [e, h1] at h4; omega]
        exact h4
    · rw [T, if_neg fun e => by rw [e, h1] at hj; omega]
      exact hj
    · unfold cnt
      show _ < (s.t.set i k).countP _
      rw [cnt_set s.t i k hit h1 (by omega)]
      exact Nat.lt_succ_self _
  · exact ⟨G, .refl s, .refl s⟩
theorem ValR.imp {a b : Hp} {R S : Nat → Nat → Prop} (h : ∀ i k, R i k → S i k) {v w : Int} (g : ValR a b R v w) : ValR a b S v w := by
  rcases g with ⟨h1, h2, h3⟩ | ⟨h1, h2, h3⟩
  · exact .inl ⟨h1, h2, h3⟩
  · exact .inr ⟨h1, h2, h _ _ h3⟩
theorem nB_ref {n : Nat} {v : Int} (h : nB v = true) : refB n v = false := by
  cases hr : refB n v
  · rfl
  · rw [nB_no hr] at h; cases h
/-- what pairing keeps -/
structure Goes (a b : Hp) (s s' : Pr) : Prop where
  good : Good a b s'
  ext : Ext s s'
  more : More s s'
theorem Goes.refl {a b : Hp} {s : Pr} (G : Good a b s) : Goes a b s s := ⟨G, .refl s, .refl s⟩
theorem Goes.trans {a b : Hp} {s r u : Pr} (h : Goes a b s r) (g : Goes a b r u) : Goes a b s u := ⟨g.good, h.ext.trans g.ext, h.more.trans g.more⟩
theorem prV_goes {a b : Hp} {s s' : Pr} (G : Good a b s) {v w : Int} (h : prV a b s v w = some s') : Goes a b s s' ∧ ValR a b (sR s') v w := by
  unfold prV at h
  split at h
  · rename_i hc
    obtain ⟨n1, n2⟩ := refB_nat hc.1
    obtain ⟨m1, m2⟩ := refB_nat hc.2
    obtain ⟨g1, g2, g3⟩ := prN_good G n1 m1
    split at h
    · rename_i hd
      obtain rfl := Option.some.inj h
      exact ⟨⟨g1, g2, g3⟩, .inr ⟨hc.1, hc.2, by unfold sR; rw [hd.1, m2]⟩⟩
    · cases h
  · split at h
    · rename_i hd
      obtain rfl := Option.some.inj h
      exact ⟨.refl G, .inl ⟨nB_ref hd.1, by rw [← hd.2]; exact nB_ref hd.1, hd.2⟩⟩
    · cases h
theorem prL_goes {a b : Hp} : ∀ {vs ws : List Int} {s s' : Pr}, Good a b s → vs.length = ws.length → prL a b s vs ws = some s' → Goes a b s s' ∧ All2 (ValR a b (sR s')) vs ws
  | [], [], s, s', G, _, h => by
    obtain rfl := Option.some.inj h
    exact ⟨.refl G, .nil⟩
  | [], _ :: _, _, _, _, hl, _ => by simp at hl
  | _ :: _, [], _, _, _, hl, _ => by simp at hl
  | v :: vs, w :: ws, s, s', G, hl, h => by
    unfold prL at h
    obtain ⟨r, h1, h2⟩ := Option.bind_eq_some_iff.1 h
    obtain ⟨g1, g2⟩ := prV_goes G h1
    obtain ⟨k1, k2⟩ := prL_goes g1.good (by simpa using hl) h2
    exact ⟨g1.trans k1, .cons (g2.imp fun i k e => k1.ext i k e) k2⟩
def Fits (a b : Hp) (s s' : Pr) (i : Nat) : Prop := ∀ (k : Nat) (x y : Ob), sR s i k → a.objs[i]? = some x → b.objs[k]? = some y → ObR a b (sR s') x y
theorem prO_goes {a b : Hp} {s s' : Pr} {i : Nat} (G : Good a b s) (h : prO a b s i = some s') : Goes a b s s' ∧ Fits a b s s' i := by
  unfold prO at h
  split at h
  · rename_i hc
    obtain rfl := Option.some.inj h
    exact ⟨.refl G, fun k x y hr _ _ => by unfold sR at hr; omega⟩
  · rename_i hc
    split at h
    · rename_i hd
      obtain ⟨d1, d2, d3, d4, d5⟩ := hd
      obtain ⟨k1, k2⟩ := prL_goes G (by simpa using d5) h
      refine ⟨k1, fun k x y hr hx hy => ?_⟩
      have hk : (s.T i).toNat = k := by unfold sR at hr; omega
      have ex : a.objs.getD i default = x := by rw [List.getD_eq_getElem?_getD, hx]; rfl
      have ey : b.objs.getD (s.T i).toNat default = y := by rw [hk, List.getD_eq_getElem?_getD, hy]; rfl
      rw [ex, ey] at d1 d2 d3 d4 k2
      cases k2 with
      | cons c1 c2 => exact ⟨c1, d1, c2, d2, d3, d4⟩
    · cases h
theorem prF_goes {a b : Hp} : ∀ {n : Nat} {s s' : Pr}, Good a b s → prF a b n s = some s' → Goes a b s s' ∧ (s' = s → ∀ i, i < n → Fits a b s s i)
  | 0, s, s', G, h => by
    obtain rfl := Option.some.inj h
    exact ⟨.refl G, fun _ i hi => absurd hi (Nat.not_lt_zero i)⟩
  | n + 1, s, s', G, h => by
    unfold prF at h
    obtain ⟨r, h1, h2⟩ := Option.bind_eq_some_iff.1 h
    obtain ⟨g1, g2⟩ := prF_goes G h1
    obtain ⟨k1, k2⟩ := prO_goes g1.good h2
    refine ⟨g1.trans k1, fun e i hi => ?_⟩
    have hr := g1.more.mid k1.more e
    subst hr
    rw [e] at k2
    by_cases g : i < n
    · exact g2 rfl i g
    · obtain rfl : i = n := by omega
      exact k2
def Closed (a b : Hp) (s : Pr) : Prop := ∀ i, i < a.objs.length → Fits a b s s i
theorem prR_goes {a b : Hp} : ∀ {m : Nat} {s s' : Pr}, Good a b s → prR a b m s = some s' → Goes a b s s' ∧ (m ≤ cnt s' ∨ ∃ r, Good a b r ∧ Ext s r ∧ Closed a b r)
  | 0, s, s', G, h => by
    obtain rfl := Option.some.inj h
    exact ⟨.refl G, .inl (Nat.zero_le _)⟩
  | m + 1, s, s', G, h => by
    unfold prR at h
    obtain ⟨r, h1, h2⟩ := Option.bind_eq_some_iff.1 h
    obtain ⟨g1, g2⟩ := prR_goes G h1
    obtain ⟨k1, k2⟩ := prF_goes g1.good h2
    refine ⟨g1.trans k1, ?_⟩
    rcases g2 with g2 | g2
    · rcases k1.more with e | e
      · exact .inr ⟨r, g1.good, g1.ext, fun i hi => k2 e i hi⟩
      · exact .inl (by omega)
    · exact .inr g2
theorem pr0_T (a b : Hp) (i : Nat) : (pr0 a b).T i = -1 := by
  unfold Pr.T pr0
  rw [List.getD_eq_getElem?_getD, List.getElem?_replicate]
  split <;> rfl
theorem pr0_F (a b : Hp) (i : Nat) : (pr0 a b).F i = -1 := by
  unfold Pr.F pr0
  rw [List.getD_eq_getElem?_getD, List.getElem?_replicate]
  split <;> rfl
theorem pr0_good (a b : Hp) : Good a b (pr0 a b) :=
  ⟨by simp [pr0], by simp [pr0], fun i hi => absurd (pr0_T a b i) hi, fun k hk => absurd (pr0_F a b k) hk⟩
theorem prS_sound {a b : Hp} {p q : List Int} {s : Pr} (h : prS a p b q = some s) : ∃ R, Pairs a p b q R := by
  unfold prS at h
  split at h
  · rename_i hl
    obtain ⟨r, h1, h2⟩ := Option.bind_eq_some_iff.1 h
    obtain ⟨g1, g2⟩ := prL_goes (pr0_good a b) hl h1
    obtain ⟨k1, k2⟩ := prR_goes g1.good h2
    have := cnt_le k1.good
    rcases k2 with k2 | ⟨u, U, eu, cu⟩
    · omega
    · refine ⟨sR u, g2.imp fun v w g => g.imp fun i k e => eu i k e, fun i k x y hr hx hy => cu i (List.getElem?_eq_some_iff.1 hx).1 k x y hr hx hy, fun i k l hk hl => ?_, fun i j k hi hj => ?_⟩
      · unfold sR at hk hl; omega
      · unfold sR at hi hj
        obtain ⟨k', _, e1, e2⟩ := U.one i (by omega)
        obtain ⟨l', _, f1, f2⟩ := U.one j (by omega)
        have : k' = l' := by omega
        subst this; omega
  · cases h
/-! ### A pairing is found -/
section
variable {a b : Hp} {p q : List Int} {R : Nat → Nat → Prop}
def In (R : Nat → Nat → Prop) (s : Pr) : Prop := ∀ i k : Nat, s.T i = k → R i k
theorem prV_find (P : Pairs a p b q R) {s : Pr} (G : Good a b s) (I : In R s) {v w : Int} (hv : hasB a.objs.length v = true) (h : ValR a b R v w) : ∃ s', prV a b s v w = some s' ∧ Good a b s' ∧ In R s' := by
  rcases h with ⟨h1, h2, h3⟩ | ⟨h1, h2, h3⟩
  · refine ⟨s, ?_, G, I⟩
    unfold prV
    rw [if_neg (by rw [h1]; simp), if_pos ⟨has_not hv h1, h3⟩]
  · obtain ⟨n1, n2⟩ := refB_nat h1
    obtain ⟨m1, m2⟩ := refB_nat h2
    have hit : (atV v).toNat < s.t.length := by rw [G.lt]; exact n1
    have hkf : (atV w).toNat < s.f.length := by rw [G.lf]; exact m1
    obtain ⟨g1, g2, g3⟩ := prN_good G n1 m1
    have key : (prN s (atV v).toNat (atV w).toNat).T (atV v).toNat = (atV w).toNat ∧ (prN s (atV v).toNat (atV w).toNat).F (atV w).toNat = (atV v).toNat ∧ In R (prN s (atV v).toNat (atV w).toNat) := by
      unfold prN
      by_cases hc : s.T (atV v).toNat = -1 ∧ s.F (atV w).toNat = -1
      · rw [if_pos hc]
        have T := set_T (s := s) (y := s.f.set (atV w).toNat ((atV v).toNat : Int)) (k := ((atV w).toNat : Int)) hit rfl
        have F := set_F (s := s) (x := s.t.set (atV v).toNat ((atV w).toNat : Int)) (k := ((atV v).toNat : Int)) hkf rfl
        refine ⟨by rw [T, if_pos rfl], by rw [F, if_pos rfl], fun i k e => ?_⟩
        rw [T] at e
        by_cases g : i = (atV v).toNat
        · rw [if_pos g] at e
          obtain rfl : (atV w).toNat = k := by omega
          rw [g]; exact h3
        · rw [if_neg g] at e; exact I i k e
      · rw [if_neg hc]
        by_cases g : s.T (atV v).toNat = -1
        · have g' : s.F (atV w).toNat ≠ -1 := fun e => hc ⟨g, e⟩
          obtain ⟨j, _, e1, e2⟩ := G.two _ g'
          obtain rfl : j = (atV v).toNat := P.inj _ _ _ (I j _ e2) h3
          exact ⟨e2, e1, I⟩
        · obtain ⟨k, _, e1, e2⟩ := G.one _ g
          obtain rfl : k = (atV w).toNat := P.fn _ _ _ (I _ k e1) h3
          exact ⟨e1, e2, I⟩
    refine ⟨_, ?_, g1, key.2.2⟩
    unfold prV
    rw [if_pos ⟨h1, h2⟩, if_pos ⟨by rw [key.1, m2], by rw [key.2.1, n2]⟩]
theorem prL_find (P : Pairs a p b q R) {vs ws : List Int} (h : All2 (ValR a b R) vs ws) : ∀ {s : Pr}, Good a b s → In R s → (∀ v ∈ vs, hasB a.objs.length v = true) → ∃ s', prL a b s vs ws = some s' ∧ Good a b s' ∧ In R s' := by
  induction h with
  | nil => intro s G I _; exact ⟨s, rfl, G, I⟩
  | cons h1 _ ih =>
    intro s G I hv
    obtain ⟨r, e, G', I'⟩ := prV_find P G I (hv _ (List.mem_cons_self ..)) h1
    obtain ⟨u, e', G2, I2⟩ := ih G' I' fun v hm => hv v (List.mem_cons_of_mem _ hm)
    exact ⟨u, by unfold prL; rw [e]; exact e', G2, I2⟩
theorem prO_find (P : Pairs a p b q R) (hm : mayB a = true) {s : Pr} {i : Nat} (hi : i < a.objs.length) (G : Good a b s) (I : In R s) : ∃ s', prO a b s i = some s' ∧ Good a b s' ∧ In R s' := by
  unfold prO
  by_cases hc : s.T i < 0
  · rw [if_pos hc]; exact ⟨s, rfl, G, I⟩
  · rw [if_neg hc]
    obtain ⟨k, hk, e1, -⟩ := G.one i (by omega)
    have hx := List.getElem?_eq_getElem hi
    have hy := List.getElem?_eq_getElem hk
    have ek : (s.T i).toNat = k := by omega
    have ex : a.objs.getD i default = a.objs[i] := by rw [List.getD_eq_getElem?_getD, hx]; rfl
    have ey : b.objs.getD (s.T i).toNat default = b.objs[k] := by rw [ek, List.getD_eq_getElem?_getD, hy]; rfl
    rw [ex, ey]
    have O := P.obs i k _ _ (I i k e1) hx hy
    rw [if_pos ⟨O.kind, O.text, O.bits, O.hash, O.slots.len⟩]
    obtain ⟨o1, o2⟩ := ob_vals (may_all hm _ (List.mem_of_getElem? hx))
    refine prL_find P (.cons O.cls O.slots) G I fun v hv => ?_
    rcases List.mem_cons.1 hv with g | g
    · rw [g]; exact ref_has o1
    · exact o2 v g
theorem prF_find (P : Pairs a p b q R) (hm : mayB a = true) : ∀ {n : Nat} {s : Pr}, n ≤ a.objs.length → Good a b s → In R s → ∃ s', prF a b n s = some s' ∧ Good a b s' ∧ In R s'
  | 0, s, _, G, I => ⟨s, rfl, G, I⟩
  | n + 1, s, hn, G, I => by
    obtain ⟨r, e, G', I'⟩ := prF_find P hm (n := n) (by omega) G I
    obtain ⟨u, e', G2, I2⟩ := prO_find P hm (i := n) (by omega) G' I'
    exact ⟨u, by unfold prF; rw [e]; exact e', G2, I2⟩
theorem prR_find (P : Pairs a p b q R) (hm : mayB a = true) : ∀ {m : Nat} {s : Pr}, Good a b s → In R s → ∃ s', prR a b m s = some s' ∧ Good a b s' ∧ In R s'
  | 0, s, G, I => ⟨s, rfl, G, I⟩
  | m + 1, s, G, I => by
    obtain ⟨r, e, G', I'⟩ := prR_find P hm (m := m) G I
    obtain ⟨u, e', G2, I2⟩ := prF_find P hm (Nat.le_refl _) G' I'
    exact ⟨u, by unfold prR; rw [e]; exact e', G2, I2⟩
theorem prS_find (P : Pairs a p b q R) (e : liE a p = 0) : ∃ s, prS a p b q = some s := by
  obtain ⟨hm, hv, -⟩ := li_ok e
  obtain ⟨r, e1, G, I⟩ := prL_find P P.roots (pr0_good a b) (fun i k h => by rw [pr0_T] at h; omega) hv
  obtain ⟨u, e2, -⟩ := prR_find P hm (m := a.objs.length + 1) G I
  exact ⟨u, by unfold prS; rw [if_pos P.roots.len, e1]; exact e2⟩
end
/-- pairing finds whether they are the same -/
theorem same_pairs {a b : Hp} {p q : List Int} : SameP a p b q ↔ liE a p = 0 ∧ liE b q = 0 ∧ ∃ s, prS a p b q = some s := by
  constructor
  · rintro ⟨h1, h2, R, P⟩
    exact ⟨h1, h2, prS_find P h1⟩
  · rintro ⟨h1, h2, s, h⟩
    obtain ⟨R, P⟩ := prS_sound h
    exact ⟨h1, h2, R, P⟩
end Go.Proofs.YtnilempeldlieaaGreat
