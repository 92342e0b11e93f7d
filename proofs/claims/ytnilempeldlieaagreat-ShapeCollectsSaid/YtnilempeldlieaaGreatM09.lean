/- The program on states: whether one may be. Small words: a row of ints of the call's own; one cell. Appending one number to a list of the call's own. The program on states: its roots. slices.Equal at []int walked. -/
import Derived.Test.YtnilempeldlieaaGreatM08
import Derived.Test.YtnilempeldlieaaGreatM03
import Derived.Test.YtnilempeldlieaaGreatWY
import Derived.Test.YtnilempeldlieaaGreatM04
namespace Go.Proofs.YtnilempeldlieaaGreat
open Go.RowKit
set_option maxRecDepth 100000
def ckI (s : St) : Int := if ckB s = true then 0 else 150
theorem ckI_yes {s : St} (h : ckB s = true) : ckI s = 0 := by unfold ckI; rw [if_pos h]
theorem ckI_no {s : St} (h : ckB s = false) : ckI s = 150 := by unfold ckI; rw [if_neg (by rw [h]; decide)]
def hoB (s : St) : Bool := mayB s.hp && decide (12 ≤ s.hp.objs.length) && refB s.hp.objs.length s.proc && refB s.hp.objs.length s.ready
def boB (s : St) : Bool := decide (0 ≤ s.halt ∧ s.halt ≤ 255) && decide (0 ≤ s.steps ∧ s.steps ≤ 1099511627776) && decide (0 ≤ s.used ∧ s.used ≤ 1000)
theorem ck_two (s : St) : ckB s = (hoB s && boB s) := by unfold ckB hoB boB; simp only [Bool.and_assoc]
theorem upto_any15 (n m : Int) (w : World) : Calls Tryz.prog 57 #[.int .i64 n, .int .i64 m] w fun e w' => e = .returned (.bool (decide (0 ≤ n ∧ n ≤ m))) ∧ w = w' := by
  by_cases h0 : 0 ≤ n
  · by_cases h1 : n ≤ m
    · rw [decide_eq_true ⟨h0, h1⟩]
      go_enter Tryz.func57, Tryz.ntmps57
      go_wp2_with fail
      go_ret
      exact ⟨rfl, rfl⟩
    · rw [decide_eq_false (fun h => h1 h.2)]
      go_enter Tryz.func57, Tryz.ntmps57
      go_wp2_with fail
      go_ret
      exact ⟨rfl, rfl⟩
  · rw [decide_eq_false (fun h => h0 h.1)]
    go_enter Tryz.func57, Tryz.ntmps57
    go_wp2_with fail
    go_ret
    exact ⟨rfl, rfl⟩
theorem isobj_any15 (h : Hp) (v : Int) (A : Option Addr) (c : Nat) (w : World) :
    Calls Tryz.prog 56 #[.agg #[.slice A h.objs.length c, .int .i64 h.cap, .int .i64 h.last], .int .i64 v] w fun e w' => e = .returned (.bool (refB h.objs.length v)) ∧ Below w.heap.size w w' := by
  have HB := hid (below_alloc w (.cells #[Value.slice A h.objs.length c, Value.int .i64 h.cap, Value.int .i64 h.last] 24))
  go_enter Tryz.func56, Tryz.ntmps56
  go_wp2_with (go_at_call 110; refine (at_any _ _).mono ?_; rintro e w' ⟨rfl, rfl⟩)
  all_goals go_ret
  all_goals
    refine ⟨?_, HB.out⟩
    refine congrArg (fun x => Ending.returned (Value.bool x)) ?_
    simp_all [refB]
set_option maxHeartbeats 1500000 in
theorem holds_any15 (s : St) (A : Option Addr) (c : Nat) (w : World) (hsX : ObsR w A s.hp.objs) (fitX : s.hp.Fit) :
    Calls Tryz.prog 29 #[.agg #[.slice A s.hp.objs.length c, .int .i64 s.hp.cap, .int .i64 s.hp.last, .int .i64 s.proc, .int .i64 s.ready, .int .i64 s.halt, .int .i64 s.steps, .int .i64 s.used]] w fun e w' => e = .returned (.bool (hoB s)) ∧ Below w.heap.size w w' := by
  obtain ⟨w0, hw0⟩ : ∃ w0, w0 = (w.alloc (.cells #[.slice A s.hp.objs.length c, .int .i64 s.hp.cap, .int .i64 s.hp.last, .int .i64 s.proc, .int .i64 s.ready, .int .i64 s.halt, .int .i64 s.steps, .int .i64 s.used] 27)) := ⟨_, rfl⟩
  have HB0 : Hid (Below w.heap.size w w0) := by show Below _ _ _; rw [hw0]; exact below_alloc w _
  have X0 : Hid (Lies w0 (w.heap.size) 27 #[.slice A s.hp.objs.length c, .int .i64 s.hp.cap, .int .i64 s.hp.last, .int .i64 s.proc, .int .i64 s.ready, .int .i64 s.halt, .int .i64 s.steps, .int .i64 s.used]) := by
    show Lies _ _ _ _
    rw [hw0]
    have := Lies.new w 27 #[.slice A s.hp.objs.length c, .int .i64 s.hp.cap, .int .i64 s.hp.last, .int .i64 s.proc, .int .i64 s.ready, .int .i64 s.halt, .int .i64 s.steps, .int .i64 s.used]
    simpa [Hid] using this
  have OX0 := hid (hsX.below HB0.out)
  have HFX := hid fitX
  have hflX := fitX.1
  clear hsX fitX
  go_enter Tryz.func29, Tryz.ntmps29
  go_upto_region 1 with fail
  rw [← hw0]
  clear hw0
  have x0 := X0.out.cell 0
  have x1 := X0.out.cell 1
  have x2 := X0.out.cell 2
  have x3 := X0.out.cell 3
  have x4 := X0.out.cell 4
  have x5 := X0.out.cell 5
  have x6 := X0.out.cell 6
  have x7 := X0.out.cell 7
  simp only [List.getElem?_toArray, List.getElem?_cons_zero, List.getElem?_cons_succ] at x0 x1 x2 x3 x4 x5 x6 x7
  go_wp2_with fail
  refine (may_any s.hp A c _ OX0.out HFX.out).mono ?_
  rintro e w1 ⟨rfl, hb⟩
  clear x0 x1 x2 x3 x4 x5 x6 x7
  have HB1 := hid (then_w HB0.out hb)
  have X1 := hid (X0.out.later hb)
  have OX1 := hid (OX0.out.below hb)
  clear hb
  clear HB0 X0 OX0
  cases hm : mayB s.hp
  · have e : hoB s = false := by unfold hoB; rw [hm]; rfl
    have E := hid e
    clear e hm
    have x0 := X1.out.cell 0
    have x1 := X1.out.cell 1
    have x2 := X1.out.cell 2
    have x3 := X1.out.cell 3
    have x4 := X1.out.cell 4
    have x5 := X1.out.cell 5
    have x6 := X1.out.cell 6
    have x7 := X1.out.cell 7
    simp only [List.getElem?_toArray, List.getElem?_cons_zero, List.getElem?_cons_succ] at x0 x1 x2 x3 x4 x5 x6 x7
    go_wp2_with fail
    clear x0 x1 x2 x3 x4 x5 x6 x7
    go_ret
    exact ⟨by rw [E.out]; rfl, HB1.out⟩
  · have HM := hid hm
    clear hm
    by_cases hl : s.hp.objs.length < 12
    · have e : hoB s = false := by unfold hoB; rw [decide_eq_false (by omega : ¬ 12 ≤ s.hp.objs.length), Bool.and_false]; rfl
      have E := hid e
      clear e
      have hl' : ¬ (12 : Int) ≤ (s.hp.objs.length : Int) := by omega
      have x0 := X1.out.cell 0
      have x1 := X1.out.cell 1
      have x2 := X1.out.cell 2
      have x3 := X1.out.cell 3
      have x4 := X1.out.cell 4
      have x5 := X1.out.cell 5
      have x6 := X1.out.cell 6
      have x7 := X1.out.cell 7
      simp only [List.getElem?_toArray, List.getElem?_cons_zero, List.getElem?_cons_succ] at x0 x1 x2 x3 x4 x5 x6 x7
      go_wp2_with fail
      clear x0 x1 x2 x3 x4 x5 x6 x7
      go_ret
      exact ⟨by rw [E.out]; rfl, HB1.out⟩
    · have hl' : (12 : Int) ≤ (s.hp.objs.length : Int) := by omega
      have HL : Hid (12 ≤ s.hp.objs.length) := by show _ ≤ _; omega
      clear hl
      have x0 := X1.out.cell 0
      have x1 := X1.out.cell 1
      have x2 := X1.out.cell 2
      have x3 := X1.out.cell 3
      have x4 := X1.out.cell 4
      have x5 := X1.out.cell 5
      have x6 := X1.out.cell 6
      have x7 := X1.out.cell 7
      simp only [List.getElem?_toArray, List.getElem?_cons_zero, List.getElem?_cons_succ] at x0 x1 x2 x3 x4 x5 x6 x7
      go_wp2_with fail
      refine (isobj_any15 s.hp s.proc A c _).mono ?_
      rintro e w2 ⟨rfl, hb⟩
      clear x0 x1 x2 x3 x4 x5 x6 x7
      have HB2 := hid (then_w HB1.out hb)
      have X2 := hid (X1.out.later hb)
      have OX2 := hid (OX1.out.below hb)
      clear hb
      clear HB1 X1 OX1
      cases hp : refB s.hp.objs.length s.proc
      · have e : hoB s = false := by unfold hoB; rw [hp, Bool.and_false]; rfl
        have E := hid e
        clear e hp
        have x0 := X2.out.cell 0
        have x1 := X2.out.cell 1
        have x2 := X2.out.cell 2
        have x3 := X2.out.cell 3
        have x4 := X2.out.cell 4
        have x5 := X2.out.cell 5
        have x6 := X2.out.cell 6
        have x7 := X2.out.cell 7
        simp only [List.getElem?_toArray, List.getElem?_cons_zero, List.getElem?_cons_succ] at x0 x1 x2 x3 x4 x5 x6 x7
        go_wp2_with fail
        clear x0 x1 x2 x3 x4 x5 x6 x7
        go_ret
        exact ⟨by rw [E.out]; rfl, HB2.out⟩
      · have HP := hid hp
        clear hp
        have x0 := X2.out.cell 0
        have x1 := X2.out.cell 1
        have x2 := X2.out.cell 2
        have x3 := X2.out.cell 3
        have x4 := X2.out.cell 4
        have x5 := X2.out.cell 5
        have x6 := X2.out.cell 6
        have x7 := X2.out.cell 7
        simp only [List.getElem?_toArray, List.getElem?_cons_zero, List.getElem?_cons_succ] at x0 x1 x2 x3 x4 x5 x6 x7
        go_wp2_with fail
        refine (isobj_any15 s.hp s.ready A c _).mono ?_
        rintro e w3 ⟨rfl, hb⟩
        clear x0 x1 x2 x3 x4 x5 x6 x7
        have HB3 := hid (then_w HB2.out hb)
        have X3 := hid (X2.out.later hb)
        have OX3 := hid (OX2.out.below hb)
        clear hb
        clear HB2 X2 OX2
        have e : hoB s = refB s.hp.objs.length s.ready := by unfold hoB; rw [HM.out, decide_eq_true HL.out, HP.out]; rfl
        have E := hid e
        clear e
        have x0 := X3.out.cell 0
        have x1 := X3.out.cell 1
        have x2 := X3.out.cell 2
        have x3 := X3.out.cell 3
        have x4 := X3.out.cell 4
        have x5 := X3.out.cell 5
        have x6 := X3.out.cell 6
        have x7 := X3.out.cell 7
        simp only [List.getElem?_toArray, List.getElem?_cons_zero, List.getElem?_cons_succ] at x0 x1 x2 x3 x4 x5 x6 x7
        go_wp2_with fail
        clear x0 x1 x2 x3 x4 x5 x6 x7
        go_ret
        exact ⟨by rw [E.out]; rfl, HB3.out⟩
set_option maxHeartbeats 1500000 in
theorem bounds_any15 (s : St) (A : Option Addr) (c : Nat) (w : World) :
    Calls Tryz.prog 30 #[.agg #[.slice A s.hp.objs.length c, .int .i64 s.hp.cap, .int .i64 s.hp.last, .int .i64 s.proc, .int .i64 s.ready, .int .i64 s.halt, .int .i64 s.steps, .int .i64 s.used]] w fun e w' => e = .returned (.bool (boB s)) ∧ Below w.heap.size w w' := by
  obtain ⟨w0, hw0⟩ : ∃ w0, w0 = (w.alloc (.cells #[.slice A s.hp.objs.length c, .int .i64 s.hp.cap, .int .i64 s.hp.last, .int .i64 s.proc, .int .i64 s.ready, .int .i64 s.halt, .int .i64 s.steps, .int .i64 s.used] 27)) := ⟨_, rfl⟩
  have HB0 : Hid (Below w.heap.size w w0) := by show Below _ _ _; rw [hw0]; exact below_alloc w _
  have X0 : Hid (Lies w0 (w.heap.size) 27 #[.slice A s.hp.objs.length c, .int .i64 s.hp.cap, .int .i64 s.hp.last, .int .i64 s.proc, .int .i64 s.ready, .int .i64 s.halt, .int .i64 s.steps, .int .i64 s.used]) := by
    show Lies _ _ _ _
    rw [hw0]
    have := Lies.new w 27 #[.slice A s.hp.objs.length c, .int .i64 s.hp.cap, .int .i64 s.hp.last, .int .i64 s.proc, .int .i64 s.ready, .int .i64 s.halt, .int .i64 s.steps, .int .i64 s.used]
    simpa [Hid] using this
  go_enter Tryz.func30, Tryz.ntmps30
  go_upto_region 1 with fail
  rw [← hw0]
  clear hw0
  have x0 := X0.out.cell 0
  have x1 := X0.out.cell 1
  have x2 := X0.out.cell 2
  have x3 := X0.out.cell 3
  have x4 := X0.out.cell 4
  have x5 := X0.out.cell 5
  have x6 := X0.out.cell 6
  have x7 := X0.out.cell 7
  simp only [List.getElem?_toArray, List.getElem?_cons_zero, List.getElem?_cons_succ] at x0 x1 x2 x3 x4 x5 x6 x7
  go_wp2_with fail
  refine (upto_any15 s.halt 255 _).mono ?_
  rintro e w1 ⟨rfl, rfl⟩
  cases h1 : decide (0 ≤ s.halt ∧ s.halt ≤ 255)
  · have e : boB s = false := by unfold boB; rw [h1]; rfl
    have E := hid e
    clear e h1
    go_wp2_with fail
    clear x0 x1 x2 x3 x4 x5 x6 x7
    go_ret
    exact ⟨by rw [E.out]; rfl, HB0.out⟩
  · have H1 := hid h1
    clear h1
    go_wp2_with fail
    refine (upto_any15 s.steps 1099511627776 _).mono ?_
    rintro e w1 ⟨rfl, rfl⟩
    cases h2 : decide (0 ≤ s.steps ∧ s.steps ≤ 1099511627776)
    · have e : boB s = false := by unfold boB; rw [h2, Bool.and_false]; rfl
      have E := hid e
      clear e h2
      go_wp2_with fail
      clear x0 x1 x2 x3 x4 x5 x6 x7
      go_ret
      exact ⟨by rw [E.out]; rfl, HB0.out⟩
    · have H2 := hid h2
      clear h2
      go_wp2_with fail
      refine (upto_any15 s.used 1000 _).mono ?_
      rintro e w1 ⟨rfl, rfl⟩
      have e : boB s = (decide (0 ≤ s.used) && decide (s.used ≤ 1000)) := by unfold boB; rw [H1.out, H2.out, Bool.decide_and]; rfl
      have E := hid e
      clear e
      go_wp2_with fail
      clear x0 x1 x2 x3 x4 x5 x6 x7
      go_ret
      exact ⟨by rw [E.out]; rfl, HB0.out⟩
set_option maxHeartbeats 1500000 in
theorem cck_any15 (s : St) (A : Option Addr) (c : Nat) (w : World) (hsX : ObsR w A s.hp.objs) (fitX : s.hp.Fit) :
    Calls Tryz.prog 10 #[.agg #[.slice A s.hp.objs.length c, .int .i64 s.hp.cap, .int .i64 s.hp.last, .int .i64 s.proc, .int .i64 s.ready, .int .i64 s.halt, .int .i64 s.steps, .int .i64 s.used]] w fun e w' => e = .returned (.int .i64 (ckI s)) ∧ Below w.heap.size w w' := by
  obtain ⟨w0, hw0⟩ : ∃ w0, w0 = (w.alloc (.cells #[.slice A s.hp.objs.length c, .int .i64 s.hp.cap, .int .i64 s.hp.last, .int .i64 s.proc, .int .i64 s.ready, .int .i64 s.halt, .int .i64 s.steps, .int .i64 s.used] 27)) := ⟨_, rfl⟩
  have HB0 : Hid (Below w.heap.size w w0) := by show Below _ _ _; rw [hw0]; exact below_alloc w _
  have X0 : Hid (Lies w0 (w.heap.size) 27 #[.slice A s.hp.objs.length c, .int .i64 s.hp.cap, .int .i64 s.hp.last, .int .i64 s.proc, .int .i64 s.ready, .int .i64 s.halt, .int .i64 s.steps, .int .i64 s.used]) := by
    show Lies _ _ _ _
    rw [hw0]
    have := Lies.new w 27 #[.slice A s.hp.objs.length c, .int .i64 s.hp.cap, .int .i64 s.hp.last, .int .i64 s.proc, .int .i64 s.ready, .int .i64 s.halt, .int .i64 s.steps, .int .i64 s.used]
    simpa [Hid] using this
  have OX0 := hid (hsX.below HB0.out)
  have HFX := hid fitX
  have hflX := fitX.1
  clear hsX fitX
  go_enter Tryz.func10, Tryz.ntmps10
  go_upto_region 1 with fail
  rw [← hw0]
  clear hw0
  have x0 := X0.out.cell 0
  have x1 := X0.out.cell 1
  have x2 := X0.out.cell 2
  have x3 := X0.out.cell 3
  have x4 := X0.out.cell 4
  have x5 := X0.out.cell 5
  have x6 := X0.out.cell 6
  have x7 := X0.out.cell 7
  simp only [List.getElem?_toArray, List.getElem?_cons_zero, List.getElem?_cons_succ] at x0 x1 x2 x3 x4 x5 x6 x7
  go_wp2_with fail
  refine (holds_any15 s A c _ OX0.out HFX.out).mono ?_
  rintro e w1 ⟨rfl, hb⟩
  clear x0 x1 x2 x3 x4 x5 x6 x7
  have HB1 := hid (then_w HB0.out hb)
  have X1 := hid (X0.out.later hb)
  have OX1 := hid (OX0.out.below hb)
  clear hb
  clear HB0 X0 OX0
  cases hm : hoB s
  · have e : ckI s = 150 := ckI_no (by rw [ck_two, hm]; rfl)
    have E := hid e
    clear e hm
    have x0 := X1.out.cell 0
    have x1 := X1.out.cell 1
    have x2 := X1.out.cell 2
    have x3 := X1.out.cell 3
    have x4 := X1.out.cell 4
    have x5 := X1.out.cell 5
    have x6 := X1.out.cell 6
    have x7 := X1.out.cell 7
    simp only [List.getElem?_toArray, List.getElem?_cons_zero, List.getElem?_cons_succ] at x0 x1 x2 x3 x4 x5 x6 x7
    go_wp2_with fail
    clear x0 x1 x2 x3 x4 x5 x6 x7
    go_ret
    exact ⟨by rw [E.out]; rfl, HB1.out⟩
  · have HM := hid hm
    clear hm
    have x0 := X1.out.cell 0
    have x1 := X1.out.cell 1
    have x2 := X1.out.cell 2
    have x3 := X1.out.cell 3
    have x4 := X1.out.cell 4
    have x5 := X1.out.cell 5
    have x6 := X1.out.cell 6
    have x7 := X1.out.cell 7
    simp only [List.getElem?_toArray, List.getElem?_cons_zero, List.getElem?_cons_succ] at x0 x1 x2 x3 x4 x5 x6 x7
    go_wp2_with fail
    refine (bounds_any15 s A c _).mono ?_
    rintro e w2 ⟨rfl, hb⟩
    clear x0 x1 x2 x3 x4 x5 x6 x7
    have HB2 := hid (then_w HB1.out hb)
    have X2 := hid (X1.out.later hb)
    have OX2 := hid (OX1.out.below hb)
    clear hb
    clear HB1 X1 OX1
    cases hm : boB s
    · have e : ckI s = 150 := ckI_no (by rw [ck_two, hm, Bool.and_false])
      have E := hid e
      clear e hm
      have x0 := X2.out.cell 0
      have x1 := X2.out.cell 1
      have x2 := X2.out.cell 2
      have x3 := X2.out.cell 3
      have x4 := X2.out.cell 4
      have x5 := X2.out.cell 5
      have x6 := X2.out.cell 6
      have x7 := X2.out.cell 7
      simp only [List.getElem?_toArray, List.getElem?_cons_zero, List.getElem?_cons_succ] at x0 x1 x2 x3 x4 x5 x6 x7
      go_wp2_with fail
      clear x0 x1 x2 x3 x4 x5 x6 x7
      go_ret
      exact ⟨by rw [E.out]; rfl, HB2.out⟩
    · have e : ckI s = 0 := ckI_yes (by rw [ck_two, HM.out, hm]; rfl)
      have E := hid e
      clear e hm
      have x0 := X2.out.cell 0
      have x1 := X2.out.cell 1
      have x2 := X2.out.cell 2
      have x3 := X2.out.cell 3
      have x4 := X2.out.cell 4
      have x5 := X2.out.cell 5
      have x6 := X2.out.cell 6
      have x7 := X2.out.cell 7
      simp only [List.getElem?_toArray, List.getElem?_cons_zero, List.getElem?_cons_succ] at x0 x1 x2 x3 x4 x5 x6 x7
      go_wp2_with fail
      clear x0 x1 x2 x3 x4 x5 x6 x7
      go_ret
      exact ⟨by rw [E.out]; rfl, HB2.out⟩
end Go.Proofs.YtnilempeldlieaaGreat
namespace Go.Proofs.YtnilempeldlieaaGreat
open Go.RowKit
theorem at_one (w : World) (x : Int) : IntsR (w.alloc (.cells #[.int .i64 x] 3)) (some ⟨w.heap.size, 0, none⟩) [x] := fun _ => by
  refine ⟨w.heap.size, 0, rfl, by simp, fun j y hy => ?_⟩
  have := (Lies.new w 3 #[.int .i64 x]).cell j
  rw [Nat.zero_add, this]
  cases j with
  | zero => simp at hy ⊢; exact hy
  | succ j => simp at hy
theorem then_b {w v w' : World} (h : Below w.heap.size w v) (hb : Below v.heap.size v w') : Below w.heap.size w w' := h.trans (hb.mono h.size)
/-- a row of ints of the call's own is returned -/
def IntsOwn (w : World) (L : List Int) (e : Ending) (w' : World) : Prop :=
  ∃ A c, e = .returned (.slice A L.length c) ∧ w'.ownsRow w.heap.size 3 1 (.slice A L.length c) L.length (L.map (Value.int .i64)) ∧ Below w.heap.size w w'
theorem map_step (f : Int → Int) (l : List Int) (k : Nat) (hk : k < l.length) : ((l.take k).map f ++ l.drop k).set k (f l[k]) = (l.take (k + 1)).map f ++ l.drop (k + 1) := by
  have hk2 : ((l.take k).map f).length = k := by rw [List.length_map, List.length_take]; omega
  rw [List.set_append_right _ _ (by omega), hk2, Nat.sub_self, List.drop_eq_getElem_cons hk, List.set_cons_zero, List.take_succ_eq_append_getElem hk, List.map_append, List.append_assoc]
  rfl
end Go.Proofs.YtnilempeldlieaaGreat
namespace Go.Proofs.YtnilempeldlieaaGreat
open Go.RowKit
theorem wpList_append_one {w : World} {ops : Array Oper} {rest : List Oper} {o : Oper} {a : Act} {Q : Exit → Act → World → Prop} (hgd : o.guard = none) (s x : Operand)
    (ho : o.op = .call { callee := .builtin .append, args := #[s, x], argTypes := #[34, 34] }) (base : Nat)
    (v : Value) (n : Nat) (xs : List Int) (hs : a.eval s = v) (hown : w.ownsRow base 3 1 v n (xs.map (Value.int .i64))) (y : Int) (g : Nat) (hx : a.eval x = .slice (some ⟨g, 0, none⟩) 1 1) (hg : Lies w g 3 #[.int .i64 y])
    (hn : n ≤ 1000000) (hbase : base ≤ w.heap.size)
    (h : ∀ v' w', w'.ownsRow base 3 1 v' (n + 1) ((xs ++ [y]).map (Value.int .i64)) → w.grownBy w' v.ownBlock → wpList Tryz.prog ops Q rest (a.put o.dst v') w') : wpList Tryz.prog ops Q (o :: rest) a w := by
  obtain ⟨i0, hi0, hz0, hz1, hz2⟩ := info_parts int_info
  refine wpList_append_own _ hgd s x 34 ho base 3 i0 (.int .i64 0) 1 8 Tryz.underlying34 hi0 hz0 hz1 hz2 rfl (by decide) _ _ _ hs hown ⟨g, 0, none⟩ 1 1 [.int .i64 y] hx rfl ?_ ?_ (by unfold maxLen; omega) (by omega) hbase ?_
  · intro j u hu
    have := hg.cell j
    rw [Addr.add_lit, Nat.zero_add, this]
    simpa using hu
  · intro u hu
    obtain rfl : u = .int .i64 y := by simpa using hu
    rfl
  · intro v' w' h1 h2 _
    exact h v' w' (by simpa using h1) h2
/-- a list of the call's own, begun empty -/
theorem own_empty (w : World) : (w.alloc (.cells #[] 3)).ownsRow w.heap.size 3 1 (.slice (some ⟨w.heap.size, 0, none⟩) 0 0) 0 (([] : List Int).map (Value.int .i64)) := by
  have := World.ownsRow_made (e := 3) (size := 1) (base := w.heap.size) w #[] 0 (Nat.le_refl _) (Nat.zero_le _) rfl
  simpa using this
end Go.Proofs.YtnilempeldlieaaGreat
namespace Go.Proofs.YtnilempeldlieaaGreat
open Go.RowKit
set_option maxRecDepth 100000
theorem lies_ints15 {w : World} {g : Nat} {l : List Int} {cs : Array Value} (hl : Lies w g 3 cs) (hc : cs.toList = l.map (Value.int .i64)) : IntsR w (some ⟨g, 0, none⟩) l := fun _ => by
  refine ⟨g, 0, rfl, hl.lt, fun j x hx => ?_⟩
  rw [Nat.zero_add, hl.cell, ← Array.getElem?_toList, hc, List.getElem?_map, hx]; rfl
theorem sp_take {k : Nat} (hk : k < 12) : sp15.take (k + 1) = sp15.take k ++ [reV (k : Int)] := by
  have : ∀ k, k < 12 → sp15.take (k + 1) = sp15.take k ++ [reV (k : Int)] := by decide
  exact this k hk
set_option maxHeartbeats 1500000 in
theorem roots_any15 (s : St) (A : Option Addr) (c : Nat) (w : World) (hsX : ObsR w A s.hp.objs) (fitX : s.hp.Fit) :
    Calls Tryz.prog 27 #[.agg #[.slice A s.hp.objs.length c, .int .i64 s.hp.cap, .int .i64 s.hp.last, .int .i64 s.proc, .int .i64 s.ready, .int .i64 s.halt, .int .i64 s.steps, .int .i64 s.used]] w (IntsOwn w (rt15 s)) := by
  obtain ⟨w0, hw0⟩ : ∃ w0, w0 = (w.alloc (.cells #[.slice A s.hp.objs.length c, .int .i64 s.hp.cap, .int .i64 s.hp.last, .int .i64 s.proc, .int .i64 s.ready, .int .i64 s.halt, .int .i64 s.steps, .int .i64 s.used] 27)) := ⟨_, rfl⟩
  have HB0 : Hid (Below w.heap.size w w0) := by show Below _ _ _; rw [hw0]; exact below_alloc w _
  have X0 : Hid (Lies w0 (w.heap.size) 27 #[.slice A s.hp.objs.length c, .int .i64 s.hp.cap, .int .i64 s.hp.last, .int .i64 s.proc, .int .i64 s.ready, .int .i64 s.halt, .int .i64 s.steps, .int .i64 s.used]) := by
    show Lies _ _ _ _
    rw [hw0]
    have := Lies.new w 27 #[.slice A s.hp.objs.length c, .int .i64 s.hp.cap, .int .i64 s.hp.last, .int .i64 s.proc, .int .i64 s.ready, .int .i64 s.halt, .int .i64 s.steps, .int .i64 s.used]
    simpa [Hid] using this
  have OX0 := hid (hsX.below HB0.out)
  have HFX := hid fitX
  have hflX := fitX.1
  clear hsX fitX
  go_enter Tryz.func27, Tryz.ntmps27
  go_upto_region 1 with fail
  rw [← hw0]
  clear hw0
  go_wp2_with fail
  go_loopw [7, 3] (fun i l wr => ∃ (k : Nat) (A3 : Option Addr) (c3 : Nat), k ≤ 12 ∧ i = .int .i64 k ∧ l = .slice A3 k c3 ∧ wr.ownsRow w0.heap.size 3 1 (.slice A3 k c3) k ((sp15.take k).map (Value.int .i64)) ∧ Below w0.heap.size w0 wr) (fun i _ _ => 12 - (intOf i).toNat)
  case atStart => exact ⟨0, none, 0, Nat.zero_le _, rfl, rfl, World.ownsRow_nil _ _ _ _, Below.refl _ _⟩
  case round =>
    rename World => w2
    obtain ⟨k, A3, c3, hk, rfl, rfl, hown, hbw⟩ := hrel
    have HW := hid hbw
    have HO := hid hown
    clear hown hbw
    by_cases hlt : k < 12
    · have HTK := hid (sp_take hlt)
      have hlt' : (k : Int) < 12 := by omega
      have hz := HW.out.size
      obtain ⟨y, hy⟩ : ∃ y, y = reV (k : Int) := ⟨_, rfl⟩
      rw [← hy] at HTK
      have HY := hid hy
      clear hy
      have HAL := hid (below_alloc w2 (.cells #[.int .i64 y] 3))
      have HO3 := hid (own_later HO.out HAL.out)
      have HN := hid (Lies.new w2 3 #[.int .i64 y])
      have hz2 : w0.heap.size ≤ (w2.alloc (.cells #[.int .i64 y] 3)).heap.size := by simp; omega
      go_wp2_with (first | (go_at_call 52; refine (ref_any _ _).mono ?_; rintro e w' ⟨rfl, rfl⟩; rw [← HY.out]) | (at_builtin; refine wpList_append_one rfl (.tmp 15) (.tmp 17) rfl w0.heap.size _ _ _ rfl HO3.out _ _ rfl HN.out (by omega) hz2 ?_))
      intro v' w' h1 h2
      obtain ⟨A4, c4, rfl⟩ := own_form h1
      have h1 : w'.ownsRow w0.heap.size 3 1 (.slice A4 (k + 1) c4) (k + 1) ((sp15.take (k + 1)).map (Value.int .i64)) := by rw [HTK.out, List.map_append, List.map_take]; exact h1
      have hb2 := HW.out.trans ((HAL.out.mono hz).grown h2 hz2 (fun q hq => (HO3.out.lt q hq).1))
      have H1 := hid h1
      have HB2 := hid hb2
      clear h1 h2 hb2
      go_wp2_with fail
      go_roundw
      case rel => exact ⟨k + 1, A4, c4, by omega, by go_num, rfl, H1.out, HB2.out⟩
      case measure => simp [intOf]; omega
    · obtain rfl : k = 12 := by omega
      have HAL := hid (below_alloc w2 (.cells #[.int .i64 s.proc, .int .i64 s.ready] 3))
      have HO3 := hid (own_later HO.out HAL.out)
      have HN := hid (Lies.new w2 3 #[.int .i64 s.proc, .int .i64 s.ready])
      have hz := HW.out.size
      have hz2 : w0.heap.size ≤ (w2.alloc (.cells #[.int .i64 s.proc, .int .i64 s.ready] 3)).heap.size := by simp; omega
      have X2 := hid (X0.out.later HW.out)
      have x3 := X2.out.cell 3
      have x4 := X2.out.cell 4
      simp only [List.getElem?_toArray, List.getElem?_cons_zero, List.getElem?_cons_succ] at x3 x4
      obtain ⟨i0, hi0, hz0, hz1, hz3⟩ := info_parts int_info
      have HIN := hid (lies_ints15 (l := [s.proc, s.ready]) HN.out rfl)
      go_wp2_with (at_builtin; refine wpList_append_ints rfl (.tmp 20) (.tmp 25) 34 rfl w0.heap.size i0 Tryz.underlying34 hi0 hz0 hz1 hz3 _ _ _ rfl HO3.out _ _ [s.proc, s.ready] rfl HIN.out (fun h => by cases h) (by simp) hz2 ?_)
      intro v' w' h1 h2
      obtain ⟨A4, c4, rfl⟩ := own_form h1
      have hb2 := HW.out.trans ((HAL.out.mono hz).grown h2 hz2 (fun q hq => (HO3.out.lt q hq).1))
      have H1 := hid h1
      have HB2 := hid (HB0.out.trans (hb2.mono HB0.out.size))
      clear h1 h2 hb2
      go_wp2_with fail
      go_ret
      exact ⟨A4, c4, rfl, own_lower H1.out HB0.out.size, HB2.out⟩
def rtL (s : St) : List Int := if ckB s = true then rt15 s else []
theorem rtL_yes {s : St} (h : ckB s = true) : rtL s = rt15 s := by unfold rtL; rw [if_pos h]
theorem rtL_no {s : St} (h : ckB s = false) : rtL s = [] := by unfold rtL; rw [if_neg (by rw [h]; decide)]
theorem rtL_le (s : St) : (rtL s).length ≤ 14 := by unfold rtL; split; exact Nat.le_refl 14; exact Nat.zero_le _
def IntsOf15 (w : World) (l : List Int) (e : Ending) (w' : World) : Prop := ∃ A c, e = .returned (.slice A l.length c) ∧ IntsR w' A l ∧ Below w.heap.size w w'
set_option maxHeartbeats 1500000 in
theorem croots_any15 (s : St) (A : Option Addr) (c : Nat) (w : World) (hsX : ObsR w A s.hp.objs) (fitX : s.hp.Fit) :
    Calls Tryz.prog 13 #[.agg #[.slice A s.hp.objs.length c, .int .i64 s.hp.cap, .int .i64 s.hp.last, .int .i64 s.proc, .int .i64 s.ready, .int .i64 s.halt, .int .i64 s.steps, .int .i64 s.used]] w (IntsOf15 w (rtL s)) := by
  obtain ⟨w0, hw0⟩ : ∃ w0, w0 = (w.alloc (.cells #[.slice A s.hp.objs.length c, .int .i64 s.hp.cap, .int .i64 s.hp.last, .int .i64 s.proc, .int .i64 s.ready, .int .i64 s.halt, .int .i64 s.steps, .int .i64 s.used] 27)) := ⟨_, rfl⟩
  have HB0 : Hid (Below w.heap.size w w0) := by show Below _ _ _; rw [hw0]; exact below_alloc w _
  have X0 : Hid (Lies w0 (w.heap.size) 27 #[.slice A s.hp.objs.length c, .int .i64 s.hp.cap, .int .i64 s.hp.last, .int .i64 s.proc, .int .i64 s.ready, .int .i64 s.halt, .int .i64 s.steps, .int .i64 s.used]) := by
    show Lies _ _ _ _
    rw [hw0]
    have := Lies.new w 27 #[.slice A s.hp.objs.length c, .int .i64 s.hp.cap, .int .i64 s.hp.last, .int .i64 s.proc, .int .i64 s.ready, .int .i64 s.halt, .int .i64 s.steps, .int .i64 s.used]
    simpa [Hid] using this
  have OX0 := hid (hsX.below HB0.out)
  have HFX := hid fitX
  have hflX := fitX.1
  obtain ⟨cI, hcI⟩ : ∃ x, x = ckI s := ⟨_, rfl⟩
  have HCI := hid hcI
  clear hcI
  clear hsX fitX
  go_enter Tryz.func13, Tryz.ntmps13
  go_upto_region 1 with fail
  rw [← hw0]
  clear hw0
  have x0 := X0.out.cell 0
  have x1 := X0.out.cell 1
  have x2 := X0.out.cell 2
  have x3 := X0.out.cell 3
  have x4 := X0.out.cell 4
  have x5 := X0.out.cell 5
  have x6 := X0.out.cell 6
  have x7 := X0.out.cell 7
  simp only [List.getElem?_toArray, List.getElem?_cons_zero, List.getElem?_cons_succ] at x0 x1 x2 x3 x4 x5 x6 x7
  go_wp2_with fail
  refine (cck_any15 s A c _ OX0.out HFX.out).mono ?_
  rintro e w1 ⟨rfl, hb⟩
  clear x0 x1 x2 x3 x4 x5 x6 x7
  rw [← HCI.out]
  have HB1 := hid (then_w HB0.out hb)
  have X1 := hid (X0.out.later hb)
  have OX1 := hid (OX0.out.below hb)
  clear hb
  clear HB0 X0 OX0
  cases hm : ckB s
  · obtain rfl : cI = 150 := HCI.out.trans (ckI_no hm)
    have E := hid (rtL_no hm)
    clear hm
    have x0 := X1.out.cell 0
    have x1 := X1.out.cell 1
    have x2 := X1.out.cell 2
    have x3 := X1.out.cell 3
    have x4 := X1.out.cell 4
    have x5 := X1.out.cell 5
    have x6 := X1.out.cell 6
    have x7 := X1.out.cell 7
    simp only [List.getElem?_toArray, List.getElem?_cons_zero, List.getElem?_cons_succ] at x0 x1 x2 x3 x4 x5 x6 x7
    go_wp2_with fail
    clear x0 x1 x2 x3 x4 x5 x6 x7
    go_ret
    exact ⟨none, 0, by rw [E.out]; rfl, by rw [E.out]; exact fun h => absurd h (by decide), HB1.out⟩
  · obtain rfl : cI = 0 := HCI.out.trans (ckI_yes hm)
    have E := hid (rtL_yes hm)
    clear hm
    have x0 := X1.out.cell 0
    have x1 := X1.out.cell 1
    have x2 := X1.out.cell 2
    have x3 := X1.out.cell 3
    have x4 := X1.out.cell 4
    have x5 := X1.out.cell 5
    have x6 := X1.out.cell 6
    have x7 := X1.out.cell 7
    simp only [List.getElem?_toArray, List.getElem?_cons_zero, List.getElem?_cons_succ] at x0 x1 x2 x3 x4 x5 x6 x7
    go_wp2_with fail
    refine (roots_any15 s A c _ OX1.out HFX.out).mono ?_
    rintro e w2 ⟨A2, c2, rfl, ho, hb⟩
    clear x0 x1 x2 x3 x4 x5 x6 x7
    have HO := hid ho
    clear ho
    have HB2 := hid (then_w HB1.out hb)
    have X2 := hid (X1.out.later hb)
    have OX2 := hid (OX1.out.below hb)
    clear hb
    clear HB1 X1 OX1
    go_wp2_with fail
    go_ret
    exact ⟨A2, c2, by rw [E.out]; rfl, by rw [E.out]; exact own_ints HO.out, HB2.out⟩
end Go.Proofs.YtnilempeldlieaaGreat
namespace Go.Proofs.YtnilempeldlieaaGreat
open Go.RowKit
set_option maxRecDepth 100000
/-- slices.Equal at []int -/
theorem equal_any (xs ys : List Int) (A B : Option Addr) (c d : Nat) (w : World) (ha : IntsR w A xs) (hb : IntsR w B ys) (hx : xs.length ≤ 9223372036854775807) :
    Calls Tryz.prog 65 #[.slice A xs.length c, .slice B ys.length d] w fun e w' => e = .returned (.bool (decide (xs = ys))) ∧ Below w.heap.size w w' := by
  have HA := hid ha
  have HB := hid hb
  clear ha hb
  by_cases hlen : xs.length = ys.length
  · go_enter Tryz.func65, Tryz.ntmps65
    go_wp2
    go_loopw [13] (fun i wr => ∃ k : Nat, k ≤ xs.length ∧ i = .int .i64 k ∧ xs.take k = ys.take k ∧ Below w.heap.size w wr) (fun i _ => xs.length - (intOf i).toNat)
    case atStart => exact ⟨0, Nat.zero_le _, rfl, rfl, Below.refl _ _⟩
    case round =>
      obtain ⟨k, hk, rfl, heq, hbw⟩ := hrel
      have HW := hid hbw
      have HE := hid heq
      clear hbw heq
      by_cases hlt : k < xs.length
      · obtain ⟨bs, os, rfl, hbs, hcs⟩ := HA.out (by omega)
        obtain ⟨bt, ot, rfl, hbt, hct⟩ := HB.out (by omega)
        have hlt' : k < ys.length := by omega
        have hcell : wr.cell? ⟨bs, os + k, none⟩ = some (.int .i64 xs[k]) := (HW.out.cell (p := ⟨bs, os + k, none⟩) hbs).trans (hcs k _ (List.getElem?_eq_getElem hlt))
        have hcelt : wr.cell? ⟨bt, ot + k, none⟩ = some (.int .i64 ys[k]) := (HW.out.cell (p := ⟨bt, ot + k, none⟩) hbt).trans (hct k _ (List.getElem?_eq_getElem hlt'))
        clear hcs hct
        by_cases he : xs[k] = ys[k]
        · have HXY : Hid (xs.take (k + 1) = ys.take (k + 1)) := by show _ = _; rw [List.take_succ_eq_append_getElem hlt, List.take_succ_eq_append_getElem hlt', HE.out, he]
          rw [he] at hcell
          go_wp2
          go_quiet (fail)
          go_wp2
          go_roundw
          case rel => exact ⟨k + 1, by omega, by go_num, HXY.out, below_go HW.out HW.out.size (below_drewN _ _)⟩
          case measure => simp [intOf]; omega
        · have hne : (xs[k] != ys[k]) = true := by simpa using he
          have HNE := hid he
          go_wp2
          go_quiet (fail)
          go_wp2
          go_ret
          refine ⟨?_, below_go HW.out HW.out.size (below_drewN _ _)⟩
          have : ¬ xs = ys := fun e => HNE.out (by simp [e])
          simp [this]
      · have hkn : k = xs.length := by omega
        go_wp2
        go_ret
        refine ⟨?_, HW.out⟩
        have : xs = ys := by
          have := HE.out
          rwa [hkn, List.take_length, hlen, List.take_length] at this
        simp [this]
  · have hne : (((xs.length : Int)) != (ys.length : Int)) = true := by simp; omega
    have hne2 : ¬ xs = ys := fun e => hlen (by rw [e])
    go_enter Tryz.func65, Tryz.ntmps65
    go_wp2
    go_ret
    exact ⟨by simp [hne2], Below.refl _ _⟩
end Go.Proofs.YtnilempeldlieaaGreat
