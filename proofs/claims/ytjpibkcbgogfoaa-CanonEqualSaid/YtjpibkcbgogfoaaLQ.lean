/- CanonEqual walked: whatever three heaps with roots, it answers true. -/
import Derived.Test.YtjpibkcbgogfoaaFX6
import Derived.Test.YtjpibkcbgogfoaaN
import Derived.Test.YtjpibkcbgogfoaaEA
namespace Go.Proofs.Ytjpibkcbgogfoaa
open Go.RowKit
set_option maxRecDepth 100000
set_option maxHeartbeats 12000000 in
theorem cequal_any (a b h : Hp) (p q r : List Int) (A P B Q H R : Option Addr) (ca cp cb cq ch cr : Nat) (w : World) (hs0 : ObsR w A a.objs) (ft0 : a.Fit) (hr0 : IntsR w P p) (nl0 : P = none → cp = 0) (hl0 : p.length ≤ 9223372036854775807) (hs1 : ObsR w B b.objs) (ft1 : b.Fit) (hr1 : IntsR w Q q) (nl1 : Q = none → cq = 0) (hl1 : q.length ≤ 9223372036854775807) (hs2 : ObsR w H h.objs) (ft2 : h.Fit) (hr2 : IntsR w R r) (nl2 : R = none → cr = 0) (hl2 : r.length ≤ 9223372036854775807) :
    Calls Try.prog 13 #[.agg #[.slice A a.objs.length ca, .int .i64 a.cap, .int .i64 a.last, .slice P p.length cp], .agg #[.slice B b.objs.length cb, .int .i64 b.cap, .int .i64 b.last, .slice Q q.length cq], .agg #[.slice H h.objs.length ch, .int .i64 h.cap, .int .i64 h.last, .slice R r.length cr]] w fun e w' => e = .returned (.bool true) ∧ Below w.heap.size w w' := by
  obtain ⟨w0, hw0⟩ : ∃ w0, w0 = (((w.alloc (.cells #[.slice A a.objs.length ca, .int .i64 a.cap, .int .i64 a.last, .slice P p.length cp] 53)).alloc (.cells #[.slice B b.objs.length cb, .int .i64 b.cap, .int .i64 b.last, .slice Q q.length cq] 53)).alloc (.cells #[.slice H h.objs.length ch, .int .i64 h.cap, .int .i64 h.last, .slice R r.length cr] 53)) := ⟨_, rfl⟩
  have HB0 : Hid (Below w.heap.size w w0) := by show Below _ _ _; rw [hw0]; exact (below_alloc2 w _ _).alloc (by simp; omega) _
  have X0 : Hid (Lies w0 (w.heap.size) 53 #[.slice A a.objs.length ca, .int .i64 a.cap, .int .i64 a.last, .slice P p.length cp]) := by
    show Lies _ _ _ _
    rw [hw0]
    have := ((Lies.new w 53 #[.slice A a.objs.length ca, .int .i64 a.cap, .int .i64 a.last, .slice P p.length cp]).alloc (.cells #[.slice B b.objs.length cb, .int .i64 b.cap, .int .i64 b.last, .slice Q q.length cq] 53)).alloc (.cells #[.slice H h.objs.length ch, .int .i64 h.cap, .int .i64 h.last, .slice R r.length cr] 53)
    simpa using this
  have OX0 := hid (hs0.below HB0.out)
  have RX0 := hid (hr0.below HB0.out)
  have HFX := hid ft0
  have hfl0 := ft0.1
  have HNX := hid nl0
  have Y0 : Hid (Lies w0 (w.heap.size + 1) 53 #[.slice B b.objs.length cb, .int .i64 b.cap, .int .i64 b.last, .slice Q q.length cq]) := by
    show Lies _ _ _ _
    rw [hw0]
    have := (Lies.new (w.alloc (.cells #[.slice A a.objs.length ca, .int .i64 a.cap, .int .i64 a.last, .slice P p.length cp] 53)) 53 #[.slice B b.objs.length cb, .int .i64 b.cap, .int .i64 b.last, .slice Q q.length cq]).alloc (.cells #[.slice H h.objs.length ch, .int .i64 h.cap, .int .i64 h.last, .slice R r.length cr] 53)
    simpa using this
  have OY0 := hid (hs1.below HB0.out)
  have RY0 := hid (hr1.below HB0.out)
  have HFY := hid ft1
  have hfl1 := ft1.1
  have HNY := hid nl1
  have Z0 : Hid (Lies w0 (w.heap.size + 1 + 1) 53 #[.slice H h.objs.length ch, .int .i64 h.cap, .int .i64 h.last, .slice R r.length cr]) := by
    show Lies _ _ _ _
    rw [hw0]
    have := Lies.new ((w.alloc (.cells #[.slice A a.objs.length ca, .int .i64 a.cap, .int .i64 a.last, .slice P p.length cp] 53)).alloc (.cells #[.slice B b.objs.length cb, .int .i64 b.cap, .int .i64 b.last, .slice Q q.length cq] 53)) 53 #[.slice H h.objs.length ch, .int .i64 h.cap, .int .i64 h.last, .slice R r.length cr]
    simpa using this
  have OZ0 := hid (hs2.below HB0.out)
  have RZ0 := hid (hr2.below HB0.out)
  have HFZ := hid ft2
  have hfl2 := ft2.1
  have HNZ := hid nl2
  clear hs0 ft0 hr0 nl0 hs1 ft1 hr1 nl1 hs2 ft2 hr2 nl2
  go_enter Try.func13, Try.ntmps13
  go_upto_region 1 with fail
  rw [← hw0]
  clear hw0
  have x0 := X0.out.cell 0
  have x1 := X0.out.cell 1
  have x2 := X0.out.cell 2
  have x3 := X0.out.cell 3
  have y0 := Y0.out.cell 0
  have y1 := Y0.out.cell 1
  have y2 := Y0.out.cell 2
  have y3 := Y0.out.cell 3
  have z0 := Z0.out.cell 0
  have z1 := Z0.out.cell 1
  have z2 := Z0.out.cell 2
  have z3 := Z0.out.cell 3
  simp only [List.getElem?_toArray, List.getElem?_cons_zero, List.getElem?_cons_succ] at x0 x1 x2 x3 y0 y1 y2 y3 z0 z1 z2 z3
  go_wp2_with fail
  refine (fixed6_any _).mono ?_
  rintro e w1 ⟨rfl, hb⟩
  have HB1 := hid (HB0.out.trans (hb.mono HB0.out.size))
  have X1 := hid (X0.out.later hb)
  have Y1 := hid (Y0.out.later hb)
  have Z1 := hid (Z0.out.later hb)
  have OX1 := hid (OX0.out.below hb)
  have RX1 := hid (RX0.out.below hb)
  have OY1 := hid (OY0.out.below hb)
  have RY1 := hid (RY0.out.below hb)
  have OZ1 := hid (OZ0.out.below hb)
  have RZ1 := hid (RZ0.out.below hb)
  clear x0 x1 x2 x3 y0 y1 y2 y3 z0 z1 z2 z3
  clear hb
  have x0 := X1.out.cell 0
  have x1 := X1.out.cell 1
  have x2 := X1.out.cell 2
  have x3 := X1.out.cell 3
  have y0 := Y1.out.cell 0
  have y1 := Y1.out.cell 1
  have y2 := Y1.out.cell 2
  have y3 := Y1.out.cell 3
  have z0 := Z1.out.cell 0
  have z1 := Z1.out.cell 1
  have z2 := Z1.out.cell 2
  have z3 := Z1.out.cell 3
  simp only [List.getElem?_toArray, List.getElem?_cons_zero, List.getElem?_cons_succ] at x0 x1 x2 x3 y0 y1 y2 y3 z0 z1 z2 z3
  go_wp2_with fail
  refine (small_ok a A ca _ OX1.out HFX.out).mono ?_
  rintro e w2 ⟨sm, rfl, hb⟩
  have HB2 := hid (HB1.out.trans (hb.mono HB1.out.size))
  have X2 := hid (X1.out.later hb)
  have Y2 := hid (Y1.out.later hb)
  have Z2 := hid (Z1.out.later hb)
  have OX2 := hid (OX1.out.below hb)
  have RX2 := hid (RX1.out.below hb)
  have OY2 := hid (OY1.out.below hb)
  have RY2 := hid (RY1.out.below hb)
  have OZ2 := hid (OZ1.out.below hb)
  have RZ2 := hid (RZ1.out.below hb)
  clear x0 x1 x2 x3 y0 y1 y2 y3 z0 z1 z2 z3
  clear hb
  have x0 := X2.out.cell 0
  have x1 := X2.out.cell 1
  have x2 := X2.out.cell 2
  have x3 := X2.out.cell 3
  have y0 := Y2.out.cell 0
  have y1 := Y2.out.cell 1
  have y2 := Y2.out.cell 2
  have y3 := Y2.out.cell 3
  have z0 := Z2.out.cell 0
  have z1 := Z2.out.cell 1
  have z2 := Z2.out.cell 2
  have z3 := Z2.out.cell 3
  simp only [List.getElem?_toArray, List.getElem?_cons_zero, List.getElem?_cons_succ] at x0 x1 x2 x3 y0 y1 y2 y3 z0 z1 z2 z3
  cases sm
  · go_wp2_with fail
    refine (fixed6_any _).mono ?_
    rintro e w3 ⟨rfl, hb⟩
    have HB3 := hid (HB2.out.trans (hb.mono HB2.out.size))
    have X3 := hid (X2.out.later hb)
    have Y3 := hid (Y2.out.later hb)
    have Z3 := hid (Z2.out.later hb)
    have OX3 := hid (OX2.out.below hb)
    have RX3 := hid (RX2.out.below hb)
    have OY3 := hid (OY2.out.below hb)
    have RY3 := hid (RY2.out.below hb)
    have OZ3 := hid (OZ2.out.below hb)
    have RZ3 := hid (RZ2.out.below hb)
    clear x0 x1 x2 x3 y0 y1 y2 y3 z0 z1 z2 z3
    clear hb
    have x0 := X3.out.cell 0
    have x1 := X3.out.cell 1
    have x2 := X3.out.cell 2
    have x3 := X3.out.cell 3
    have y0 := Y3.out.cell 0
    have y1 := Y3.out.cell 1
    have y2 := Y3.out.cell 2
    have y3 := Y3.out.cell 3
    have z0 := Z3.out.cell 0
    have z1 := Z3.out.cell 1
    have z2 := Z3.out.cell 2
    have z3 := Z3.out.cell 3
    simp only [List.getElem?_toArray, List.getElem?_cons_zero, List.getElem?_cons_succ] at x0 x1 x2 x3 y0 y1 y2 y3 z0 z1 z2 z3
    go_wp2_with fail
    go_ret
    exact ⟨rfl, HB3.out⟩
  · go_wp2_with fail
    refine (small_ok b B cb _ OY2.out HFY.out).mono ?_
    rintro e w3 ⟨sm, rfl, hb⟩
    have HB3 := hid (HB2.out.trans (hb.mono HB2.out.size))
    have X3 := hid (X2.out.later hb)
    have Y3 := hid (Y2.out.later hb)
    have Z3 := hid (Z2.out.later hb)
    have OX3 := hid (OX2.out.below hb)
    have RX3 := hid (RX2.out.below hb)
    have OY3 := hid (OY2.out.below hb)
    have RY3 := hid (RY2.out.below hb)
    have OZ3 := hid (OZ2.out.below hb)
    have RZ3 := hid (RZ2.out.below hb)
    clear x0 x1 x2 x3 y0 y1 y2 y3 z0 z1 z2 z3
    clear hb
    have x0 := X3.out.cell 0
    have x1 := X3.out.cell 1
    have x2 := X3.out.cell 2
    have x3 := X3.out.cell 3
    have y0 := Y3.out.cell 0
    have y1 := Y3.out.cell 1
    have y2 := Y3.out.cell 2
    have y3 := Y3.out.cell 3
    have z0 := Z3.out.cell 0
    have z1 := Z3.out.cell 1
    have z2 := Z3.out.cell 2
    have z3 := Z3.out.cell 3
    simp only [List.getElem?_toArray, List.getElem?_cons_zero, List.getElem?_cons_succ] at x0 x1 x2 x3 y0 y1 y2 y3 z0 z1 z2 z3
    cases sm
    · go_wp2_with fail
      refine (fixed6_any _).mono ?_
      rintro e w4 ⟨rfl, hb⟩
      have HB4 := hid (HB3.out.trans (hb.mono HB3.out.size))
      have X4 := hid (X3.out.later hb)
      have Y4 := hid (Y3.out.later hb)
      have Z4 := hid (Z3.out.later hb)
      have OX4 := hid (OX3.out.below hb)
      have RX4 := hid (RX3.out.below hb)
      have OY4 := hid (OY3.out.below hb)
      have RY4 := hid (RY3.out.below hb)
      have OZ4 := hid (OZ3.out.below hb)
      have RZ4 := hid (RZ3.out.below hb)
      clear x0 x1 x2 x3 y0 y1 y2 y3 z0 z1 z2 z3
      clear hb
      have x0 := X4.out.cell 0
      have x1 := X4.out.cell 1
      have x2 := X4.out.cell 2
      have x3 := X4.out.cell 3
      have y0 := Y4.out.cell 0
      have y1 := Y4.out.cell 1
      have y2 := Y4.out.cell 2
      have y3 := Y4.out.cell 3
      have z0 := Z4.out.cell 0
      have z1 := Z4.out.cell 1
      have z2 := Z4.out.cell 2
      have z3 := Z4.out.cell 3
      simp only [List.getElem?_toArray, List.getElem?_cons_zero, List.getElem?_cons_succ] at x0 x1 x2 x3 y0 y1 y2 y3 z0 z1 z2 z3
      go_wp2_with fail
      go_ret
      exact ⟨rfl, HB4.out⟩
    · go_wp2_with fail
      refine (small_ok h H ch _ OZ3.out HFZ.out).mono ?_
      rintro e w4 ⟨sm, rfl, hb⟩
      have HB4 := hid (HB3.out.trans (hb.mono HB3.out.size))
      have X4 := hid (X3.out.later hb)
      have Y4 := hid (Y3.out.later hb)
      have Z4 := hid (Z3.out.later hb)
      have OX4 := hid (OX3.out.below hb)
      have RX4 := hid (RX3.out.below hb)
      have OY4 := hid (OY3.out.below hb)
      have RY4 := hid (RY3.out.below hb)
      have OZ4 := hid (OZ3.out.below hb)
      have RZ4 := hid (RZ3.out.below hb)
      clear x0 x1 x2 x3 y0 y1 y2 y3 z0 z1 z2 z3
      clear hb
      have x0 := X4.out.cell 0
      have x1 := X4.out.cell 1
      have x2 := X4.out.cell 2
      have x3 := X4.out.cell 3
      have y0 := Y4.out.cell 0
      have y1 := Y4.out.cell 1
      have y2 := Y4.out.cell 2
      have y3 := Y4.out.cell 3
      have z0 := Z4.out.cell 0
      have z1 := Z4.out.cell 1
      have z2 := Z4.out.cell 2
      have z3 := Z4.out.cell 3
      simp only [List.getElem?_toArray, List.getElem?_cons_zero, List.getElem?_cons_succ] at x0 x1 x2 x3 y0 y1 y2 y3 z0 z1 z2 z3
      cases sm
      · go_wp2_with fail
        refine (fixed6_any _).mono ?_
        rintro e w5 ⟨rfl, hb⟩
        have HB5 := hid (HB4.out.trans (hb.mono HB4.out.size))
        have X5 := hid (X4.out.later hb)
        have Y5 := hid (Y4.out.later hb)
        have Z5 := hid (Z4.out.later hb)
        have OX5 := hid (OX4.out.below hb)
        have RX5 := hid (RX4.out.below hb)
        have OY5 := hid (OY4.out.below hb)
        have RY5 := hid (RY4.out.below hb)
        have OZ5 := hid (OZ4.out.below hb)
        have RZ5 := hid (RZ4.out.below hb)
        clear x0 x1 x2 x3 y0 y1 y2 y3 z0 z1 z2 z3
        clear hb
        have x0 := X5.out.cell 0
        have x1 := X5.out.cell 1
        have x2 := X5.out.cell 2
        have x3 := X5.out.cell 3
        have y0 := Y5.out.cell 0
        have y1 := Y5.out.cell 1
        have y2 := Y5.out.cell 2
        have y3 := Y5.out.cell 3
        have z0 := Z5.out.cell 0
        have z1 := Z5.out.cell 1
        have z2 := Z5.out.cell 2
        have z3 := Z5.out.cell 3
        simp only [List.getElem?_toArray, List.getElem?_cons_zero, List.getElem?_cons_succ] at x0 x1 x2 x3 y0 y1 y2 y3 z0 z1 z2 z3
        go_wp2_with fail
        go_ret
        exact ⟨rfl, HB5.out⟩
      · by_cases q0 : 30 < a.objs.length
        · go_wp2_with fail
          refine (fixed6_any _).mono ?_
          rintro e w5 ⟨rfl, hb⟩
          have HB5 := hid (HB4.out.trans (hb.mono HB4.out.size))
          have X5 := hid (X4.out.later hb)
          have Y5 := hid (Y4.out.later hb)
          have Z5 := hid (Z4.out.later hb)
          have OX5 := hid (OX4.out.below hb)
          have RX5 := hid (RX4.out.below hb)
          have OY5 := hid (OY4.out.below hb)
          have RY5 := hid (RY4.out.below hb)
          have OZ5 := hid (OZ4.out.below hb)
          have RZ5 := hid (RZ4.out.below hb)
          clear x0 x1 x2 x3 y0 y1 y2 y3 z0 z1 z2 z3
          clear hb
          have x0 := X5.out.cell 0
          have x1 := X5.out.cell 1
          have x2 := X5.out.cell 2
          have x3 := X5.out.cell 3
          have y0 := Y5.out.cell 0
          have y1 := Y5.out.cell 1
          have y2 := Y5.out.cell 2
          have y3 := Y5.out.cell 3
          have z0 := Z5.out.cell 0
          have z1 := Z5.out.cell 1
          have z2 := Z5.out.cell 2
          have z3 := Z5.out.cell 3
          simp only [List.getElem?_toArray, List.getElem?_cons_zero, List.getElem?_cons_succ] at x0 x1 x2 x3 y0 y1 y2 y3 z0 z1 z2 z3
          go_wp2_with fail
          go_ret
          exact ⟨rfl, HB5.out⟩
        · by_cases q1 : 30 < b.objs.length
          · go_wp2_with fail
            refine (fixed6_any _).mono ?_
            rintro e w5 ⟨rfl, hb⟩
            have HB5 := hid (HB4.out.trans (hb.mono HB4.out.size))
            have X5 := hid (X4.out.later hb)
            have Y5 := hid (Y4.out.later hb)
            have Z5 := hid (Z4.out.later hb)
            have OX5 := hid (OX4.out.below hb)
            have RX5 := hid (RX4.out.below hb)
            have OY5 := hid (OY4.out.below hb)
            have RY5 := hid (RY4.out.below hb)
            have OZ5 := hid (OZ4.out.below hb)
            have RZ5 := hid (RZ4.out.below hb)
            clear x0 x1 x2 x3 y0 y1 y2 y3 z0 z1 z2 z3
            clear hb
            have x0 := X5.out.cell 0
            have x1 := X5.out.cell 1
            have x2 := X5.out.cell 2
            have x3 := X5.out.cell 3
            have y0 := Y5.out.cell 0
            have y1 := Y5.out.cell 1
            have y2 := Y5.out.cell 2
            have y3 := Y5.out.cell 3
            have z0 := Z5.out.cell 0
            have z1 := Z5.out.cell 1
            have z2 := Z5.out.cell 2
            have z3 := Z5.out.cell 3
            simp only [List.getElem?_toArray, List.getElem?_cons_zero, List.getElem?_cons_succ] at x0 x1 x2 x3 y0 y1 y2 y3 z0 z1 z2 z3
            go_wp2_with fail
            go_ret
            exact ⟨rfl, HB5.out⟩
          · by_cases q2 : 30 < h.objs.length
            · go_wp2_with fail
              refine (fixed6_any _).mono ?_
              rintro e w5 ⟨rfl, hb⟩
              have HB5 := hid (HB4.out.trans (hb.mono HB4.out.size))
              have X5 := hid (X4.out.later hb)
              have Y5 := hid (Y4.out.later hb)
              have Z5 := hid (Z4.out.later hb)
              have OX5 := hid (OX4.out.below hb)
              have RX5 := hid (RX4.out.below hb)
              have OY5 := hid (OY4.out.below hb)
              have RY5 := hid (RY4.out.below hb)
              have OZ5 := hid (OZ4.out.below hb)
              have RZ5 := hid (RZ4.out.below hb)
              clear x0 x1 x2 x3 y0 y1 y2 y3 z0 z1 z2 z3
              clear hb
              have x0 := X5.out.cell 0
              have x1 := X5.out.cell 1
              have x2 := X5.out.cell 2
              have x3 := X5.out.cell 3
              have y0 := Y5.out.cell 0
              have y1 := Y5.out.cell 1
              have y2 := Y5.out.cell 2
              have y3 := Y5.out.cell 3
              have z0 := Z5.out.cell 0
              have z1 := Z5.out.cell 1
              have z2 := Z5.out.cell 2
              have z3 := Z5.out.cell 3
              simp only [List.getElem?_toArray, List.getElem?_cons_zero, List.getElem?_cons_succ] at x0 x1 x2 x3 y0 y1 y2 y3 z0 z1 z2 z3
              go_wp2_with fail
              go_ret
              exact ⟨rfl, HB5.out⟩
            · by_cases t0 : 50 < p.length
              · go_wp2_with fail
                refine (fixed6_any _).mono ?_
                rintro e w5 ⟨rfl, hb⟩
                have HB5 := hid (HB4.out.trans (hb.mono HB4.out.size))
                have X5 := hid (X4.out.later hb)
                have Y5 := hid (Y4.out.later hb)
                have Z5 := hid (Z4.out.later hb)
                have OX5 := hid (OX4.out.below hb)
                have RX5 := hid (RX4.out.below hb)
                have OY5 := hid (OY4.out.below hb)
                have RY5 := hid (RY4.out.below hb)
                have OZ5 := hid (OZ4.out.below hb)
                have RZ5 := hid (RZ4.out.below hb)
                clear x0 x1 x2 x3 y0 y1 y2 y3 z0 z1 z2 z3
                clear hb
                have x0 := X5.out.cell 0
                have x1 := X5.out.cell 1
                have x2 := X5.out.cell 2
                have x3 := X5.out.cell 3
                have y0 := Y5.out.cell 0
                have y1 := Y5.out.cell 1
                have y2 := Y5.out.cell 2
                have y3 := Y5.out.cell 3
                have z0 := Z5.out.cell 0
                have z1 := Z5.out.cell 1
                have z2 := Z5.out.cell 2
                have z3 := Z5.out.cell 3
                simp only [List.getElem?_toArray, List.getElem?_cons_zero, List.getElem?_cons_succ] at x0 x1 x2 x3 y0 y1 y2 y3 z0 z1 z2 z3
                go_wp2_with fail
                go_ret
                exact ⟨rfl, HB5.out⟩
              · by_cases t1 : 50 < q.length
                · go_wp2_with fail
                  refine (fixed6_any _).mono ?_
                  rintro e w5 ⟨rfl, hb⟩
                  have HB5 := hid (HB4.out.trans (hb.mono HB4.out.size))
                  have X5 := hid (X4.out.later hb)
                  have Y5 := hid (Y4.out.later hb)
                  have Z5 := hid (Z4.out.later hb)
                  have OX5 := hid (OX4.out.below hb)
                  have RX5 := hid (RX4.out.below hb)
                  have OY5 := hid (OY4.out.below hb)
                  have RY5 := hid (RY4.out.below hb)
                  have OZ5 := hid (OZ4.out.below hb)
                  have RZ5 := hid (RZ4.out.below hb)
                  clear x0 x1 x2 x3 y0 y1 y2 y3 z0 z1 z2 z3
                  clear hb
                  have x0 := X5.out.cell 0
                  have x1 := X5.out.cell 1
                  have x2 := X5.out.cell 2
                  have x3 := X5.out.cell 3
                  have y0 := Y5.out.cell 0
                  have y1 := Y5.out.cell 1
                  have y2 := Y5.out.cell 2
                  have y3 := Y5.out.cell 3
                  have z0 := Z5.out.cell 0
                  have z1 := Z5.out.cell 1
                  have z2 := Z5.out.cell 2
                  have z3 := Z5.out.cell 3
                  simp only [List.getElem?_toArray, List.getElem?_cons_zero, List.getElem?_cons_succ] at x0 x1 x2 x3 y0 y1 y2 y3 z0 z1 z2 z3
                  go_wp2_with fail
                  go_ret
                  exact ⟨rfl, HB5.out⟩
                · by_cases t2 : 50 < r.length
                  · go_wp2_with fail
                    refine (fixed6_any _).mono ?_
                    rintro e w5 ⟨rfl, hb⟩
                    have HB5 := hid (HB4.out.trans (hb.mono HB4.out.size))
                    have X5 := hid (X4.out.later hb)
                    have Y5 := hid (Y4.out.later hb)
                    have Z5 := hid (Z4.out.later hb)
                    have OX5 := hid (OX4.out.below hb)
                    have RX5 := hid (RX4.out.below hb)
                    have OY5 := hid (OY4.out.below hb)
                    have RY5 := hid (RY4.out.below hb)
                    have OZ5 := hid (OZ4.out.below hb)
                    have RZ5 := hid (RZ4.out.below hb)
                    clear x0 x1 x2 x3 y0 y1 y2 y3 z0 z1 z2 z3
                    clear hb
                    have x0 := X5.out.cell 0
                    have x1 := X5.out.cell 1
                    have x2 := X5.out.cell 2
                    have x3 := X5.out.cell 3
                    have y0 := Y5.out.cell 0
                    have y1 := Y5.out.cell 1
                    have y2 := Y5.out.cell 2
                    have y3 := Y5.out.cell 3
                    have z0 := Z5.out.cell 0
                    have z1 := Z5.out.cell 1
                    have z2 := Z5.out.cell 2
                    have z3 := Z5.out.cell 3
                    simp only [List.getElem?_toArray, List.getElem?_cons_zero, List.getElem?_cons_succ] at x0 x1 x2 x3 y0 y1 y2 y3 z0 z1 z2 z3
                    go_wp2_with fail
                    go_ret
                    exact ⟨rfl, HB5.out⟩
                  · obtain ⟨pp, hp2⟩ : ∃ u, p ++ p = u := ⟨_, rfl⟩
                    obtain ⟨qq, hq2⟩ : ∃ u, q ++ q = u := ⟨_, rfl⟩
                    have HP2 := hid hp2
                    have HQ2 := hid hq2
                    obtain ⟨s1, hs1⟩ : ∃ s, s = saB a p b q := ⟨_, rfl⟩
                    obtain ⟨s2, hs2⟩ : ∃ s, s = saB b q h r := ⟨_, rfl⟩
                    obtain ⟨s3, hs3⟩ : ∃ s, s = saB a p h r := ⟨_, rfl⟩
                    have HS1 := hid hs1.symm
                    have HS2 := hid hs2.symm
                    have HS3 := hid hs3.symm
                    have HSB : Hid (saB b q a p = s1) := by
                      show _ = _
                      rw [hs1, Bool.eq_iff_iff, saB_iff, saB_iff]
                      exact ⟨fun z => z.turn, fun z => z.turn⟩
                    have HSD : Hid (saB a pp b qq = s1) := by
                      show _ = _
                      rw [← hp2, ← hq2, hs1, Bool.eq_iff_iff, saB_iff, saB_iff]
                      exact same_twice
                    have HTR : Hid (s1 = true → s2 = true → s3 = true) := fun z1 z2 => by
                      rw [hs1] at z1
                      rw [hs2] at z2
                      rw [hs3]
                      exact saB_yes ((saB_iff.1 z1).then (saB_iff.1 z2))
                    have hpp : pp.length ≤ 100 := by rw [← hp2]; simp; omega
                    have hqq : qq.length ≤ 100 := by rw [← hq2]; simp; omega
                    clear hs1 hs2 hs3 hp2 hq2
                    go_upto_region 3 with fail
                    go_cut [7, 8, 9] from 72 to 98 (fun s t u wx => s = .bool s1 ∧ t = .bool s2 ∧ u = .bool s3 ∧ Below w4.heap.size w4 wx)
                    case first =>
                      refine wp_region_held_drew (S := (fun w' => w'.cell? ⟨w.heap.size, 0, none⟩ = some (.slice A a.objs.length ca) ∧ w'.cell? ⟨w.heap.size, 1, none⟩ = some (.int .i64 a.cap) ∧ w'.cell? ⟨w.heap.size, 2, none⟩ = some (.int .i64 a.last) ∧ w'.cell? ⟨w.heap.size, 3, none⟩ = some (.slice P p.length cp) ∧ w'.cell? ⟨w.heap.size + 1, 0, none⟩ = some (.slice B b.objs.length cb) ∧ w'.cell? ⟨w.heap.size + 1, 1, none⟩ = some (.int .i64 b.cap) ∧ w'.cell? ⟨w.heap.size + 1, 2, none⟩ = some (.int .i64 b.last) ∧ w'.cell? ⟨w.heap.size + 1, 3, none⟩ = some (.slice Q q.length cq) ∧ w'.cell? ⟨w.heap.size + 1 + 1, 0, none⟩ = some (.slice H h.objs.length ch) ∧ w'.cell? ⟨w.heap.size + 1 + 1, 1, none⟩ = some (.int .i64 h.cap) ∧ w'.cell? ⟨w.heap.size + 1 + 1, 2, none⟩ = some (.int .i64 h.last) ∧ w'.cell? ⟨w.heap.size + 1 + 1, 3, none⟩ = some (.slice R r.length cr))) (by kernel_rfl) ?_ (fun hH0 => ?_)
                      · exact ⟨x0, x1, x2, x3, y0, y1, y2, y3, z0, z1, z2, z3⟩
                      refine wpAnyH_take (i := 0) (oi := { dst := some 72, op := Go.Op.fieldAddr 53 (Go.Operand.tmp 3) 0, type := 0, pos := "law.go:88", after := #[], guard := none }) (v := ?vv1) rfl (by kernel_rfl) (by kernel_rfl) (by kernel_rfl) (fun _ _ _ h => h) (Or.inl ⟨by rfl, ?hy1⟩) (by assumption) ?rr1
                      case hy1 => intro w hSw; (try dsimp only at hSw); go_simp; all_goals with_reducible rfl
                      try simp only [Act.put, List.setIfInBounds_toArray, List.set_cons_zero, List.set_cons_succ]
                      refine wpAnyH_take (i := 1) (oi := { dst := some 73, op := Go.Op.load 24 (Go.Operand.tmp 72), type := 24, pos := "law.go:88", after := #[{ on := 0, ground := Go.Ground.data }], guard := none }) (v := ?vv2) rfl (by kernel_rfl) (by kernel_rfl) (by kernel_rfl) (fun _ _ _ h => h) (Or.inl ⟨by rfl, ?hy2⟩) (by assumption) ?rr2
                      case hy2 => intro w hSw; (try dsimp only at hSw); go_simp; all_goals with_reducible rfl
                      try simp only [Act.put, List.setIfInBounds_toArray, List.set_cons_zero, List.set_cons_succ]
                      refine wpAnyH_take (i := 2) (oi := { dst := some 74, op := Go.Op.fieldAddr 53 (Go.Operand.tmp 3) 1, type := 0, pos := "law.go:88", after := #[], guard := none }) (v := ?vv3) rfl (by kernel_rfl) (by kernel_rfl) (by kernel_rfl) (fun _ _ _ h => h) (Or.inl ⟨by rfl, ?hy3⟩) (by assumption) ?rr3
                      case hy3 => intro w hSw; (try dsimp only at hSw); go_simp; all_goals with_reducible rfl
                      try simp only [Act.put, List.setIfInBounds_toArray, List.set_cons_zero, List.set_cons_succ]
                      refine wpAnyH_take (i := 3) (oi := { dst := some 75, op := Go.Op.load 44 (Go.Operand.tmp 74), type := 44, pos := "law.go:88", after := #[{ on := 2, ground := Go.Ground.data }], guard := none }) (v := ?vv4) rfl (by kernel_rfl) (by kernel_rfl) (by kernel_rfl) (fun _ _ _ h => h) (Or.inl ⟨by rfl, ?hy4⟩) (by assumption) ?rr4
                      case hy4 => intro w hSw; (try dsimp only at hSw); go_simp; all_goals with_reducible rfl
                      try simp only [Act.put, List.setIfInBounds_toArray, List.set_cons_zero, List.set_cons_succ]
                      refine wpAnyH_take (i := 4) (oi := { dst := some 76, op := Go.Op.fieldAddr 53 (Go.Operand.tmp 4) 0, type := 0, pos := "law.go:88", after := #[], guard := none }) (v := ?vv5) rfl (by kernel_rfl) (by kernel_rfl) (by kernel_rfl) (fun _ _ _ h => h) (Or.inl ⟨by rfl, ?hy5⟩) (by assumption) ?rr5
                      case hy5 => intro w hSw; (try dsimp only at hSw); go_simp; all_goals with_reducible rfl
                      try simp only [Act.put, List.setIfInBounds_toArray, List.set_cons_zero, List.set_cons_succ]
                      refine wpAnyH_take (i := 5) (oi := { dst := some 77, op := Go.Op.load 24 (Go.Operand.tmp 76), type := 24, pos := "law.go:88", after := #[{ on := 4, ground := Go.Ground.data }], guard := none }) (v := ?vv6) rfl (by kernel_rfl) (by kernel_rfl) (by kernel_rfl) (fun _ _ _ h => h) (Or.inl ⟨by rfl, ?hy6⟩) (by assumption) ?rr6
                      case hy6 => intro w hSw; (try dsimp only at hSw); go_simp; all_goals with_reducible rfl
                      try simp only [Act.put, List.setIfInBounds_toArray, List.set_cons_zero, List.set_cons_succ]
                      refine wpAnyH_take (i := 6) (oi := { dst := some 78, op := Go.Op.fieldAddr 53 (Go.Operand.tmp 4) 1, type := 0, pos := "law.go:88", after := #[], guard := none }) (v := ?vv7) rfl (by kernel_rfl) (by kernel_rfl) (by kernel_rfl) (fun _ _ _ h => h) (Or.inl ⟨by rfl, ?hy7⟩) (by assumption) ?rr7
                      case hy7 => intro w hSw; (try dsimp only at hSw); go_simp; all_goals with_reducible rfl
                      try simp only [Act.put, List.setIfInBounds_toArray, List.set_cons_zero, List.set_cons_succ]
                      refine wpAnyH_take (i := 7) (oi := { dst := some 79, op := Go.Op.load 44 (Go.Operand.tmp 78), type := 44, pos := "law.go:88", after := #[{ on := 6, ground := Go.Ground.data }], guard := none }) (v := ?vv8) rfl (by kernel_rfl) (by kernel_rfl) (by kernel_rfl) (fun _ _ _ h => h) (Or.inl ⟨by rfl, ?hy8⟩) (by assumption) ?rr8
                      case hy8 => intro w hSw; (try dsimp only at hSw); go_simp; all_goals with_reducible rfl
                      try simp only [Act.put, List.setIfInBounds_toArray, List.set_cons_zero, List.set_cons_succ]
                      refine wpAnyH_take (i := 9) (oi := { dst := some 81, op := Go.Op.fieldAddr 53 (Go.Operand.tmp 4) 0, type := 0, pos := "law.go:88", after := #[], guard := none }) (v := ?vv9) rfl (by kernel_rfl) (by kernel_rfl) (by kernel_rfl) (fun _ _ _ h => h) (Or.inl ⟨by rfl, ?hy9⟩) (by assumption) ?rr9
                      case hy9 => intro w hSw; (try dsimp only at hSw); go_simp; all_goals with_reducible rfl
                      try simp only [Act.put, List.setIfInBounds_toArray, List.set_cons_zero, List.set_cons_succ]
                      refine wpAnyH_take (i := 10) (oi := { dst := some 82, op := Go.Op.load 24 (Go.Operand.tmp 81), type := 24, pos := "law.go:88", after := #[{ on := 9, ground := Go.Ground.data }], guard := none }) (v := ?vv10) rfl (by kernel_rfl) (by kernel_rfl) (by kernel_rfl) (fun _ _ _ h => h) (Or.inl ⟨by rfl, ?hy10⟩) (by assumption) ?rr10
                      case hy10 => intro w hSw; (try dsimp only at hSw); go_simp; all_goals with_reducible rfl
                      try simp only [Act.put, List.setIfInBounds_toArray, List.set_cons_zero, List.set_cons_succ]
                      refine wpAnyH_take (i := 11) (oi := { dst := some 83, op := Go.Op.fieldAddr 53 (Go.Operand.tmp 4) 1, type := 0, pos := "law.go:88", after := #[], guard := none }) (v := ?vv11) rfl (by kernel_rfl) (by kernel_rfl) (by kernel_rfl) (fun _ _ _ h => h) (Or.inl ⟨by rfl, ?hy11⟩) (by assumption) ?rr11
                      case hy11 => intro w hSw; (try dsimp only at hSw); go_simp; all_goals with_reducible rfl
                      try simp only [Act.put, List.setIfInBounds_toArray, List.set_cons_zero, List.set_cons_succ]
                      refine wpAnyH_take (i := 12) (oi := { dst := some 84, op := Go.Op.load 44 (Go.Operand.tmp 83), type := 44, pos := "law.go:88", after := #[{ on := 11, ground := Go.Ground.data }], guard := none }) (v := ?vv12) rfl (by kernel_rfl) (by kernel_rfl) (by kernel_rfl) (fun _ _ _ h => h) (Or.inl ⟨by rfl, ?hy12⟩) (by assumption) ?rr12
                      case hy12 => intro w hSw; (try dsimp only at hSw); go_simp; all_goals with_reducible rfl
                      try simp only [Act.put, List.setIfInBounds_toArray, List.set_cons_zero, List.set_cons_succ]
                      refine wpAnyH_take (i := 13) (oi := { dst := some 85, op := Go.Op.fieldAddr 53 (Go.Operand.tmp 5) 0, type := 0, pos := "law.go:88", after := #[], guard := none }) (v := ?vv13) rfl (by kernel_rfl) (by kernel_rfl) (by kernel_rfl) (fun _ _ _ h => h) (Or.inl ⟨by rfl, ?hy13⟩) (by assumption) ?rr13
                      case hy13 => intro w hSw; (try dsimp only at hSw); go_simp; all_goals with_reducible rfl
                      try simp only [Act.put, List.setIfInBounds_toArray, List.set_cons_zero, List.set_cons_succ]
                      refine wpAnyH_take (i := 14) (oi := { dst := some 86, op := Go.Op.load 24 (Go.Operand.tmp 85), type := 24, pos := "law.go:88", after := #[{ on := 13, ground := Go.Ground.data }], guard := none }) (v := ?vv14) rfl (by kernel_rfl) (by kernel_rfl) (by kernel_rfl) (fun _ _ _ h => h) (Or.inl ⟨by rfl, ?hy14⟩) (by assumption) ?rr14
                      case hy14 => intro w hSw; (try dsimp only at hSw); go_simp; all_goals with_reducible rfl
                      try simp only [Act.put, List.setIfInBounds_toArray, List.set_cons_zero, List.set_cons_succ]
                      refine wpAnyH_take (i := 15) (oi := { dst := some 87, op := Go.Op.fieldAddr 53 (Go.Operand.tmp 5) 1, type := 0, pos := "law.go:88", after := #[], guard := none }) (v := ?vv15) rfl (by kernel_rfl) (by kernel_rfl) (by kernel_rfl) (fun _ _ _ h => h) (Or.inl ⟨by rfl, ?hy15⟩) (by assumption) ?rr15
                      case hy15 => intro w hSw; (try dsimp only at hSw); go_simp; all_goals with_reducible rfl
                      try simp only [Act.put, List.setIfInBounds_toArray, List.set_cons_zero, List.set_cons_succ]
                      refine wpAnyH_take (i := 16) (oi := { dst := some 88, op := Go.Op.load 44 (Go.Operand.tmp 87), type := 44, pos := "law.go:88", after := #[{ on := 15, ground := Go.Ground.data }], guard := none }) (v := ?vv16) rfl (by kernel_rfl) (by kernel_rfl) (by kernel_rfl) (fun _ _ _ h => h) (Or.inl ⟨by rfl, ?hy16⟩) (by assumption) ?rr16
                      case hy16 => intro w hSw; (try dsimp only at hSw); go_simp; all_goals with_reducible rfl
                      try simp only [Act.put, List.setIfInBounds_toArray, List.set_cons_zero, List.set_cons_succ]
                      refine wpAnyH_take (i := 18) (oi := { dst := some 90, op := Go.Op.fieldAddr 53 (Go.Operand.tmp 3) 0, type := 0, pos := "law.go:88", after := #[], guard := none }) (v := ?vv17) rfl (by kernel_rfl) (by kernel_rfl) (by kernel_rfl) (fun _ _ _ h => h) (Or.inl ⟨by rfl, ?hy17⟩) (by assumption) ?rr17
                      case hy17 => intro w hSw; (try dsimp only at hSw); go_simp; all_goals with_reducible rfl
                      try simp only [Act.put, List.setIfInBounds_toArray, List.set_cons_zero, List.set_cons_succ]
                      refine wpAnyH_take (i := 19) (oi := { dst := some 91, op := Go.Op.load 24 (Go.Operand.tmp 90), type := 24, pos := "law.go:88", after := #[{ on := 18, ground := Go.Ground.data }], guard := none }) (v := ?vv18) rfl (by kernel_rfl) (by kernel_rfl) (by kernel_rfl) (fun _ _ _ h => h) (Or.inl ⟨by rfl, ?hy18⟩) (by assumption) ?rr18
                      case hy18 => intro w hSw; (try dsimp only at hSw); go_simp; all_goals with_reducible rfl
                      try simp only [Act.put, List.setIfInBounds_toArray, List.set_cons_zero, List.set_cons_succ]
                      refine wpAnyH_take (i := 20) (oi := { dst := some 92, op := Go.Op.fieldAddr 53 (Go.Operand.tmp 3) 1, type := 0, pos := "law.go:88", after := #[], guard := none }) (v := ?vv19) rfl (by kernel_rfl) (by kernel_rfl) (by kernel_rfl) (fun _ _ _ h => h) (Or.inl ⟨by rfl, ?hy19⟩) (by assumption) ?rr19
                      case hy19 => intro w hSw; (try dsimp only at hSw); go_simp; all_goals with_reducible rfl
                      try simp only [Act.put, List.setIfInBounds_toArray, List.set_cons_zero, List.set_cons_succ]
                      refine wpAnyH_take (i := 21) (oi := { dst := some 93, op := Go.Op.load 44 (Go.Operand.tmp 92), type := 44, pos := "law.go:88", after := #[{ on := 20, ground := Go.Ground.data }], guard := none }) (v := ?vv20) rfl (by kernel_rfl) (by kernel_rfl) (by kernel_rfl) (fun _ _ _ h => h) (Or.inl ⟨by rfl, ?hy20⟩) (by assumption) ?rr20
                      case hy20 => intro w hSw; (try dsimp only at hSw); go_simp; all_goals with_reducible rfl
                      try simp only [Act.put, List.setIfInBounds_toArray, List.set_cons_zero, List.set_cons_succ]
                      refine wpAnyH_take (i := 22) (oi := { dst := some 94, op := Go.Op.fieldAddr 53 (Go.Operand.tmp 5) 0, type := 0, pos := "law.go:88", after := #[], guard := none }) (v := ?vv21) rfl (by kernel_rfl) (by kernel_rfl) (by kernel_rfl) (fun _ _ _ h => h) (Or.inl ⟨by rfl, ?hy21⟩) (by assumption) ?rr21
                      case hy21 => intro w hSw; (try dsimp only at hSw); go_simp; all_goals with_reducible rfl
                      try simp only [Act.put, List.setIfInBounds_toArray, List.set_cons_zero, List.set_cons_succ]
                      refine wpAnyH_take (i := 23) (oi := { dst := some 95, op := Go.Op.load 24 (Go.Operand.tmp 94), type := 24, pos := "law.go:88", after := #[{ on := 22, ground := Go.Ground.data }], guard := none }) (v := ?vv22) rfl (by kernel_rfl) (by kernel_rfl) (by kernel_rfl) (fun _ _ _ h => h) (Or.inl ⟨by rfl, ?hy22⟩) (by assumption) ?rr22
                      case hy22 => intro w hSw; (try dsimp only at hSw); go_simp; all_goals with_reducible rfl
                      try simp only [Act.put, List.setIfInBounds_toArray, List.set_cons_zero, List.set_cons_succ]
                      refine wpAnyH_take (i := 24) (oi := { dst := some 96, op := Go.Op.fieldAddr 53 (Go.Operand.tmp 5) 1, type := 0, pos := "law.go:88", after := #[], guard := none }) (v := ?vv23) rfl (by kernel_rfl) (by kernel_rfl) (by kernel_rfl) (fun _ _ _ h => h) (Or.inl ⟨by rfl, ?hy23⟩) (by assumption) ?rr23
                      case hy23 => intro w hSw; (try dsimp only at hSw); go_simp; all_goals with_reducible rfl
                      try simp only [Act.put, List.setIfInBounds_toArray, List.set_cons_zero, List.set_cons_succ]
                      refine wpAnyH_take (i := 25) (oi := { dst := some 97, op := Go.Op.load 44 (Go.Operand.tmp 96), type := 44, pos := "law.go:88", after := #[{ on := 24, ground := Go.Ground.data }], guard := none }) (v := ?vv24) rfl (by kernel_rfl) (by kernel_rfl) (by kernel_rfl) (fun _ _ _ h => h) (Or.inl ⟨by rfl, ?hy24⟩) (by assumption) ?rr24
                      case hy24 => intro w hSw; (try dsimp only at hSw); go_simp; all_goals with_reducible rfl
                      try simp only [Act.put, List.setIfInBounds_toArray, List.set_cons_zero, List.set_cons_succ]
                      refine wpAnyH_ready (rs := [8]) (by kernel_rfl) (by simp) ?_
                      refine AllReadyH.cons (i := 8) (o := { dst := some 80, op := Go.Op.call { callee := Go.Callee.value (Go.Operand.func 41), args := #[Go.Operand.tmp 73, Go.Operand.tmp 75, Go.Operand.tmp 77, Go.Operand.tmp 79], argTypes := #[24, 44, 24, 44] }, type := 4, pos := "law.go:88", after := #[{ on := 1, ground := Go.Ground.data }, { on := 3, ground := Go.Ground.data }, { on := 5, ground := Go.Ground.data }, { on := 7, ground := Go.Ground.data }], guard := none }) rfl (fun K hK => ?_) AllReadyH.nil
                      go_simp
                      go_at_call 41
                      refine (same6 HS1.out A B P Q ca cb cp cq _ (OX4.out.below (Below.refl _ w4).drew) HFX.out (RX4.out.below (Below.refl _ w4).drew) (by omega) (OY4.out.below (Below.refl _ w4).drew) HFY.out (RY4.out.below (Below.refl _ w4).drew) (by omega)).mono ?_
                      rintro e v1 ⟨rfl, hb⟩
                      have HV1 := hid (then_b (Below.refl _ w4).drew hb)
                      refine hK.out _ _ ?_ (fun hH1 => ?_)
                      · exact ⟨cell_later hb hH0.1, cell_later hb hH0.2.1, cell_later hb hH0.2.2.1, cell_later hb hH0.2.2.2.1, cell_later hb hH0.2.2.2.2.1, cell_later hb hH0.2.2.2.2.2.1, cell_later hb hH0.2.2.2.2.2.2.1, cell_later hb hH0.2.2.2.2.2.2.2.1, cell_later hb hH0.2.2.2.2.2.2.2.2.1, cell_later hb hH0.2.2.2.2.2.2.2.2.2.1, cell_later hb hH0.2.2.2.2.2.2.2.2.2.2.1, cell_later hb hH0.2.2.2.2.2.2.2.2.2.2.2⟩
                      clear hK K
                      try simp only [Act.put, List.setIfInBounds_toArray, List.set_cons_zero, List.set_cons_succ]
                      clear hb
                      refine wpAnyH_ready (rs := [17]) (by kernel_rfl) (by simp) ?_
                      refine AllReadyH.cons (i := 17) (o := { dst := some 89, op := Go.Op.call { callee := Go.Callee.value (Go.Operand.func 41), args := #[Go.Operand.tmp 82, Go.Operand.tmp 84, Go.Operand.tmp 86, Go.Operand.tmp 88], argTypes := #[24, 44, 24, 44] }, type := 4, pos := "law.go:88", after := #[{ on := 10, ground := Go.Ground.data }, { on := 12, ground := Go.Ground.data }, { on := 14, ground := Go.Ground.data }, { on := 16, ground := Go.Ground.data }, { on := 8, ground := Go.Ground.chain }], guard := none }) rfl (fun K hK => ?_) AllReadyH.nil
                      go_simp
                      go_at_call 41
                      refine (same6 HS2.out B H Q R cb ch cq cr _ (OY4.out.below HV1.out) HFY.out (RY4.out.below HV1.out) (by omega) (OZ4.out.below HV1.out) HFZ.out (RZ4.out.below HV1.out) (by omega)).mono ?_
                      rintro e v2 ⟨rfl, hb⟩
                      have HV2 := hid (then_b HV1.out hb)
                      refine hK.out _ _ ?_ (fun hH2 => ?_)
                      · exact ⟨cell_later hb hH1.1, cell_later hb hH1.2.1, cell_later hb hH1.2.2.1, cell_later hb hH1.2.2.2.1, cell_later hb hH1.2.2.2.2.1, cell_later hb hH1.2.2.2.2.2.1, cell_later hb hH1.2.2.2.2.2.2.1, cell_later hb hH1.2.2.2.2.2.2.2.1, cell_later hb hH1.2.2.2.2.2.2.2.2.1, cell_later hb hH1.2.2.2.2.2.2.2.2.2.1, cell_later hb hH1.2.2.2.2.2.2.2.2.2.2.1, cell_later hb hH1.2.2.2.2.2.2.2.2.2.2.2⟩
                      clear hK K
                      try simp only [Act.put, List.setIfInBounds_toArray, List.set_cons_zero, List.set_cons_succ]
                      clear hb
                      refine wpAnyH_ready (rs := [26]) (by kernel_rfl) (by simp) ?_
                      refine AllReadyH.cons (i := 26) (o := { dst := some 98, op := Go.Op.call { callee := Go.Callee.value (Go.Operand.func 41), args := #[Go.Operand.tmp 91, Go.Operand.tmp 93, Go.Operand.tmp 95, Go.Operand.tmp 97], argTypes := #[24, 44, 24, 44] }, type := 4, pos := "law.go:88", after := #[{ on := 19, ground := Go.Ground.data }, { on := 21, ground := Go.Ground.data }, { on := 23, ground := Go.Ground.data }, { on := 25, ground := Go.Ground.data }, { on := 17, ground := Go.Ground.chain }], guard := none }) rfl (fun K hK => ?_) AllReadyH.nil
                      go_simp
                      go_at_call 41
                      refine (same6 HS3.out A H P R ca ch cp cr _ (OX4.out.below HV2.out) HFX.out (RX4.out.below HV2.out) (by omega) (OZ4.out.below HV2.out) HFZ.out (RZ4.out.below HV2.out) (by omega)).mono ?_
                      rintro e v3 ⟨rfl, hb⟩
                      have HV3 := hid (then_b HV2.out hb)
                      refine hK.out _ _ ?_ (fun hH3 => ?_)
                      · exact ⟨cell_later hb hH2.1, cell_later hb hH2.2.1, cell_later hb hH2.2.2.1, cell_later hb hH2.2.2.2.1, cell_later hb hH2.2.2.2.2.1, cell_later hb hH2.2.2.2.2.2.1, cell_later hb hH2.2.2.2.2.2.2.1, cell_later hb hH2.2.2.2.2.2.2.2.1, cell_later hb hH2.2.2.2.2.2.2.2.2.1, cell_later hb hH2.2.2.2.2.2.2.2.2.2.1, cell_later hb hH2.2.2.2.2.2.2.2.2.2.2.1, cell_later hb hH2.2.2.2.2.2.2.2.2.2.2.2⟩
                      clear hK K
                      try simp only [Act.put, List.setIfInBounds_toArray, List.set_cons_zero, List.set_cons_succ]
                      clear hb
                      refine wpAnyH_take (i := 27) (oi := { dst := some 7, op := Go.Op.assign (Go.Operand.tmp 80), type := 4, pos := "law.go:88", after := #[{ on := 8, ground := Go.Ground.data }, { on := 26, ground := Go.Ground.chain }, { on := 0, ground := Go.Ground.phase }, { on := 1, ground := Go.Ground.phase }, { on := 2, ground := Go.Ground.phase }, { on := 3, ground := Go.Ground.phase }, { on := 4, ground := Go.Ground.phase }, { on := 5, ground := Go.Ground.phase }, { on := 6, ground := Go.Ground.phase }, { on := 7, ground := Go.Ground.phase }, { on := 8, ground := Go.Ground.phase }, { on := 9, ground := Go.Ground.textOnly Go.Departure.lateStores }, { on := 10, ground := Go.Ground.textOnly Go.Departure.lateStores }, { on := 11, ground := Go.Ground.textOnly Go.Departure.lateStores }, { on := 12, ground := Go.Ground.textOnly Go.Departure.lateStores }, { on := 13, ground := Go.Ground.textOnly Go.Departure.lateStores }, { on := 14, ground := Go.Ground.textOnly Go.Departure.lateStores }, { on := 15, ground := Go.Ground.textOnly Go.Departure.lateStores }, { on := 16, ground := Go.Ground.textOnly Go.Departure.lateStores }, { on := 17, ground := Go.Ground.textOnly Go.Departure.lateStoresUnsure }, { on := 18, ground := Go.Ground.textOnly Go.Departure.lateStores }, { on := 19, ground := Go.Ground.textOnly Go.Departure.lateStores }, { on := 20, ground := Go.Ground.textOnly Go.Departure.lateStores }, { on := 21, ground := Go.Ground.textOnly Go.Departure.lateStores }, { on := 22, ground := Go.Ground.textOnly Go.Departure.lateStores }, { on := 23, ground := Go.Ground.textOnly Go.Departure.lateStores }, { on := 24, ground := Go.Ground.textOnly Go.Departure.lateStores }, { on := 25, ground := Go.Ground.textOnly Go.Departure.lateStores }, { on := 26, ground := Go.Ground.textOnly Go.Departure.lateStoresUnsure }], guard := none }) (v := ?vv25) rfl (by kernel_rfl) (by kernel_rfl) (by kernel_rfl) (fun _ _ _ h => h) (Or.inl ⟨by rfl, ?hy25⟩) (by assumption) ?rr25
                      case hy25 => intro w hSw; (try dsimp only at hSw); go_simp; all_goals with_reducible rfl
                      try simp only [Act.put, List.setIfInBounds_toArray, List.set_cons_zero, List.set_cons_succ]
                      refine wpAnyH_take (i := 28) (oi := { dst := some 8, op := Go.Op.assign (Go.Operand.tmp 89), type := 4, pos := "law.go:88", after := #[{ on := 17, ground := Go.Ground.data }, { on := 27, ground := Go.Ground.chain }, { on := 0, ground := Go.Ground.phase }, { on := 1, ground := Go.Ground.phase }, { on := 2, ground := Go.Ground.phase }, { on := 3, ground := Go.Ground.phase }, { on := 4, ground := Go.Ground.phase }, { on := 5, ground := Go.Ground.phase }, { on := 6, ground := Go.Ground.phase }, { on := 7, ground := Go.Ground.phase }, { on := 8, ground := Go.Ground.phase }, { on := 9, ground := Go.Ground.phase }, { on := 10, ground := Go.Ground.phase }, { on := 11, ground := Go.Ground.phase }, { on := 12, ground := Go.Ground.phase }, { on := 13, ground := Go.Ground.phase }, { on := 14, ground := Go.Ground.phase }, { on := 15, ground := Go.Ground.phase }, { on := 16, ground := Go.Ground.phase }, { on := 17, ground := Go.Ground.phase }, { on := 18, ground := Go.Ground.textOnly Go.Departure.lateStores }, { on := 19, ground := Go.Ground.textOnly Go.Departure.lateStores }, { on := 20, ground := Go.Ground.textOnly Go.Departure.lateStores }, { on := 21, ground := Go.Ground.textOnly Go.Departure.lateStores }, { on := 22, ground := Go.Ground.textOnly Go.Departure.lateStores }, { on := 23, ground := Go.Ground.textOnly Go.Departure.lateStores }, { on := 24, ground := Go.Ground.textOnly Go.Departure.lateStores }, { on := 25, ground := Go.Ground.textOnly Go.Departure.lateStores }, { on := 26, ground := Go.Ground.textOnly Go.Departure.lateStoresUnsure }, { on := 27, ground := Go.Ground.phase }], guard := none }) (v := ?vv26) rfl (by kernel_rfl) (by kernel_rfl) (by kernel_rfl) (fun _ _ _ h => h) (Or.inl ⟨by rfl, ?hy26⟩) (by assumption) ?rr26
                      case hy26 => intro w hSw; (try dsimp only at hSw); go_simp; all_goals with_reducible rfl
                      try simp only [Act.put, List.setIfInBounds_toArray, List.set_cons_zero, List.set_cons_succ]
                      refine wpAnyH_take (i := 29) (oi := { dst := some 9, op := Go.Op.assign (Go.Operand.tmp 98), type := 4, pos := "law.go:88", after := #[{ on := 26, ground := Go.Ground.data }, { on := 28, ground := Go.Ground.chain }, { on := 0, ground := Go.Ground.phase }, { on := 1, ground := Go.Ground.phase }, { on := 2, ground := Go.Ground.phase }, { on := 3, ground := Go.Ground.phase }, { on := 4, ground := Go.Ground.phase }, { on := 5, ground := Go.Ground.phase }, { on := 6, ground := Go.Ground.phase }, { on := 7, ground := Go.Ground.phase }, { on := 8, ground := Go.Ground.phase }, { on := 9, ground := Go.Ground.phase }, { on := 10, ground := Go.Ground.phase }, { on := 11, ground := Go.Ground.phase }, { on := 12, ground := Go.Ground.phase }, { on := 13, ground := Go.Ground.phase }, { on := 14, ground := Go.Ground.phase }, { on := 15, ground := Go.Ground.phase }, { on := 16, ground := Go.Ground.phase }, { on := 17, ground := Go.Ground.phase }, { on := 18, ground := Go.Ground.phase }, { on := 19, ground := Go.Ground.phase }, { on := 20, ground := Go.Ground.phase }, { on := 21, ground := Go.Ground.phase }, { on := 22, ground := Go.Ground.phase }, { on := 23, ground := Go.Ground.phase }, { on := 24, ground := Go.Ground.phase }, { on := 25, ground := Go.Ground.phase }, { on := 26, ground := Go.Ground.phase }, { on := 27, ground := Go.Ground.phase }, { on := 28, ground := Go.Ground.phase }], guard := none }) (v := ?vv27) rfl (by kernel_rfl) (by kernel_rfl) (by kernel_rfl) (fun _ _ _ h => h) (Or.inl ⟨by rfl, ?hy27⟩) (by assumption) ?rr27
                      case hy27 => intro w hSw; (try dsimp only at hSw); go_simp; all_goals with_reducible rfl
                      try simp only [Act.put, List.setIfInBounds_toArray, List.set_cons_zero, List.set_cons_succ]
                      refine wpAnyH_done (by kernel_rfl) ?_ _
                      go_wp2_with fail
                      go_meet
                      exact ⟨rfl, rfl, rfl, HV3.out⟩
                    case rest =>
                      rename World => w5
                      obtain ⟨rfl, rfl, rfl, hb⟩ := hcut
                      have HB5 := hid (HB4.out.trans (hb.mono HB4.out.size))
                      have X5 := hid (X4.out.later hb)
                      have Y5 := hid (Y4.out.later hb)
                      have Z5 := hid (Z4.out.later hb)
                      have OX5 := hid (OX4.out.below hb)
                      have RX5 := hid (RX4.out.below hb)
                      have OY5 := hid (OY4.out.below hb)
                      have RY5 := hid (RY4.out.below hb)
                      have OZ5 := hid (OZ4.out.below hb)
                      have RZ5 := hid (RZ4.out.below hb)
                      clear hb x0 x1 x2 x3 y0 y1 y2 y3 z0 z1 z2 z3
                      have x0 := X5.out.cell 0
                      have x1 := X5.out.cell 1
                      have x2 := X5.out.cell 2
                      have x3 := X5.out.cell 3
                      have y0 := Y5.out.cell 0
                      have y1 := Y5.out.cell 1
                      have y2 := Y5.out.cell 2
                      have y3 := Y5.out.cell 3
                      have z0 := Z5.out.cell 0
                      have z1 := Z5.out.cell 1
                      have z2 := Z5.out.cell 2
                      have z3 := Z5.out.cell 3
                      simp only [List.getElem?_toArray, List.getElem?_cons_zero, List.getElem?_cons_succ] at x0 x1 x2 x3 y0 y1 y2 y3 z0 z1 z2 z3
                      go_upto_region 4 with fail
                      go_cut [119] from 99 to 118 (fun s wx => s = .bool false ∧ Below w5.heap.size w5 wx)
                      case first =>
                        cases s1
                        · go_wp2_with fail
                          refine (same6 HSB.out B A Q P cb ca cq cp _ OY5.out HFY.out RY5.out (by omega) OX5.out HFX.out RX5.out (by omega)).mono ?_
                          rintro e wl ⟨rfl, hb⟩
                          have HBL := hid hb
                          clear hb
                          go_wp2_with fail
                          go_meet
                          exact ⟨rfl, HBL.out⟩
                        · cases s2
                          · go_wp2_with fail
                            refine (same6 HSB.out B A Q P cb ca cq cp _ OY5.out HFY.out RY5.out (by omega) OX5.out HFX.out RX5.out (by omega)).mono ?_
                            rintro e wl ⟨rfl, hb⟩
                            have HBL := hid hb
                            clear hb
                            go_wp2_with fail
                            go_meet
                            exact ⟨rfl, HBL.out⟩
                          · obtain rfl := HTR.out rfl rfl
                            go_wp2_with fail
                            refine (same6 HSB.out B A Q P cb ca cq cp _ OY5.out HFY.out RY5.out (by omega) OX5.out HFX.out RX5.out (by omega)).mono ?_
                            rintro e wl ⟨rfl, hb⟩
                            have HBL := hid hb
                            clear hb
                            go_wp2_with fail
                            go_meet
                            exact ⟨rfl, HBL.out⟩
                      case rest =>
                        rename World => w6
                        obtain ⟨rfl, hb⟩ := hcut
                        have HB6 := hid (HB5.out.trans (hb.mono HB5.out.size))
                        have X6 := hid (X5.out.later hb)
                        have Y6 := hid (Y5.out.later hb)
                        have Z6 := hid (Z5.out.later hb)
                        have OX6 := hid (OX5.out.below hb)
                        have RX6 := hid (RX5.out.below hb)
                        have OY6 := hid (OY5.out.below hb)
                        have RY6 := hid (RY5.out.below hb)
                        have OZ6 := hid (OZ5.out.below hb)
                        have RZ6 := hid (RZ5.out.below hb)
                        clear hb x0 x1 x2 x3 y0 y1 y2 y3 z0 z1 z2 z3
                        have x0 := X6.out.cell 0
                        have x1 := X6.out.cell 1
                        have x2 := X6.out.cell 2
                        have x3 := X6.out.cell 3
                        have y0 := Y6.out.cell 0
                        have y1 := Y6.out.cell 1
                        have y2 := Y6.out.cell 2
                        have y3 := Y6.out.cell 3
                        have z0 := Z6.out.cell 0
                        have z1 := Z6.out.cell 1
                        have z2 := Z6.out.cell 2
                        have z3 := Z6.out.cell 3
                        simp only [List.getElem?_toArray, List.getElem?_cons_zero, List.getElem?_cons_succ] at x0 x1 x2 x3 y0 y1 y2 y3 z0 z1 z2 z3
                        go_upto_region 6 with fail
                        go_cut [10, 11] from 120 to 133 (fun s u wx => ∃ (A1 A2 : Option Addr) (c1 c2 : Nat), s = .slice A1 pp.length c1 ∧ u = .slice A2 qq.length c2 ∧ IntsR wx A1 pp ∧ IntsR wx A2 qq ∧ Below w6.heap.size w6 wx)
                        case first =>
                          clear x0 x1 x2 y0 y1 y2 z0 z1 z2 z3 HS1 HS2 HS3 HSB HSD HTR HFX HFY HFZ OX6 OY6 OZ6 RZ6 X6 Y6 Z6
                          refine wp_region_held_drew (S := (fun w' => w'.cell? ⟨w.heap.size, 3, none⟩ = some (.slice P p.length cp) ∧ w'.cell? ⟨w.heap.size + 1, 3, none⟩ = some (.slice Q q.length cq))) (by kernel_rfl) ?_ (fun hH0 => ?_)
                          · exact ⟨x3, y3⟩
                          refine wpAnyH_take (i := 1) (oi := { dst := some 121, op := Go.Op.fieldAddr 53 (Go.Operand.tmp 3) 1, type := 0, pos := "law.go:92", after := #[], guard := none }) (v := ?vv28) rfl (by kernel_rfl) (by kernel_rfl) (by kernel_rfl) (fun _ _ _ h => h) (Or.inl ⟨by rfl, ?hy28⟩) (by assumption) ?rr28
                          case hy28 => intro w hSw; (try dsimp only at hSw); go_simp; all_goals with_reducible rfl
                          try simp only [Act.put, List.setIfInBounds_toArray, List.set_cons_zero, List.set_cons_succ]
                          refine wpAnyH_take (i := 2) (oi := { dst := some 122, op := Go.Op.load 44 (Go.Operand.tmp 121), type := 44, pos := "law.go:92", after := #[{ on := 1, ground := Go.Ground.data }], guard := none }) (v := ?vv29) rfl (by kernel_rfl) (by kernel_rfl) (by kernel_rfl) (fun _ _ _ h => h) (Or.inl ⟨by rfl, ?hy29⟩) (by assumption) ?rr29
                          case hy29 => intro w hSw; (try dsimp only at hSw); go_simp; all_goals with_reducible rfl
                          try simp only [Act.put, List.setIfInBounds_toArray, List.set_cons_zero, List.set_cons_succ]
                          refine wpAnyH_take (i := 4) (oi := { dst := some 124, op := Go.Op.fieldAddr 53 (Go.Operand.tmp 3) 1, type := 0, pos := "law.go:92", after := #[], guard := none }) (v := ?vv30) rfl (by kernel_rfl) (by kernel_rfl) (by kernel_rfl) (fun _ _ _ h => h) (Or.inl ⟨by rfl, ?hy30⟩) (by assumption) ?rr30
                          case hy30 => intro w hSw; (try dsimp only at hSw); go_simp; all_goals with_reducible rfl
                          try simp only [Act.put, List.setIfInBounds_toArray, List.set_cons_zero, List.set_cons_succ]
                          refine wpAnyH_take (i := 5) (oi := { dst := some 125, op := Go.Op.load 44 (Go.Operand.tmp 124), type := 44, pos := "law.go:92", after := #[{ on := 4, ground := Go.Ground.data }], guard := none }) (v := ?vv31) rfl (by kernel_rfl) (by kernel_rfl) (by kernel_rfl) (fun _ _ _ h => h) (Or.inl ⟨by rfl, ?hy31⟩) (by assumption) ?rr31
                          case hy31 => intro w hSw; (try dsimp only at hSw); go_simp; all_goals with_reducible rfl
                          try simp only [Act.put, List.setIfInBounds_toArray, List.set_cons_zero, List.set_cons_succ]
                          refine wpAnyH_take (i := 8) (oi := { dst := some 128, op := Go.Op.fieldAddr 53 (Go.Operand.tmp 4) 1, type := 0, pos := "law.go:92", after := #[], guard := none }) (v := ?vv32) rfl (by kernel_rfl) (by kernel_rfl) (by kernel_rfl) (fun _ _ _ h => h) (Or.inl ⟨by rfl, ?hy32⟩) (by assumption) ?rr32
                          case hy32 => intro w hSw; (try dsimp only at hSw); go_simp; all_goals with_reducible rfl
                          try simp only [Act.put, List.setIfInBounds_toArray, List.set_cons_zero, List.set_cons_succ]
                          refine wpAnyH_take (i := 9) (oi := { dst := some 129, op := Go.Op.load 44 (Go.Operand.tmp 128), type := 44, pos := "law.go:92", after := #[{ on := 8, ground := Go.Ground.data }], guard := none }) (v := ?vv33) rfl (by kernel_rfl) (by kernel_rfl) (by kernel_rfl) (fun _ _ _ h => h) (Or.inl ⟨by rfl, ?hy33⟩) (by assumption) ?rr33
                          case hy33 => intro w hSw; (try dsimp only at hSw); go_simp; all_goals with_reducible rfl
                          try simp only [Act.put, List.setIfInBounds_toArray, List.set_cons_zero, List.set_cons_succ]
                          refine wpAnyH_take (i := 11) (oi := { dst := some 131, op := Go.Op.fieldAddr 53 (Go.Operand.tmp 4) 1, type := 0, pos := "law.go:92", after := #[], guard := none }) (v := ?vv34) rfl (by kernel_rfl) (by kernel_rfl) (by kernel_rfl) (fun _ _ _ h => h) (Or.inl ⟨by rfl, ?hy34⟩) (by assumption) ?rr34
                          case hy34 => intro w hSw; (try dsimp only at hSw); go_simp; all_goals with_reducible rfl
                          try simp only [Act.put, List.setIfInBounds_toArray, List.set_cons_zero, List.set_cons_succ]
                          refine wpAnyH_take (i := 12) (oi := { dst := some 132, op := Go.Op.load 44 (Go.Operand.tmp 131), type := 44, pos := "law.go:92", after := #[{ on := 11, ground := Go.Ground.data }], guard := none }) (v := ?vv35) rfl (by kernel_rfl) (by kernel_rfl) (by kernel_rfl) (fun _ _ _ h => h) (Or.inl ⟨by rfl, ?hy35⟩) (by assumption) ?rr35
                          case hy35 => intro w hSw; (try dsimp only at hSw); go_simp; all_goals with_reducible rfl
                          try simp only [Act.put, List.setIfInBounds_toArray, List.set_cons_zero, List.set_cons_succ]
                          refine wpAnyH_ready (rs := [0, 7]) (by kernel_rfl) (by simp) ?_
                          refine AllReadyH.cons (i := 0) (o := { dst := some 120, op := Go.Op.buildSlice 44 0 #[], type := 44, pos := "law.go:92", after := #[], guard := none }) rfl (fun K hK => ?_) (AllReadyH.cons (i := 7) (o := { dst := some 127, op := Go.Op.buildSlice 44 0 #[], type := 44, pos := "law.go:92", after := #[], guard := none }) rfl (fun K hK => ?_) AllReadyH.nil)
                          · go_simp
                            have HV1 := hid ((Rows2.start w6).make.drew)
                            refine hK.out _ _ ?_ (fun hH1 => ?_)
                            · exact ⟨cell_old x3, cell_old y3⟩
                            clear hK K
                            try simp only [Act.put, List.setIfInBounds_toArray, List.set_cons_zero, List.set_cons_succ]
                            refine wpAnyH_ready (rs := [3, 7]) (by kernel_rfl) (by simp) ?_
                            refine AllReadyH.cons (i := 3) (o := { dst := some 123, op := Go.Op.call { callee := Go.Callee.builtin Go.Builtin.append, args := #[Go.Operand.tmp 120, Go.Operand.tmp 122], argTypes := #[44, 44] }, type := 44, pos := "law.go:92", after := #[{ on := 0, ground := Go.Ground.data }, { on := 2, ground := Go.Ground.data }], guard := none }) rfl (fun K hK => ?_) (AllReadyH.cons (i := 7) (o := { dst := some 127, op := Go.Op.buildSlice 44 0 #[], type := 44, pos := "law.go:92", after := #[], guard := none }) rfl (fun K hK => ?_) AllReadyH.nil)
                            · obtain ⟨B2, d2, u2, hr, ht⟩ := HV1.out.app (us := p) RX6.out HNX.out rfl (by omega)
                              have HR2 := hid hr
                              have HV2 := hid (ht)
                              clear hr ht
                              rw [if_pos (by rfl)]
                              refine wp_append_run6 (.tmp 120) (.tmp 122) 44 rfl _ _ HR2.out ?_
                              refine hK.out _ _ ?_ (fun hH2 => ?_)
                              · exact ⟨cell_later HV2.out.below x3, cell_later HV2.out.below y3⟩
                              clear hK K
                              try simp only [Act.put, List.setIfInBounds_toArray, List.set_cons_zero, List.set_cons_succ]
                              refine wpAnyH_ready (rs := [6, 7]) (by kernel_rfl) (by simp) ?_
                              refine AllReadyH.cons (i := 6) (o := { dst := some 126, op := Go.Op.call { callee := Go.Callee.builtin Go.Builtin.append, args := #[Go.Operand.tmp 123, Go.Operand.tmp 125], argTypes := #[44, 44] }, type := 44, pos := "law.go:92", after := #[{ on := 3, ground := Go.Ground.data }, { on := 5, ground := Go.Ground.data }, { on := 3, ground := Go.Ground.chain }], guard := none }) rfl (fun K hK => ?_) (AllReadyH.cons (i := 7) (o := { dst := some 127, op := Go.Op.buildSlice 44 0 #[], type := 44, pos := "law.go:92", after := #[], guard := none }) rfl (fun K hK => ?_) AllReadyH.nil)
                              · obtain ⟨B3, d3, u3, hr, ht⟩ := HV2.out.app (us := pp) RX6.out HNX.out HP2.out (by omega)
                                have HR3 := hid hr
                                have HV3 := hid (ht)
                                clear hr ht
                                rw [if_pos (by rfl)]
                                refine wp_append_run6 (.tmp 123) (.tmp 125) 44 rfl _ _ HR3.out ?_
                                refine hK.out _ _ ?_ (fun hH3 => ?_)
                                · exact ⟨cell_later HV3.out.below x3, cell_later HV3.out.below y3⟩
                                clear hK K
                                try simp only [Act.put, List.setIfInBounds_toArray, List.set_cons_zero, List.set_cons_succ]
                                refine wpAnyH_ready (rs := [7]) (by kernel_rfl) (by simp) ?_
                                refine AllReadyH.cons (i := 7) (o := { dst := some 127, op := Go.Op.buildSlice 44 0 #[], type := 44, pos := "law.go:92", after := #[], guard := none }) rfl (fun K hK => ?_) AllReadyH.nil
                                go_simp
                                have HV4 := hid (HV3.out.make2)
                                refine hK.out _ _ ?_ (fun hH4 => ?_)
                                · exact ⟨cell_later HV4.out.below x3, cell_later HV4.out.below y3⟩
                                clear hK K
                                try simp only [Act.put, List.setIfInBounds_toArray, List.set_cons_zero, List.set_cons_succ]
                                refine wpAnyH_ready (rs := [10]) (by kernel_rfl) (by simp) ?_
                                refine AllReadyH.cons (i := 10) (o := { dst := some 130, op := Go.Op.call { callee := Go.Callee.builtin Go.Builtin.append, args := #[Go.Operand.tmp 127, Go.Operand.tmp 129], argTypes := #[44, 44] }, type := 44, pos := "law.go:92", after := #[{ on := 7, ground := Go.Ground.data }, { on := 9, ground := Go.Ground.data }, { on := 6, ground := Go.Ground.chain }], guard := none }) rfl (fun K hK => ?_) AllReadyH.nil
                                obtain ⟨B5, d5, u5, hr, ht⟩ := HV4.out.turn.app (us := q) RY6.out HNY.out rfl (by omega)
                                have HR5 := hid hr
                                have HV5 := hid (ht.turn)
                                clear hr ht
                                rw [if_pos (by rfl)]
                                refine wp_append_run6 (.tmp 127) (.tmp 129) 44 rfl _ _ HR5.out ?_
                                refine hK.out _ _ ?_ (fun hH5 => ?_)
                                · exact ⟨cell_later HV5.out.below x3, cell_later HV5.out.below y3⟩
                                clear hK K
                                try simp only [Act.put, List.setIfInBounds_toArray, List.set_cons_zero, List.set_cons_succ]
                                refine wpAnyH_ready (rs := [13]) (by kernel_rfl) (by simp) ?_
                                refine AllReadyH.cons (i := 13) (o := { dst := some 133, op := Go.Op.call { callee := Go.Callee.builtin Go.Builtin.append, args := #[Go.Operand.tmp 130, Go.Operand.tmp 132], argTypes := #[44, 44] }, type := 44, pos := "law.go:92", after := #[{ on := 10, ground := Go.Ground.data }, { on := 12, ground := Go.Ground.data }, { on := 10, ground := Go.Ground.chain }], guard := none }) rfl (fun K hK => ?_) AllReadyH.nil
                                obtain ⟨B6, d6, u6, hr, ht⟩ := HV5.out.turn.app (us := qq) RY6.out HNY.out HQ2.out (by omega)
                                have HR6 := hid hr
                                have HV6 := hid (ht.turn)
                                clear hr ht
                                rw [if_pos (by rfl)]
                                refine wp_append_run6 (.tmp 130) (.tmp 132) 44 rfl _ _ HR6.out ?_
                                refine hK.out _ _ ?_ (fun hH6 => ?_)
                                · exact ⟨cell_later HV6.out.below x3, cell_later HV6.out.below y3⟩
                                clear hK K
                                try simp only [Act.put, List.setIfInBounds_toArray, List.set_cons_zero, List.set_cons_succ]
                                refine wpAnyH_take (i := 14) (oi := { dst := some 10, op := Go.Op.assign (Go.Operand.tmp 126), type := 44, pos := "law.go:92", after := #[{ on := 6, ground := Go.Ground.data }, { on := 13, ground := Go.Ground.chain }, { on := 0, ground := Go.Ground.phase }, { on := 1, ground := Go.Ground.phase }, { on := 2, ground := Go.Ground.phase }, { on := 3, ground := Go.Ground.phase }, { on := 4, ground := Go.Ground.phase }, { on := 5, ground := Go.Ground.phase }, { on := 6, ground := Go.Ground.phase }, { on := 7, ground := Go.Ground.textOnly Go.Departure.lateStores }, { on := 8, ground := Go.Ground.textOnly Go.Departure.lateStores }, { on := 9, ground := Go.Ground.textOnly Go.Departure.lateStores }, { on := 10, ground := Go.Ground.textOnly Go.Departure.lateStoresUnsure }, { on := 11, ground := Go.Ground.textOnly Go.Departure.lateStores }, { on := 12, ground := Go.Ground.textOnly Go.Departure.lateStores }, { on := 13, ground := Go.Ground.textOnly Go.Departure.lateStoresUnsure }], guard := none }) (v := ?vv36) rfl (by kernel_rfl) (by kernel_rfl) (by kernel_rfl) (fun _ _ _ h => h) (Or.inl ⟨by rfl, ?hy36⟩) (by assumption) ?rr36
                                case hy36 => intro w hSw; (try dsimp only at hSw); go_simp; all_goals with_reducible rfl
                                try simp only [Act.put, List.setIfInBounds_toArray, List.set_cons_zero, List.set_cons_succ]
                                refine wpAnyH_take (i := 15) (oi := { dst := some 11, op := Go.Op.assign (Go.Operand.tmp 133), type := 44, pos := "law.go:92", after := #[{ on := 13, ground := Go.Ground.data }, { on := 14, ground := Go.Ground.chain }, { on := 0, ground := Go.Ground.phase }, { on := 1, ground := Go.Ground.phase }, { on := 2, ground := Go.Ground.phase }, { on := 3, ground := Go.Ground.phase }, { on := 4, ground := Go.Ground.phase }, { on := 5, ground := Go.Ground.phase }, { on := 6, ground := Go.Ground.phase }, { on := 7, ground := Go.Ground.phase }, { on := 8, ground := Go.Ground.phase }, { on := 9, ground := Go.Ground.phase }, { on := 10, ground := Go.Ground.phase }, { on := 11, ground := Go.Ground.phase }, { on := 12, ground := Go.Ground.phase }, { on := 13, ground := Go.Ground.phase }, { on := 14, ground := Go.Ground.phase }], guard := none }) (v := ?vv37) rfl (by kernel_rfl) (by kernel_rfl) (by kernel_rfl) (fun _ _ _ h => h) (Or.inl ⟨by rfl, ?hy37⟩) (by assumption) ?rr37
                                case hy37 => intro w hSw; (try dsimp only at hSw); go_simp; all_goals with_reducible rfl
                                try simp only [Act.put, List.setIfInBounds_toArray, List.set_cons_zero, List.set_cons_succ]
                                refine wpAnyH_done (by kernel_rfl) ?_ _
                                go_wp2_with fail
                                go_meet
                                exact ⟨B3, B6, d3, d6, rfl, rfl, own_ints HV6.out.own1, own_ints HV6.out.own2, HV6.out.below⟩
                              · go_simp
                                have HV3 := hid (HV2.out.make2)
                                refine hK.out _ _ ?_ (fun hH3 => ?_)
                                · exact ⟨cell_later HV3.out.below x3, cell_later HV3.out.below y3⟩
                                clear hK K
                                try simp only [Act.put, List.setIfInBounds_toArray, List.set_cons_zero, List.set_cons_succ]
                                refine wpAnyH_ready (rs := [6]) (by kernel_rfl) (by simp) ?_
                                refine AllReadyH.cons (i := 6) (o := { dst := some 126, op := Go.Op.call { callee := Go.Callee.builtin Go.Builtin.append, args := #[Go.Operand.tmp 123, Go.Operand.tmp 125], argTypes := #[44, 44] }, type := 44, pos := "law.go:92", after := #[{ on := 3, ground := Go.Ground.data }, { on := 5, ground := Go.Ground.data }, { on := 3, ground := Go.Ground.chain }], guard := none }) rfl (fun K hK => ?_) AllReadyH.nil
                                obtain ⟨B4, d4, u4, hr, ht⟩ := HV3.out.app (us := pp) RX6.out HNX.out HP2.out (by omega)
                                have HR4 := hid hr
                                have HV4 := hid (ht)
                                clear hr ht
                                rw [if_pos (by rfl)]
                                refine wp_append_run6 (.tmp 123) (.tmp 125) 44 rfl _ _ HR4.out ?_
                                refine hK.out _ _ ?_ (fun hH4 => ?_)
                                · exact ⟨cell_later HV4.out.below x3, cell_later HV4.out.below y3⟩
                                clear hK K
                                try simp only [Act.put, List.setIfInBounds_toArray, List.set_cons_zero, List.set_cons_succ]
                                refine wpAnyH_ready (rs := [10]) (by kernel_rfl) (by simp) ?_
                                refine AllReadyH.cons (i := 10) (o := { dst := some 130, op := Go.Op.call { callee := Go.Callee.builtin Go.Builtin.append, args := #[Go.Operand.tmp 127, Go.Operand.tmp 129], argTypes := #[44, 44] }, type := 44, pos := "law.go:92", after := #[{ on := 7, ground := Go.Ground.data }, { on := 9, ground := Go.Ground.data }, { on := 6, ground := Go.Ground.chain }], guard := none }) rfl (fun K hK => ?_) AllReadyH.nil
                                obtain ⟨B5, d5, u5, hr, ht⟩ := HV4.out.turn.app (us := q) RY6.out HNY.out rfl (by omega)
                                have HR5 := hid hr
                                have HV5 := hid (ht.turn)
                                clear hr ht
                                rw [if_pos (by rfl)]
                                refine wp_append_run6 (.tmp 127) (.tmp 129) 44 rfl _ _ HR5.out ?_
                                refine hK.out _ _ ?_ (fun hH5 => ?_)
                                · exact ⟨cell_later HV5.out.below x3, cell_later HV5.out.below y3⟩
                                clear hK K
                                try simp only [Act.put, List.setIfInBounds_toArray, List.set_cons_zero, List.set_cons_succ]
                                refine wpAnyH_ready (rs := [13]) (by kernel_rfl) (by simp) ?_
                                refine AllReadyH.cons (i := 13) (o := { dst := some 133, op := Go.Op.call { callee := Go.Callee.builtin Go.Builtin.append, args := #[Go.Operand.tmp 130, Go.Operand.tmp 132], argTypes := #[44, 44] }, type := 44, pos := "law.go:92", after := #[{ on := 10, ground := Go.Ground.data }, { on := 12, ground := Go.Ground.data }, { on := 10, ground := Go.Ground.chain }], guard := none }) rfl (fun K hK => ?_) AllReadyH.nil
                                obtain ⟨B6, d6, u6, hr, ht⟩ := HV5.out.turn.app (us := qq) RY6.out HNY.out HQ2.out (by omega)
                                have HR6 := hid hr
                                have HV6 := hid (ht.turn)
                                clear hr ht
                                rw [if_pos (by rfl)]
                                refine wp_append_run6 (.tmp 130) (.tmp 132) 44 rfl _ _ HR6.out ?_
                                refine hK.out _ _ ?_ (fun hH6 => ?_)
                                · exact ⟨cell_later HV6.out.below x3, cell_later HV6.out.below y3⟩
                                clear hK K
                                try simp only [Act.put, List.setIfInBounds_toArray, List.set_cons_zero, List.set_cons_succ]
                                refine wpAnyH_take (i := 14) (oi := { dst := some 10, op := Go.Op.assign (Go.Operand.tmp 126), type := 44, pos := "law.go:92", after := #[{ on := 6, ground := Go.Ground.data }, { on := 13, ground := Go.Ground.chain }, { on := 0, ground := Go.Ground.phase }, { on := 1, ground := Go.Ground.phase }, { on := 2, ground := Go.Ground.phase }, { on := 3, ground := Go.Ground.phase }, { on := 4, ground := Go.Ground.phase }, { on := 5, ground := Go.Ground.phase }, { on := 6, ground := Go.Ground.phase }, { on := 7, ground := Go.Ground.textOnly Go.Departure.lateStores }, { on := 8, ground := Go.Ground.textOnly Go.Departure.lateStores }, { on := 9, ground := Go.Ground.textOnly Go.Departure.lateStores }, { on := 10, ground := Go.Ground.textOnly Go.Departure.lateStoresUnsure }, { on := 11, ground := Go.Ground.textOnly Go.Departure.lateStores }, { on := 12, ground := Go.Ground.textOnly Go.Departure.lateStores }, { on := 13, ground := Go.Ground.textOnly Go.Departure.lateStoresUnsure }], guard := none }) (v := ?vv38) rfl (by kernel_rfl) (by kernel_rfl) (by kernel_rfl) (fun _ _ _ h => h) (Or.inl ⟨by rfl, ?hy38⟩) (by assumption) ?rr38
                                case hy38 => intro w hSw; (try dsimp only at hSw); go_simp; all_goals with_reducible rfl
                                try simp only [Act.put, List.setIfInBounds_toArray, List.set_cons_zero, List.set_cons_succ]
                                refine wpAnyH_take (i := 15) (oi := { dst := some 11, op := Go.Op.assign (Go.Operand.tmp 133), type := 44, pos := "law.go:92", after := #[{ on := 13, ground := Go.Ground.data }, { on := 14, ground := Go.Ground.chain }, { on := 0, ground := Go.Ground.phase }, { on := 1, ground := Go.Ground.phase }, { on := 2, ground := Go.Ground.phase }, { on := 3, ground := Go.Ground.phase }, { on := 4, ground := Go.Ground.phase }, { on := 5, ground := Go.Ground.phase }, { on := 6, ground := Go.Ground.phase }, { on := 7, ground := Go.Ground.phase }, { on := 8, ground := Go.Ground.phase }, { on := 9, ground := Go.Ground.phase }, { on := 10, ground := Go.Ground.phase }, { on := 11, ground := Go.Ground.phase }, { on := 12, ground := Go.Ground.phase }, { on := 13, ground := Go.Ground.phase }, { on := 14, ground := Go.Ground.phase }], guard := none }) (v := ?vv39) rfl (by kernel_rfl) (by kernel_rfl) (by kernel_rfl) (fun _ _ _ h => h) (Or.inl ⟨by rfl, ?hy39⟩) (by assumption) ?rr39
                                case hy39 => intro w hSw; (try dsimp only at hSw); go_simp; all_goals with_reducible rfl
                                try simp only [Act.put, List.setIfInBounds_toArray, List.set_cons_zero, List.set_cons_succ]
                                refine wpAnyH_done (by kernel_rfl) ?_ _
                                go_wp2_with fail
                                go_meet
                                exact ⟨B4, B6, d4, d6, rfl, rfl, own_ints HV6.out.own1, own_ints HV6.out.own2, HV6.out.below⟩
                            · have HV2 : Hid (Rows2 w6 ((w6.alloc (.cells #[] 3)).alloc (.cells #[] 3)).drew (.slice (some ⟨w6.heap.size, 0, none⟩) 0 0) (.slice (some ⟨w6.heap.size + 1, 0, none⟩) 0 0) [] []) := by
                                have := ((Rows2.start w6).make.make2).drew
                                simpa [Hid] using this
                              go_simp
                              obtain ⟨W, hW⟩ : ∃ W, W = ((w6.alloc (.cells #[] 3)).alloc (.cells #[] 3)).drew := ⟨_, rfl⟩
                              rw [← hW] at HV2 ⊢
                              clear hW
                              refine hK.out _ _ ?_ (fun hH2 => ?_)
                              · exact ⟨cell_later HV2.out.below x3, cell_later HV2.out.below y3⟩
                              clear hK K
                              try simp only [Act.put, List.setIfInBounds_toArray, List.set_cons_zero, List.set_cons_succ]
                              refine wpAnyH_ready (rs := [3]) (by kernel_rfl) (by simp) ?_
                              refine AllReadyH.cons (i := 3) (o := { dst := some 123, op := Go.Op.call { callee := Go.Callee.builtin Go.Builtin.append, args := #[Go.Operand.tmp 120, Go.Operand.tmp 122], argTypes := #[44, 44] }, type := 44, pos := "law.go:92", after := #[{ on := 0, ground := Go.Ground.data }, { on := 2, ground := Go.Ground.data }], guard := none }) rfl (fun K hK => ?_) AllReadyH.nil
                              obtain ⟨B3, d3, u3, hr, ht⟩ := HV2.out.app (us := p) RX6.out HNX.out rfl (by omega)
                              have HR3 := hid hr
                              have HV3 := hid (ht)
                              clear hr ht
                              rw [if_pos (by rfl)]
                              refine wp_append_run6 (.tmp 120) (.tmp 122) 44 rfl _ _ HR3.out ?_
                              refine hK.out _ _ ?_ (fun hH3 => ?_)
                              · exact ⟨cell_later HV3.out.below x3, cell_later HV3.out.below y3⟩
                              clear hK K
                              try simp only [Act.put, List.setIfInBounds_toArray, List.set_cons_zero, List.set_cons_succ]
                              refine wpAnyH_ready (rs := [6]) (by kernel_rfl) (by simp) ?_
                              refine AllReadyH.cons (i := 6) (o := { dst := some 126, op := Go.Op.call { callee := Go.Callee.builtin Go.Builtin.append, args := #[Go.Operand.tmp 123, Go.Operand.tmp 125], argTypes := #[44, 44] }, type := 44, pos := "law.go:92", after := #[{ on := 3, ground := Go.Ground.data }, { on := 5, ground := Go.Ground.data }, { on := 3, ground := Go.Ground.chain }], guard := none }) rfl (fun K hK => ?_) AllReadyH.nil
                              obtain ⟨B4, d4, u4, hr, ht⟩ := HV3.out.app (us := pp) RX6.out HNX.out HP2.out (by omega)
                              have HR4 := hid hr
                              have HV4 := hid (ht)
                              clear hr ht
                              rw [if_pos (by rfl)]
                              refine wp_append_run6 (.tmp 123) (.tmp 125) 44 rfl _ _ HR4.out ?_
                              refine hK.out _ _ ?_ (fun hH4 => ?_)
                              · exact ⟨cell_later HV4.out.below x3, cell_later HV4.out.below y3⟩
                              clear hK K
                              try simp only [Act.put, List.setIfInBounds_toArray, List.set_cons_zero, List.set_cons_succ]
                              refine wpAnyH_ready (rs := [10]) (by kernel_rfl) (by simp) ?_
                              refine AllReadyH.cons (i := 10) (o := { dst := some 130, op := Go.Op.call { callee := Go.Callee.builtin Go.Builtin.append, args := #[Go.Operand.tmp 127, Go.Operand.tmp 129], argTypes := #[44, 44] }, type := 44, pos := "law.go:92", after := #[{ on := 7, ground := Go.Ground.data }, { on := 9, ground := Go.Ground.data }, { on := 6, ground := Go.Ground.chain }], guard := none }) rfl (fun K hK => ?_) AllReadyH.nil
                              obtain ⟨B5, d5, u5, hr, ht⟩ := HV4.out.turn.app (us := q) RY6.out HNY.out rfl (by omega)
                              have HR5 := hid hr
                              have HV5 := hid (ht.turn)
                              clear hr ht
                              rw [if_pos (by rfl)]
                              refine wp_append_run6 (.tmp 127) (.tmp 129) 44 rfl _ _ HR5.out ?_
                              refine hK.out _ _ ?_ (fun hH5 => ?_)
                              · exact ⟨cell_later HV5.out.below x3, cell_later HV5.out.below y3⟩
                              clear hK K
                              try simp only [Act.put, List.setIfInBounds_toArray, List.set_cons_zero, List.set_cons_succ]
                              refine wpAnyH_ready (rs := [13]) (by kernel_rfl) (by simp) ?_
                              refine AllReadyH.cons (i := 13) (o := { dst := some 133, op := Go.Op.call { callee := Go.Callee.builtin Go.Builtin.append, args := #[Go.Operand.tmp 130, Go.Operand.tmp 132], argTypes := #[44, 44] }, type := 44, pos := "law.go:92", after := #[{ on := 10, ground := Go.Ground.data }, { on := 12, ground := Go.Ground.data }, { on := 10, ground := Go.Ground.chain }], guard := none }) rfl (fun K hK => ?_) AllReadyH.nil
                              obtain ⟨B6, d6, u6, hr, ht⟩ := HV5.out.turn.app (us := qq) RY6.out HNY.out HQ2.out (by omega)
                              have HR6 := hid hr
                              have HV6 := hid (ht.turn)
                              clear hr ht
                              rw [if_pos (by rfl)]
                              refine wp_append_run6 (.tmp 130) (.tmp 132) 44 rfl _ _ HR6.out ?_
                              refine hK.out _ _ ?_ (fun hH6 => ?_)
                              · exact ⟨cell_later HV6.out.below x3, cell_later HV6.out.below y3⟩
                              clear hK K
                              try simp only [Act.put, List.setIfInBounds_toArray, List.set_cons_zero, List.set_cons_succ]
                              refine wpAnyH_take (i := 14) (oi := { dst := some 10, op := Go.Op.assign (Go.Operand.tmp 126), type := 44, pos := "law.go:92", after := #[{ on := 6, ground := Go.Ground.data }, { on := 13, ground := Go.Ground.chain }, { on := 0, ground := Go.Ground.phase }, { on := 1, ground := Go.Ground.phase }, { on := 2, ground := Go.Ground.phase }, { on := 3, ground := Go.Ground.phase }, { on := 4, ground := Go.Ground.phase }, { on := 5, ground := Go.Ground.phase }, { on := 6, ground := Go.Ground.phase }, { on := 7, ground := Go.Ground.textOnly Go.Departure.lateStores }, { on := 8, ground := Go.Ground.textOnly Go.Departure.lateStores }, { on := 9, ground := Go.Ground.textOnly Go.Departure.lateStores }, { on := 10, ground := Go.Ground.textOnly Go.Departure.lateStoresUnsure }, { on := 11, ground := Go.Ground.textOnly Go.Departure.lateStores }, { on := 12, ground := Go.Ground.textOnly Go.Departure.lateStores }, { on := 13, ground := Go.Ground.textOnly Go.Departure.lateStoresUnsure }], guard := none }) (v := ?vv40) rfl (by kernel_rfl) (by kernel_rfl) (by kernel_rfl) (fun _ _ _ h => h) (Or.inl ⟨by rfl, ?hy40⟩) (by assumption) ?rr40
                              case hy40 => intro w hSw; (try dsimp only at hSw); go_simp; all_goals with_reducible rfl
                              try simp only [Act.put, List.setIfInBounds_toArray, List.set_cons_zero, List.set_cons_succ]
                              refine wpAnyH_take (i := 15) (oi := { dst := some 11, op := Go.Op.assign (Go.Operand.tmp 133), type := 44, pos := "law.go:92", after := #[{ on := 13, ground := Go.Ground.data }, { on := 14, ground := Go.Ground.chain }, { on := 0, ground := Go.Ground.phase }, { on := 1, ground := Go.Ground.phase }, { on := 2, ground := Go.Ground.phase }, { on := 3, ground := Go.Ground.phase }, { on := 4, ground := Go.Ground.phase }, { on := 5, ground := Go.Ground.phase }, { on := 6, ground := Go.Ground.phase }, { on := 7, ground := Go.Ground.phase }, { on := 8, ground := Go.Ground.phase }, { on := 9, ground := Go.Ground.phase }, { on := 10, ground := Go.Ground.phase }, { on := 11, ground := Go.Ground.phase }, { on := 12, ground := Go.Ground.phase }, { on := 13, ground := Go.Ground.phase }, { on := 14, ground := Go.Ground.phase }], guard := none }) (v := ?vv41) rfl (by kernel_rfl) (by kernel_rfl) (by kernel_rfl) (fun _ _ _ h => h) (Or.inl ⟨by rfl, ?hy41⟩) (by assumption) ?rr41
                              case hy41 => intro w hSw; (try dsimp only at hSw); go_simp; all_goals with_reducible rfl
                              try simp only [Act.put, List.setIfInBounds_toArray, List.set_cons_zero, List.set_cons_succ]
                              refine wpAnyH_done (by kernel_rfl) ?_ _
                              go_wp2_with fail
                              go_meet
                              exact ⟨B4, B6, d4, d6, rfl, rfl, own_ints HV6.out.own1, own_ints HV6.out.own2, HV6.out.below⟩
                          · go_simp
                            have HV1 := hid ((Rows2.start w6).make2.drew)
                            refine hK.out _ _ ?_ (fun hH1 => ?_)
                            · exact ⟨cell_old x3, cell_old y3⟩
                            clear hK K
                            try simp only [Act.put, List.setIfInBounds_toArray, List.set_cons_zero, List.set_cons_succ]
                            refine wpAnyH_ready (rs := [0]) (by kernel_rfl) (by simp) ?_
                            refine AllReadyH.cons (i := 0) (o := { dst := some 120, op := Go.Op.buildSlice 44 0 #[], type := 44, pos := "law.go:92", after := #[], guard := none }) rfl (fun K hK => ?_) AllReadyH.nil
                            have HV2 : Hid (Rows2 w6 ((w6.alloc (.cells #[] 3)).alloc (.cells #[] 3)).drew (.slice (some ⟨w6.heap.size + 1, 0, none⟩) 0 0) (.slice (some ⟨w6.heap.size, 0, none⟩) 0 0) [] []) := by
                              have := ((Rows2.start w6).make2.make).drew
                              simpa [Hid] using this
                            go_simp
                            obtain ⟨W, hW⟩ : ∃ W, W = ((w6.alloc (.cells #[] 3)).alloc (.cells #[] 3)).drew := ⟨_, rfl⟩
                            rw [← hW] at HV2 ⊢
                            clear hW
                            refine hK.out _ _ ?_ (fun hH2 => ?_)
                            · exact ⟨cell_later HV2.out.below x3, cell_later HV2.out.below y3⟩
                            clear hK K
                            try simp only [Act.put, List.setIfInBounds_toArray, List.set_cons_zero, List.set_cons_succ]
                            refine wpAnyH_ready (rs := [3]) (by kernel_rfl) (by simp) ?_
                            refine AllReadyH.cons (i := 3) (o := { dst := some 123, op := Go.Op.call { callee := Go.Callee.builtin Go.Builtin.append, args := #[Go.Operand.tmp 120, Go.Operand.tmp 122], argTypes := #[44, 44] }, type := 44, pos := "law.go:92", after := #[{ on := 0, ground := Go.Ground.data }, { on := 2, ground := Go.Ground.data }], guard := none }) rfl (fun K hK => ?_) AllReadyH.nil
                            obtain ⟨B3, d3, u3, hr, ht⟩ := HV2.out.app (us := p) RX6.out HNX.out rfl (by omega)
                            have HR3 := hid hr
                            have HV3 := hid (ht)
                            clear hr ht
                            rw [if_pos (by rfl)]
                            refine wp_append_run6 (.tmp 120) (.tmp 122) 44 rfl _ _ HR3.out ?_
                            refine hK.out _ _ ?_ (fun hH3 => ?_)
                            · exact ⟨cell_later HV3.out.below x3, cell_later HV3.out.below y3⟩
                            clear hK K
                            try simp only [Act.put, List.setIfInBounds_toArray, List.set_cons_zero, List.set_cons_succ]
                            refine wpAnyH_ready (rs := [6]) (by kernel_rfl) (by simp) ?_
                            refine AllReadyH.cons (i := 6) (o := { dst := some 126, op := Go.Op.call { callee := Go.Callee.builtin Go.Builtin.append, args := #[Go.Operand.tmp 123, Go.Operand.tmp 125], argTypes := #[44, 44] }, type := 44, pos := "law.go:92", after := #[{ on := 3, ground := Go.Ground.data }, { on := 5, ground := Go.Ground.data }, { on := 3, ground := Go.Ground.chain }], guard := none }) rfl (fun K hK => ?_) AllReadyH.nil
                            obtain ⟨B4, d4, u4, hr, ht⟩ := HV3.out.app (us := pp) RX6.out HNX.out HP2.out (by omega)
                            have HR4 := hid hr
                            have HV4 := hid (ht)
                            clear hr ht
                            rw [if_pos (by rfl)]
                            refine wp_append_run6 (.tmp 123) (.tmp 125) 44 rfl _ _ HR4.out ?_
                            refine hK.out _ _ ?_ (fun hH4 => ?_)
                            · exact ⟨cell_later HV4.out.below x3, cell_later HV4.out.below y3⟩
                            clear hK K
                            try simp only [Act.put, List.setIfInBounds_toArray, List.set_cons_zero, List.set_cons_succ]
                            refine wpAnyH_ready (rs := [10]) (by kernel_rfl) (by simp) ?_
                            refine AllReadyH.cons (i := 10) (o := { dst := some 130, op := Go.Op.call { callee := Go.Callee.builtin Go.Builtin.append, args := #[Go.Operand.tmp 127, Go.Operand.tmp 129], argTypes := #[44, 44] }, type := 44, pos := "law.go:92", after := #[{ on := 7, ground := Go.Ground.data }, { on := 9, ground := Go.Ground.data }, { on := 6, ground := Go.Ground.chain }], guard := none }) rfl (fun K hK => ?_) AllReadyH.nil
                            obtain ⟨B5, d5, u5, hr, ht⟩ := HV4.out.turn.app (us := q) RY6.out HNY.out rfl (by omega)
                            have HR5 := hid hr
                            have HV5 := hid (ht.turn)
                            clear hr ht
                            rw [if_pos (by rfl)]
                            refine wp_append_run6 (.tmp 127) (.tmp 129) 44 rfl _ _ HR5.out ?_
                            refine hK.out _ _ ?_ (fun hH5 => ?_)
                            · exact ⟨cell_later HV5.out.below x3, cell_later HV5.out.below y3⟩
                            clear hK K
                            try simp only [Act.put, List.setIfInBounds_toArray, List.set_cons_zero, List.set_cons_succ]
                            refine wpAnyH_ready (rs := [13]) (by kernel_rfl) (by simp) ?_
                            refine AllReadyH.cons (i := 13) (o := { dst := some 133, op := Go.Op.call { callee := Go.Callee.builtin Go.Builtin.append, args := #[Go.Operand.tmp 130, Go.Operand.tmp 132], argTypes := #[44, 44] }, type := 44, pos := "law.go:92", after := #[{ on := 10, ground := Go.Ground.data }, { on := 12, ground := Go.Ground.data }, { on := 10, ground := Go.Ground.chain }], guard := none }) rfl (fun K hK => ?_) AllReadyH.nil
                            obtain ⟨B6, d6, u6, hr, ht⟩ := HV5.out.turn.app (us := qq) RY6.out HNY.out HQ2.out (by omega)
                            have HR6 := hid hr
                            have HV6 := hid (ht.turn)
                            clear hr ht
                            rw [if_pos (by rfl)]
                            refine wp_append_run6 (.tmp 130) (.tmp 132) 44 rfl _ _ HR6.out ?_
                            refine hK.out _ _ ?_ (fun hH6 => ?_)
                            · exact ⟨cell_later HV6.out.below x3, cell_later HV6.out.below y3⟩
                            clear hK K
                            try simp only [Act.put, List.setIfInBounds_toArray, List.set_cons_zero, List.set_cons_succ]
                            refine wpAnyH_take (i := 14) (oi := { dst := some 10, op := Go.Op.assign (Go.Operand.tmp 126), type := 44, pos := "law.go:92", after := #[{ on := 6, ground := Go.Ground.data }, { on := 13, ground := Go.Ground.chain }, { on := 0, ground := Go.Ground.phase }, { on := 1, ground := Go.Ground.phase }, { on := 2, ground := Go.Ground.phase }, { on := 3, ground := Go.Ground.phase }, { on := 4, ground := Go.Ground.phase }, { on := 5, ground := Go.Ground.phase }, { on := 6, ground := Go.Ground.phase }, { on := 7, ground := Go.Ground.textOnly Go.Departure.lateStores }, { on := 8, ground := Go.Ground.textOnly Go.Departure.lateStores }, { on := 9, ground := Go.Ground.textOnly Go.Departure.lateStores }, { on := 10, ground := Go.Ground.textOnly Go.Departure.lateStoresUnsure }, { on := 11, ground := Go.Ground.textOnly Go.Departure.lateStores }, { on := 12, ground := Go.Ground.textOnly Go.Departure.lateStores }, { on := 13, ground := Go.Ground.textOnly Go.Departure.lateStoresUnsure }], guard := none }) (v := ?vv42) rfl (by kernel_rfl) (by kernel_rfl) (by kernel_rfl) (fun _ _ _ h => h) (Or.inl ⟨by rfl, ?hy42⟩) (by assumption) ?rr42
                            case hy42 => intro w hSw; (try dsimp only at hSw); go_simp; all_goals with_reducible rfl
                            try simp only [Act.put, List.setIfInBounds_toArray, List.set_cons_zero, List.set_cons_succ]
                            refine wpAnyH_take (i := 15) (oi := { dst := some 11, op := Go.Op.assign (Go.Operand.tmp 133), type := 44, pos := "law.go:92", after := #[{ on := 13, ground := Go.Ground.data }, { on := 14, ground := Go.Ground.chain }, { on := 0, ground := Go.Ground.phase }, { on := 1, ground := Go.Ground.phase }, { on := 2, ground := Go.Ground.phase }, { on := 3, ground := Go.Ground.phase }, { on := 4, ground := Go.Ground.phase }, { on := 5, ground := Go.Ground.phase }, { on := 6, ground := Go.Ground.phase }, { on := 7, ground := Go.Ground.phase }, { on := 8, ground := Go.Ground.phase }, { on := 9, ground := Go.Ground.phase }, { on := 10, ground := Go.Ground.phase }, { on := 11, ground := Go.Ground.phase }, { on := 12, ground := Go.Ground.phase }, { on := 13, ground := Go.Ground.phase }, { on := 14, ground := Go.Ground.phase }], guard := none }) (v := ?vv43) rfl (by kernel_rfl) (by kernel_rfl) (by kernel_rfl) (fun _ _ _ h => h) (Or.inl ⟨by rfl, ?hy43⟩) (by assumption) ?rr43
                            case hy43 => intro w hSw; (try dsimp only at hSw); go_simp; all_goals with_reducible rfl
                            try simp only [Act.put, List.setIfInBounds_toArray, List.set_cons_zero, List.set_cons_succ]
                            refine wpAnyH_done (by kernel_rfl) ?_ _
                            go_wp2_with fail
                            go_meet
                            exact ⟨B4, B6, d4, d6, rfl, rfl, own_ints HV6.out.own1, own_ints HV6.out.own2, HV6.out.below⟩
                        case rest =>
                          rename World => w7
                          obtain ⟨A1, A2, c1, c2, rfl, rfl, hp, hq, hb⟩ := hcut
                          have PP := hid hp
                          have QQ := hid hq
                          clear hp hq
                          have HB7 := hid (HB6.out.trans (hb.mono HB6.out.size))
                          have X7 := hid (X6.out.later hb)
                          have Y7 := hid (Y6.out.later hb)
                          have Z7 := hid (Z6.out.later hb)
                          have OX7 := hid (OX6.out.below hb)
                          have RX7 := hid (RX6.out.below hb)
                          have OY7 := hid (OY6.out.below hb)
                          have RY7 := hid (RY6.out.below hb)
                          have OZ7 := hid (OZ6.out.below hb)
                          have RZ7 := hid (RZ6.out.below hb)
                          clear hb x0 x1 x2 x3 y0 y1 y2 y3 z0 z1 z2 z3
                          have x0 := X7.out.cell 0
                          have x1 := X7.out.cell 1
                          have x2 := X7.out.cell 2
                          have x3 := X7.out.cell 3
                          have y0 := Y7.out.cell 0
                          have y1 := Y7.out.cell 1
                          have y2 := Y7.out.cell 2
                          have y3 := Y7.out.cell 3
                          have z0 := Z7.out.cell 0
                          have z1 := Z7.out.cell 1
                          have z2 := Z7.out.cell 2
                          have z3 := Z7.out.cell 3
                          simp only [List.getElem?_toArray, List.getElem?_cons_zero, List.getElem?_cons_succ] at x0 x1 x2 x3 y0 y1 y2 y3 z0 z1 z2 z3
                          go_wp2_with fail
                          refine (same6 HSD.out A B A1 A2 ca cb c1 c2 _ OX7.out HFX.out PP.out (by omega) OY7.out HFY.out QQ.out (by omega)).mono ?_
                          rintro e w8 ⟨rfl, hb⟩
                          have HB8 := hid (HB7.out.trans (hb.mono HB7.out.size))
                          have X8 := hid (X7.out.later hb)
                          have Y8 := hid (Y7.out.later hb)
                          have Z8 := hid (Z7.out.later hb)
                          have OX8 := hid (OX7.out.below hb)
                          have RX8 := hid (RX7.out.below hb)
                          have OY8 := hid (OY7.out.below hb)
                          have RY8 := hid (RY7.out.below hb)
                          have OZ8 := hid (OZ7.out.below hb)
                          have RZ8 := hid (RZ7.out.below hb)
                          clear x0 x1 x2 x3 y0 y1 y2 y3 z0 z1 z2 z3
                          clear hb
                          have x0 := X8.out.cell 0
                          have x1 := X8.out.cell 1
                          have x2 := X8.out.cell 2
                          have x3 := X8.out.cell 3
                          have y0 := Y8.out.cell 0
                          have y1 := Y8.out.cell 1
                          have y2 := Y8.out.cell 2
                          have y3 := Y8.out.cell 3
                          have z0 := Z8.out.cell 0
                          have z1 := Z8.out.cell 1
                          have z2 := Z8.out.cell 2
                          have z3 := Z8.out.cell 3
                          simp only [List.getElem?_toArray, List.getElem?_cons_zero, List.getElem?_cons_succ] at x0 x1 x2 x3 y0 y1 y2 y3 z0 z1 z2 z3
                          go_wp2_with fail
                          go_ret
                          exact ⟨by simp, HB8.out⟩
end Go.Proofs.Ytjpibkcbgogfoaa
