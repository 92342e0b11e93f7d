/- HeapBytes' walk: whatever heap, whatever places, it answers true. -/
import Derived.Test.YtpeojbkbeigahaaBM
namespace Go.Proofs.Ytpeojbkbeigahaa
open Go.RowKit
set_option maxRecDepth 100000 in
set_option maxHeartbeats 2000000 in
theorem bytes_any (h : Hp) (a b d a' b' d' : Int) (A : Option Addr) (c : Nat) (w : World) (hs : ObsR w A h.objs) (fit : h.Fit) :
    Calls Try.prog 8 #[.agg #[.slice A h.objs.length c, .int .i64 h.cap, .int .i64 h.last], .agg #[.int .i64 a, .int .i64 b, .int .i64 d], .agg #[.int .i64 a', .int .i64 b', .int .i64 d']] w fun e w' => e = .returned (.bool true) ∧ Below w.heap.size w w' := by
  have HB0 : Hid (Below w.heap.size w (((w.alloc (.cells #[Value.slice A h.objs.length c, Value.int .i64 h.cap, Value.int .i64 h.last] 24)).alloc (.cells #[.int .i64 a, .int .i64 b, .int .i64 d] 26)).alloc (.cells #[.int .i64 a', .int .i64 b', .int .i64 d'] 26))) := (below_alloc2 w _ _).alloc (by simp; omega) _
  have X0 := hid (((Lies.new w 24 #[Value.slice A h.objs.length c, Value.int .i64 h.cap, Value.int .i64 h.last]).alloc (.cells #[.int .i64 a, .int .i64 b, .int .i64 d] 26)).alloc (.cells #[.int .i64 a', .int .i64 b', .int .i64 d'] 26))
  have Y0 : Hid (Lies (((w.alloc (.cells #[Value.slice A h.objs.length c, Value.int .i64 h.cap, Value.int .i64 h.last] 24)).alloc (.cells #[.int .i64 a, .int .i64 b, .int .i64 d] 26)).alloc (.cells #[.int .i64 a', .int .i64 b', .int .i64 d'] 26)) (w.heap.size + 1) 26 #[.int .i64 a, .int .i64 b, .int .i64 d]) := by
    have := (Lies.new (w.alloc (.cells #[Value.slice A h.objs.length c, Value.int .i64 h.cap, Value.int .i64 h.last] 24)) 26 #[.int .i64 a, .int .i64 b, .int .i64 d]).alloc (.cells #[.int .i64 a', .int .i64 b', .int .i64 d'] 26)
    simpa [Hid] using this
  have Z0 : Hid (Lies (((w.alloc (.cells #[Value.slice A h.objs.length c, Value.int .i64 h.cap, Value.int .i64 h.last] 24)).alloc (.cells #[.int .i64 a, .int .i64 b, .int .i64 d] 26)).alloc (.cells #[.int .i64 a', .int .i64 b', .int .i64 d'] 26)) (w.heap.size + 1 + 1) 26 #[.int .i64 a', .int .i64 b', .int .i64 d']) := by
    have := Lies.new ((w.alloc (.cells #[Value.slice A h.objs.length c, Value.int .i64 h.cap, Value.int .i64 h.last] 24)).alloc (.cells #[.int .i64 a, .int .i64 b, .int .i64 d] 26)) 26 #[.int .i64 a', .int .i64 b', .int .i64 d']
    simpa [Hid] using this
  have O0 := hid (hs.below HB0.out)
  have HF := hid fit
  clear hs fit
  go_enter Try.func8, Try.ntmps8
  go_wp2_with fail
  refine (fixed_any _).mono ?_
  rintro e w1 ⟨rfl, hb⟩
  have X1 := hid (X0.out.later hb)
  have Y1 := hid (Y0.out.later hb)
  have Z1 := hid (Z0.out.later hb)
  have O1 := hid (O0.out.below hb)
  have HB1 := hid (HB0.out.trans (hb.mono HB0.out.size))
  have x0 := X1.out.cell 0
  have x1 := X1.out.cell 1
  have x2 := X1.out.cell 2
  simp only [List.getElem?_toArray, List.getElem?_cons_zero, List.getElem?_cons_succ] at x0 x1 x2
  clear hb
  go_wp2_with fail
  refine (small_ok h A c _ O1.out HF.out).mono ?_
  rintro e w2 ⟨sm, rfl, hb⟩
  have X2 := hid (X1.out.later hb)
  have Y2 := hid (Y1.out.later hb)
  have Z2 := hid (Z1.out.later hb)
  have O2 := hid (O1.out.below hb)
  have HB2 := hid (HB1.out.trans (hb.mono HB1.out.size))
  clear hb x0 x1 x2
  cases sm
  · go_wp2_with fail
    refine (fixed_any _).mono ?_
    rintro e w3 ⟨rfl, hb⟩
    have HB3 := hid (HB2.out.trans (hb.mono HB2.out.size))
    clear hb
    go_wp2_with fail
    go_ret
    exact ⟨rfl, HB3.out⟩
  · have x0 := X2.out.cell 0
    have x1 := X2.out.cell 1
    have x2 := X2.out.cell 2
    simp only [List.getElem?_toArray, List.getElem?_cons_zero, List.getElem?_cons_succ] at x0 x1 x2
    go_wp2_with fail
    refine (rmay_any h A c _ O2.out HF.out).mono ?_
    rintro e w3 ⟨rfl, hb⟩
    have X3 := hid (X2.out.later hb)
    have Y3 := hid (Y2.out.later hb)
    have Z3 := hid (Z2.out.later hb)
    have O3 := hid (O2.out.below hb)
    have HB3 := hid (HB2.out.trans (hb.mono HB2.out.size))
    clear hb x0 x1 x2
    cases hm : mayB h
    · go_wp2_with fail
      refine (fixed_any _).mono ?_
      rintro e w4 ⟨rfl, hb⟩
      have HB4 := hid (HB3.out.trans (hb.mono HB3.out.size))
      clear hb
      go_wp2_with fail
      go_ret
      exact ⟨rfl, HB4.out⟩
    · have HM := hid hm
      clear hm
      have x0 := X3.out.cell 0
      have x1 := X3.out.cell 1
      have x2 := X3.out.cell 2
      have y0 := Y3.out.cell 0
      have y1 := Y3.out.cell 1
      have y2 := Y3.out.cell 2
      simp only [List.getElem?_toArray, List.getElem?_cons_zero, List.getElem?_cons_succ] at x0 x1 x2 y0 y1 y2
      go_wp2_with fail
      refine (byte_any h a b A c _ O3.out HF.out).mono ?_
      rintro e w4 ⟨rfl, hb⟩
      have HB4 := hid (HB3.out.trans (hb.mono HB3.out.size))
      have X4 := hid (X3.out.later hb)
      have Y4 := hid (Y3.out.later hb)
      have Z4 := hid (Z3.out.later hb)
      have O4 := hid (O3.out.below hb)
      clear x0 x1 x2 y0 y1 y2
      clear hb
      have x0 := X4.out.cell 0
      have x1 := X4.out.cell 1
      have x2 := X4.out.cell 2
      have y0 := Y4.out.cell 0
      have y1 := Y4.out.cell 1
      have y2 := Y4.out.cell 2
      simp only [List.getElem?_toArray, List.getElem?_cons_zero, List.getElem?_cons_succ] at x0 x1 x2 y0 y1 y2
      go_wp2_with fail
      refine (setbyte_any h a b d A c _ O4.out HF.out).mono ?_
      by_cases e0 : plE h a 1 b = 0
      · by_cases hx : 0 ≤ d ∧ d ≤ 255
        · obtain ⟨k1, k2⟩ := sb_ok e0 hx
          rw [k1, k2]
          have m5 := sb_may (x := d) (placedT e0)
          have g1 := sb_get e0 hx.1 hx.2
          have g2 : plE (sbH h a b d) a 1 b = 0 := by rw [sb_plE (placedT e0)]; exact e0
          have g3 : plE (sbH h a b d) a' 1 b' = plE h a' 1 b' := sb_plE (placedT e0) _ _ _
          have g4 := sb_other (x := d) (u := a') (l := b') e0
          obtain ⟨k3, k4⟩ := sb_ok (h := sbH h a b d) (x := byV h a b) g2 (byV_lt h a b)
          rw [sb_back e0] at k4
          obtain ⟨H5, hH5⟩ : ∃ H, H = sbH h a b d := ⟨_, rfl⟩
          rw [← hH5] at m5 g1 g2 g3 g4 k3 k4 ⊢
          have G := hid (And.intro m5 (And.intro g1 (And.intro g2 (And.intro g3 (And.intro g4 (And.intro k3 k4))))))
          have F5 := hid (may_fit m5)
          have E0 := hid e0
          have e1 : (plE h a 1 b != 0) = false := by simpa using e0
          obtain ⟨hd0, hd1⟩ := hx
          clear k1 k2 e0 m5 g1 g2 g3 g4 k3 k4 hH5
          rintro e w5 ⟨A5, c5, l5, rfl, hl5, ho5, hb⟩
          have HAL := hid (below_alloc w5 (.cells #[Value.slice A5 H5.objs.length c5, Value.int .i64 H5.cap, Value.int .i64 H5.last] 24))
          have HB5 := hid ((HB4.out.trans (hb.mono HB4.out.size)).trans (HAL.out.mono (Nat.le_trans HB4.out.size hb.size)))
          have X5 := hid ((X4.out.later hb).later HAL.out)
          have Y5 := hid ((Y4.out.later hb).later HAL.out)
          have Z5 := hid ((Z4.out.later hb).later HAL.out)
          have O5 := hid ((O4.out.below hb).below HAL.out)
          have T5 := hid (Lies.new w5 24 #[Value.slice A5 H5.objs.length c5, Value.int .i64 H5.cap, Value.int .i64 H5.last])
          have P5 := hid ((own_obs ho5 hl5).below HAL.out)
          clear x0 x1 x2 y0 y1 y2
          clear hb
          clear hl5 ho5
          have x0 := X5.out.cell 0
          have x1 := X5.out.cell 1
          have x2 := X5.out.cell 2
          have y0 := Y5.out.cell 0
          have y1 := Y5.out.cell 1
          have y2 := Y5.out.cell 2
          have t0 := T5.out.cell 0
          have t1 := T5.out.cell 1
          have t2 := T5.out.cell 2
          simp only [List.getElem?_toArray, List.getElem?_cons_zero, List.getElem?_cons_succ] at x0 x1 x2 y0 y1 y2 t0 t1 t2
          go_wp2_with fail
          refine (byte_any H5 a b A5 c5 _ P5.out F5.out).mono ?_
          rintro e w6 ⟨rfl, hb⟩
          rw [G.out.2.1, G.out.2.2.1]
          have HB6 := hid (HB5.out.trans (hb.mono HB5.out.size))
          have X6 := hid (X5.out.later hb)
          have Y6 := hid (Y5.out.later hb)
          have Z6 := hid (Z5.out.later hb)
          have T6 := hid (T5.out.later hb)
          have O6 := hid (O5.out.below hb)
          have P6 := hid (P5.out.below hb)
          clear x0 x1 x2 y0 y1 y2 t0 t1 t2
          clear hb
          have x0 := X6.out.cell 0
          have x1 := X6.out.cell 1
          have x2 := X6.out.cell 2
          have y0 := Y6.out.cell 0
          have y1 := Y6.out.cell 1
          have y2 := Y6.out.cell 2
          have t0 := T6.out.cell 0
          have t1 := T6.out.cell 1
          have t2 := T6.out.cell 2
          simp only [List.getElem?_toArray, List.getElem?_cons_zero, List.getElem?_cons_succ] at x0 x1 x2 y0 y1 y2 t0 t1 t2
          go_wp2_with fail
          refine (setbyte_any H5 a b (byV h a b) A5 c5 _ P6.out F5.out).mono ?_
          rw [G.out.2.2.2.2.2.1, G.out.2.2.2.2.2.2]
          rintro e w7 ⟨A7, c7, l7, rfl, hl7, ho7, hb⟩
          have HAL := hid (below_alloc w7 (.cells #[Value.slice A7 h.objs.length c7, Value.int .i64 h.cap, Value.int .i64 h.last] 24))
          have HB7 := hid ((HB6.out.trans (hb.mono HB6.out.size)).trans (HAL.out.mono (Nat.le_trans HB6.out.size hb.size)))
          have X7 := hid ((X6.out.later hb).later HAL.out)
          have Y7 := hid ((Y6.out.later hb).later HAL.out)
          have Z7 := hid ((Z6.out.later hb).later HAL.out)
          have T7 := hid ((T6.out.later hb).later HAL.out)
          have O7 := hid ((O6.out.below hb).below HAL.out)
          have P7 := hid ((P6.out.below hb).below HAL.out)
          have U7 := hid (Lies.new w7 24 #[Value.slice A7 h.objs.length c7, Value.int .i64 h.cap, Value.int .i64 h.last])
          have Q7 := hid ((own_obs ho7 hl7).below HAL.out)
          clear x0 x1 x2 y0 y1 y2 t0 t1 t2
          clear hb
          clear hl7 ho7
          have x0 := X7.out.cell 0
          have x1 := X7.out.cell 1
          have x2 := X7.out.cell 2
          have y0 := Y7.out.cell 0
          have y1 := Y7.out.cell 1
          have y2 := Y7.out.cell 2
          have z0 := Z7.out.cell 0
          have z1 := Z7.out.cell 1
          have z2 := Z7.out.cell 2
          have t0 := T7.out.cell 0
          have t1 := T7.out.cell 1
          have t2 := T7.out.cell 2
          have u0 := U7.out.cell 0
          have u1 := U7.out.cell 1
          have u2 := U7.out.cell 2
          simp only [List.getElem?_toArray, List.getElem?_cons_zero, List.getElem?_cons_succ] at x0 x1 x2 y0 y1 y2 z0 z1 z2 t0 t1 t2 u0 u1 u2
          go_wp2_with fail
          refine (byte_any h a' b' A c _ O7.out HF.out).mono ?_
          rintro e w8 ⟨rfl, hb⟩
          have HB8 := hid (HB7.out.trans (hb.mono HB7.out.size))
          have X8 := hid (X7.out.later hb)
          have Y8 := hid (Y7.out.later hb)
          have Z8 := hid (Z7.out.later hb)
          have T8 := hid (T7.out.later hb)
          have U8 := hid (U7.out.later hb)
          have O8 := hid (O7.out.below hb)
          have P8 := hid (P7.out.below hb)
          have Q8 := hid (Q7.out.below hb)
          clear x0 x1 x2 y0 y1 y2 z0 z1 z2 t0 t1 t2 u0 u1 u2
          clear hb
          have x0 := X8.out.cell 0
          have x1 := X8.out.cell 1
          have x2 := X8.out.cell 2
          have y0 := Y8.out.cell 0
          have y1 := Y8.out.cell 1
          have y2 := Y8.out.cell 2
          have z0 := Z8.out.cell 0
          have z1 := Z8.out.cell 1
          have z2 := Z8.out.cell 2
          have t0 := T8.out.cell 0
          have t1 := T8.out.cell 1
          have t2 := T8.out.cell 2
          have u0 := U8.out.cell 0
          have u1 := U8.out.cell 1
          have u2 := U8.out.cell 2
          simp only [List.getElem?_toArray, List.getElem?_cons_zero, List.getElem?_cons_succ] at x0 x1 x2 y0 y1 y2 z0 z1 z2 t0 t1 t2 u0 u1 u2
          go_wp2_with fail
          refine (byte_any H5 a' b' A5 c5 _ P8.out F5.out).mono ?_
          rintro e w9 ⟨rfl, hb⟩
          rw [G.out.2.2.2.1]
          have HB9 := hid (HB8.out.trans (hb.mono HB8.out.size))
          have X9 := hid (X8.out.later hb)
          have Y9 := hid (Y8.out.later hb)
          have Z9 := hid (Z8.out.later hb)
          have T9 := hid (T8.out.later hb)
          have U9 := hid (U8.out.later hb)
          have O9 := hid (O8.out.below hb)
          have P9 := hid (P8.out.below hb)
          have Q9 := hid (Q8.out.below hb)
          clear x0 x1 x2 y0 y1 y2 z0 z1 z2 t0 t1 t2 u0 u1 u2
          clear hb
          have x0 := X9.out.cell 0
          have x1 := X9.out.cell 1
          have x2 := X9.out.cell 2
          have y0 := Y9.out.cell 0
          have y1 := Y9.out.cell 1
          have y2 := Y9.out.cell 2
          have z0 := Z9.out.cell 0
          have z1 := Z9.out.cell 1
          have z2 := Z9.out.cell 2
          have t0 := T9.out.cell 0
          have t1 := T9.out.cell 1
          have t2 := T9.out.cell 2
          have u0 := U9.out.cell 0
          have u1 := U9.out.cell 1
          have u2 := U9.out.cell 2
          simp only [List.getElem?_toArray, List.getElem?_cons_zero, List.getElem?_cons_succ] at x0 x1 x2 y0 y1 y2 z0 z1 z2 t0 t1 t2 u0 u1 u2
          go_wp2_with fail
          refine (same_any h A7 A c7 c _ Q9.out O9.out HF.out).mono ?_
          rintro e w10 ⟨rfl, hb⟩
          have HB10 := hid (HB9.out.trans (hb.mono HB9.out.size))
          have X10 := hid (X9.out.later hb)
          have Y10 := hid (Y9.out.later hb)
          have Z10 := hid (Z9.out.later hb)
          have T10 := hid (T9.out.later hb)
          have U10 := hid (U9.out.later hb)
          have O10 := hid (O9.out.below hb)
          have P10 := hid (P9.out.below hb)
          have Q10 := hid (Q9.out.below hb)
          clear x0 x1 x2 y0 y1 y2 z0 z1 z2 t0 t1 t2 u0 u1 u2
          clear hb
          have x0 := X10.out.cell 0
          have x1 := X10.out.cell 1
          have x2 := X10.out.cell 2
          have y0 := Y10.out.cell 0
          have y1 := Y10.out.cell 1
          have y2 := Y10.out.cell 2
          have z0 := Z10.out.cell 0
          have z1 := Z10.out.cell 1
          have z2 := Z10.out.cell 2
          have t0 := T10.out.cell 0
          have t1 := T10.out.cell 1
          have t2 := T10.out.cell 2
          have u0 := U10.out.cell 0
          have u1 := U10.out.cell 1
          have u2 := U10.out.cell 2
          simp only [List.getElem?_toArray, List.getElem?_cons_zero, List.getElem?_cons_succ] at x0 x1 x2 y0 y1 y2 z0 z1 z2 t0 t1 t2 u0 u1 u2
          go_wp2_with fail
          refine (rmay_any H5 A5 c5 _ P10.out F5.out).mono ?_
          rintro e w11 ⟨rfl, hb⟩
          rw [G.out.1]
          have HB11 := hid (HB10.out.trans (hb.mono HB10.out.size))
          have X11 := hid (X10.out.later hb)
          have Y11 := hid (Y10.out.later hb)
          have Z11 := hid (Z10.out.later hb)
          have T11 := hid (T10.out.later hb)
          have U11 := hid (U10.out.later hb)
          have O11 := hid (O10.out.below hb)
          have P11 := hid (P10.out.below hb)
          have Q11 := hid (Q10.out.below hb)
          clear x0 x1 x2 y0 y1 y2 z0 z1 z2 t0 t1 t2 u0 u1 u2
          clear hb
          have x0 := X11.out.cell 0
          have x1 := X11.out.cell 1
          have x2 := X11.out.cell 2
          have y0 := Y11.out.cell 0
          have y1 := Y11.out.cell 1
          have y2 := Y11.out.cell 2
          have z0 := Z11.out.cell 0
          have z1 := Z11.out.cell 1
          have z2 := Z11.out.cell 2
          have t0 := T11.out.cell 0
          have t1 := T11.out.cell 1
          have t2 := T11.out.cell 2
          have u0 := U11.out.cell 0
          have u1 := U11.out.cell 1
          have u2 := U11.out.cell 2
          simp only [List.getElem?_toArray, List.getElem?_cons_zero, List.getElem?_cons_succ] at x0 x1 x2 y0 y1 y2 z0 z1 z2 t0 t1 t2 u0 u1 u2
          rcases G.out.2.2.2.2.1 with g4 | ⟨g4, g5⟩
          · rw [← g4]
            clear g4
            go_wp2_with fail
            go_ret
            exact ⟨rfl, HB11.out⟩
          · have g6 : (a == a') = true := by simpa using g4
            have g7 : (b == b') = true := by simpa using g5
            clear g4 g5
            go_wp2_with fail
            all_goals go_ret
            all_goals exact ⟨rfl, HB11.out⟩
        · rcases (show d < 0 ∨ (0 ≤ d ∧ 255 < d) by omega) with hd | hd
          · obtain ⟨k1, k2⟩ := sb_range e0 hx
            rw [k1, k2]
            have e1 : (plE h a 1 b != 0) = false := by simpa using e0
            clear k1 k2 e0 hx
            rintro e w5 ⟨A5, c5, l5, rfl, hl5, ho5, hb⟩
            have HAL := hid (below_alloc w5 (.cells #[Value.slice A5 h.objs.length c5, Value.int .i64 h.cap, Value.int .i64 h.last] 24))
            have HB5 := hid ((HB4.out.trans (hb.mono HB4.out.size)).trans (HAL.out.mono (Nat.le_trans HB4.out.size hb.size)))
            have X5 := hid ((X4.out.later hb).later HAL.out)
            have Y5 := hid ((Y4.out.later hb).later HAL.out)
            have Z5 := hid ((Z4.out.later hb).later HAL.out)
            have O5 := hid ((O4.out.below hb).below HAL.out)
            have T5 := hid (Lies.new w5 24 #[Value.slice A5 h.objs.length c5, Value.int .i64 h.cap, Value.int .i64 h.last])
            have P5 := hid ((own_obs ho5 hl5).below HAL.out)
            clear x0 x1 x2 y0 y1 y2
            clear hb
            clear hl5 ho5
            have x0 := X5.out.cell 0
            have x1 := X5.out.cell 1
            have x2 := X5.out.cell 2
            have y0 := Y5.out.cell 0
            have y1 := Y5.out.cell 1
            have y2 := Y5.out.cell 2
            have t0 := T5.out.cell 0
            have t1 := T5.out.cell 1
            have t2 := T5.out.cell 2
            simp only [List.getElem?_toArray, List.getElem?_cons_zero, List.getElem?_cons_succ] at x0 x1 x2 y0 y1 y2 t0 t1 t2
            go_wp2_with fail
            refine (same_any h A5 A c5 c _ P5.out O5.out HF.out).mono ?_
            rintro e w6 ⟨rfl, hb⟩
            have HB6 := hid (HB5.out.trans (hb.mono HB5.out.size))
            have X6 := hid (X5.out.later hb)
            have Y6 := hid (Y5.out.later hb)
            have Z6 := hid (Z5.out.later hb)
            have T6 := hid (T5.out.later hb)
            have O6 := hid (O5.out.below hb)
            have P6 := hid (P5.out.below hb)
            clear x0 x1 x2 y0 y1 y2 t0 t1 t2
            clear hb
            have x0 := X6.out.cell 0
            have x1 := X6.out.cell 1
            have x2 := X6.out.cell 2
            have y0 := Y6.out.cell 0
            have y1 := Y6.out.cell 1
            have y2 := Y6.out.cell 2
            have t0 := T6.out.cell 0
            have t1 := T6.out.cell 1
            have t2 := T6.out.cell 2
            simp only [List.getElem?_toArray, List.getElem?_cons_zero, List.getElem?_cons_succ] at x0 x1 x2 y0 y1 y2 t0 t1 t2
            go_wp2_with fail
            go_ret
            exact ⟨rfl, HB6.out⟩
          · obtain ⟨k1, k2⟩ := sb_range e0 hx
            rw [k1, k2]
            have e1 : (plE h a 1 b != 0) = false := by simpa using e0
            clear k1 k2 e0 hx
            obtain ⟨hd0, hd1⟩ := hd
            rintro e w5 ⟨A5, c5, l5, rfl, hl5, ho5, hb⟩
            have HAL := hid (below_alloc w5 (.cells #[Value.slice A5 h.objs.length c5, Value.int .i64 h.cap, Value.int .i64 h.last] 24))
            have HB5 := hid ((HB4.out.trans (hb.mono HB4.out.size)).trans (HAL.out.mono (Nat.le_trans HB4.out.size hb.size)))
            have X5 := hid ((X4.out.later hb).later HAL.out)
            have Y5 := hid ((Y4.out.later hb).later HAL.out)
            have Z5 := hid ((Z4.out.later hb).later HAL.out)
            have O5 := hid ((O4.out.below hb).below HAL.out)
            have T5 := hid (Lies.new w5 24 #[Value.slice A5 h.objs.length c5, Value.int .i64 h.cap, Value.int .i64 h.last])
            have P5 := hid ((own_obs ho5 hl5).below HAL.out)
            clear x0 x1 x2 y0 y1 y2
            clear hb
            clear hl5 ho5
            have x0 := X5.out.cell 0
            have x1 := X5.out.cell 1
            have x2 := X5.out.cell 2
            have y0 := Y5.out.cell 0
            have y1 := Y5.out.cell 1
            have y2 := Y5.out.cell 2
            have t0 := T5.out.cell 0
            have t1 := T5.out.cell 1
            have t2 := T5.out.cell 2
            simp only [List.getElem?_toArray, List.getElem?_cons_zero, List.getElem?_cons_succ] at x0 x1 x2 y0 y1 y2 t0 t1 t2
            go_wp2_with fail
            refine (same_any h A5 A c5 c _ P5.out O5.out HF.out).mono ?_
            rintro e w6 ⟨rfl, hb⟩
            have HB6 := hid (HB5.out.trans (hb.mono HB5.out.size))
            have X6 := hid (X5.out.later hb)
            have Y6 := hid (Y5.out.later hb)
            have Z6 := hid (Z5.out.later hb)
            have T6 := hid (T5.out.later hb)
            have O6 := hid (O5.out.below hb)
            have P6 := hid (P5.out.below hb)
            clear x0 x1 x2 y0 y1 y2 t0 t1 t2
            clear hb
            have x0 := X6.out.cell 0
            have x1 := X6.out.cell 1
            have x2 := X6.out.cell 2
            have y0 := Y6.out.cell 0
            have y1 := Y6.out.cell 1
            have y2 := Y6.out.cell 2
            have t0 := T6.out.cell 0
            have t1 := T6.out.cell 1
            have t2 := T6.out.cell 2
            simp only [List.getElem?_toArray, List.getElem?_cons_zero, List.getElem?_cons_succ] at x0 x1 x2 y0 y1 y2 t0 t1 t2
            go_wp2_with fail
            go_ret
            exact ⟨rfl, HB6.out⟩
      · obtain ⟨k1, k2⟩ := sb_no HM.out (x := d) e0
        rw [k1, k2]
        have e1 : (plE h a 1 b != 0) = true := by simpa using e0
        clear k1 k2 e0
        rintro e w5 ⟨A5, c5, l5, rfl, hl5, ho5, hb⟩
        have HAL := hid (below_alloc w5 (.cells #[Value.slice A5 h.objs.length c5, Value.int .i64 h.cap, Value.int .i64 h.last] 24))
        have HB5 := hid ((HB4.out.trans (hb.mono HB4.out.size)).trans (HAL.out.mono (Nat.le_trans HB4.out.size hb.size)))
        have X5 := hid ((X4.out.later hb).later HAL.out)
        have Y5 := hid ((Y4.out.later hb).later HAL.out)
        have Z5 := hid ((Z4.out.later hb).later HAL.out)
        have O5 := hid ((O4.out.below hb).below HAL.out)
        have T5 := hid (Lies.new w5 24 #[Value.slice A5 h.objs.length c5, Value.int .i64 h.cap, Value.int .i64 h.last])
        have P5 := hid ((own_obs ho5 hl5).below HAL.out)
        clear x0 x1 x2 y0 y1 y2
        clear hb
        clear hl5 ho5
        have x0 := X5.out.cell 0
        have x1 := X5.out.cell 1
        have x2 := X5.out.cell 2
        have y0 := Y5.out.cell 0
        have y1 := Y5.out.cell 1
        have y2 := Y5.out.cell 2
        have t0 := T5.out.cell 0
        have t1 := T5.out.cell 1
        have t2 := T5.out.cell 2
        simp only [List.getElem?_toArray, List.getElem?_cons_zero, List.getElem?_cons_succ] at x0 x1 x2 y0 y1 y2 t0 t1 t2
        go_wp2_with fail
        refine (same_any h A5 A c5 c _ P5.out O5.out HF.out).mono ?_
        rintro e w6 ⟨rfl, hb⟩
        have HB6 := hid (HB5.out.trans (hb.mono HB5.out.size))
        have X6 := hid (X5.out.later hb)
        have Y6 := hid (Y5.out.later hb)
        have Z6 := hid (Z5.out.later hb)
        have T6 := hid (T5.out.later hb)
        have O6 := hid (O5.out.below hb)
        have P6 := hid (P5.out.below hb)
        clear x0 x1 x2 y0 y1 y2 t0 t1 t2
        clear hb
        have x0 := X6.out.cell 0
        have x1 := X6.out.cell 1
        have x2 := X6.out.cell 2
        have y0 := Y6.out.cell 0
        have y1 := Y6.out.cell 1
        have y2 := Y6.out.cell 2
        have t0 := T6.out.cell 0
        have t1 := T6.out.cell 1
        have t2 := T6.out.cell 2
        simp only [List.getElem?_toArray, List.getElem?_cons_zero, List.getElem?_cons_succ] at x0 x1 x2 y0 y1 y2 t0 t1 t2
        go_wp2_with fail
        go_ret
        exact ⟨rfl, HB6.out⟩
end Go.Proofs.Ytpeojbkbeigahaa
