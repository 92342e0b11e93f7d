/- HeapSwaps' walk: whatever heap, whatever two refs, it answers true. -/
import Derived.Test.YthmkhcdpieiphaaMB
namespace Go.Proofs.Ythmkhcdpieiphaa
open Go.RowKit
set_option maxRecDepth 100000 in
set_option maxHeartbeats 2000000 in
theorem swaps_any (h : Hp) (v u : Int) (A : Option Addr) (c : Nat) (w : World) (hs : ObsR w A h.objs) (fit : h.Fit) :
    Calls Try.prog 6 #[.agg #[.slice A h.objs.length c, .int .i64 h.cap, .int .i64 h.last], .int .i64 v, .int .i64 u] w fun e w' => e = .returned (.bool true) ∧ Below w.heap.size w w' := by
  have HB0 := hid (below_alloc w (.cells #[Value.slice A h.objs.length c, Value.int .i64 h.cap, Value.int .i64 h.last] 24))
  have X0 := hid (Lies.new w 24 #[Value.slice A h.objs.length c, Value.int .i64 h.cap, Value.int .i64 h.last])
  have O0 := hid (hs.below HB0.out)
  have HF := hid fit
  clear hs fit
  go_enter Try.func6, Try.ntmps6
  go_wp2_with fail
  refine (fixed_any _).mono ?_
  rintro e w1 ⟨rfl, hb⟩
  have HB1 := hid (HB0.out.trans (hb.mono HB0.out.size))
  have X1 := hid (X0.out.later hb)
  have O1 := hid (O0.out.below hb)
  clear hb
  have x0 := X1.out.cell 0
  have x1 := X1.out.cell 1
  have x2 := X1.out.cell 2
  simp only [List.getElem?_toArray, List.getElem?_cons_zero, List.getElem?_cons_succ] at x0 x1 x2
  go_wp2_with fail
  refine (small_ok h A c _ O1.out HF.out).mono ?_
  rintro e w2 ⟨sm, rfl, hb⟩
  have HB2 := hid (HB1.out.trans (hb.mono HB1.out.size))
  have X2 := hid (X1.out.later hb)
  have O2 := hid (O1.out.below hb)
  clear x0 x1 x2
  clear hb
  have x0 := X2.out.cell 0
  have x1 := X2.out.cell 1
  have x2 := X2.out.cell 2
  simp only [List.getElem?_toArray, List.getElem?_cons_zero, List.getElem?_cons_succ] at x0 x1 x2
  cases sm
  · go_wp2_with fail
    refine (fixed_any _).mono ?_
    rintro e w3 ⟨rfl, hb⟩
    have HB3 := hid (HB2.out.trans (hb.mono HB2.out.size))
    have X3 := hid (X2.out.later hb)
    have O3 := hid (O2.out.below hb)
    clear x0 x1 x2
    clear hb
    have x0 := X3.out.cell 0
    have x1 := X3.out.cell 1
    have x2 := X3.out.cell 2
    simp only [List.getElem?_toArray, List.getElem?_cons_zero, List.getElem?_cons_succ] at x0 x1 x2
    go_wp2_with fail
    go_ret
    exact ⟨rfl, HB3.out⟩
  · go_wp2_with fail
    refine (rmay_any h A c _ O2.out HF.out).mono ?_
    rintro e w3 ⟨rfl, hb⟩
    have HB3 := hid (HB2.out.trans (hb.mono HB2.out.size))
    have X3 := hid (X2.out.later hb)
    have O3 := hid (O2.out.below hb)
    clear x0 x1 x2
    clear hb
    have x0 := X3.out.cell 0
    have x1 := X3.out.cell 1
    have x2 := X3.out.cell 2
    simp only [List.getElem?_toArray, List.getElem?_cons_zero, List.getElem?_cons_succ] at x0 x1 x2
    cases hm : mayB h
    · go_wp2_with fail
      refine (fixed_any _).mono ?_
      rintro e w4 ⟨rfl, hb⟩
      have HB4 := hid (HB3.out.trans (hb.mono HB3.out.size))
      have X4 := hid (X3.out.later hb)
      have O4 := hid (O3.out.below hb)
      clear x0 x1 x2
      clear hb
      have x0 := X4.out.cell 0
      have x1 := X4.out.cell 1
      have x2 := X4.out.cell 2
      simp only [List.getElem?_toArray, List.getElem?_cons_zero, List.getElem?_cons_succ] at x0 x1 x2
      go_wp2_with fail
      go_ret
      exact ⟨rfl, HB4.out⟩
    · have HM := hid hm
      clear hm
      go_wp2_with fail
      refine (rref_any h v A c _).mono ?_
      rintro e w4 ⟨rfl, hb⟩
      have HB4 := hid (HB3.out.trans (hb.mono HB3.out.size))
      have X4 := hid (X3.out.later hb)
      have O4 := hid (O3.out.below hb)
      clear x0 x1 x2
      clear hb
      have x0 := X4.out.cell 0
      have x1 := X4.out.cell 1
      have x2 := X4.out.cell 2
      simp only [List.getElem?_toArray, List.getElem?_cons_zero, List.getElem?_cons_succ] at x0 x1 x2
      cases hv : refB h.objs.length v
      · rw [refI_no hv]
        clear hv
        go_wp2_with fail
        refine (fixed_any _).mono ?_
        rintro e w5 ⟨rfl, hb⟩
        have HB5 := hid (HB4.out.trans (hb.mono HB4.out.size))
        have X5 := hid (X4.out.later hb)
        have O5 := hid (O4.out.below hb)
        clear x0 x1 x2
        clear hb
        have x0 := X5.out.cell 0
        have x1 := X5.out.cell 1
        have x2 := X5.out.cell 2
        simp only [List.getElem?_toArray, List.getElem?_cons_zero, List.getElem?_cons_succ] at x0 x1 x2
        go_wp2_with fail
        go_ret
        exact ⟨rfl, HB5.out⟩
      · have g1 := refI_yes hv
        have g2 := refI_lss hv
        have HVV := hid hv
        clear hv
        go_wp2_with fail
        refine (rref_any h u A c _).mono ?_
        rintro e w5 ⟨rfl, hb⟩
        have HB5 := hid (HB4.out.trans (hb.mono HB4.out.size))
        have X5 := hid (X4.out.later hb)
        have O5 := hid (O4.out.below hb)
        clear x0 x1 x2
        clear hb
        have x0 := X5.out.cell 0
        have x1 := X5.out.cell 1
        have x2 := X5.out.cell 2
        simp only [List.getElem?_toArray, List.getElem?_cons_zero, List.getElem?_cons_succ] at x0 x1 x2
        clear g1 g2
        cases hu : refB h.objs.length u
        · rw [refI_no hu]
          clear hu
          have g2 := refI_lss HVV.out
          go_wp2_with fail
          refine (fixed_any _).mono ?_
          rintro e w6 ⟨rfl, hb⟩
          have HB6 := hid (HB5.out.trans (hb.mono HB5.out.size))
          have X6 := hid (X5.out.later hb)
          have O6 := hid (O5.out.below hb)
          clear x0 x1 x2
          clear hb
          have x0 := X6.out.cell 0
          have x1 := X6.out.cell 1
          have x2 := X6.out.cell 2
          simp only [List.getElem?_toArray, List.getElem?_cons_zero, List.getElem?_cons_succ] at x0 x1 x2
          go_wp2_with fail
          go_ret
          exact ⟨rfl, HB6.out⟩
        · have SWP := swaps HM.out HVV.out hu
          have g2 := refI_lss HVV.out
          have g3 := refI_lss hu
          obtain ⟨K, hK⟩ : ∃ K, K = swH h v u := ⟨_, rfl⟩
          rw [← hK] at SWP
          have G := hid SWP
          have RV := hid (refI_nonneg HVV.out)
          have RU := hid (refI_nonneg hu)
          clear SWP hu hK
          go_wp2_with fail
          refine (become_any h v u A c _ O5.out HF.out).mono ?_
          rw [G.out.e1, G.out.r1]
          rintro e w6 ⟨A6, c6, l6, rfl, hl6, ho6, hb⟩
          have HAL := hid (below_alloc w6 (.cells #[Value.slice A6 K.objs.length c6, Value.int .i64 K.cap, Value.int .i64 K.last] 24))
          have HB6 := hid ((HB5.out.trans (hb.mono HB5.out.size)).trans (HAL.out.mono (Nat.le_trans HB5.out.size hb.size)))
          have X6 := hid ((X5.out.later hb).later HAL.out)
          have O6 := hid ((O5.out.below hb).below HAL.out)
          have T6 := hid (Lies.new w6 24 #[Value.slice A6 K.objs.length c6, Value.int .i64 K.cap, Value.int .i64 K.last])
          have P6 := hid ((own_obs ho6 hl6).below HAL.out)
          clear x0 x1 x2
          clear hb
          clear hl6 ho6
          have x0 := X6.out.cell 0
          have x1 := X6.out.cell 1
          have x2 := X6.out.cell 2
          have t0 := T6.out.cell 0
          have t1 := T6.out.cell 1
          have t2 := T6.out.cell 2
          simp only [List.getElem?_toArray, List.getElem?_cons_zero, List.getElem?_cons_succ] at x0 x1 x2 t0 t1 t2
          clear g2 g3
          go_wp2_with fail
          refine (become_any K u v A6 c6 _ P6.out G.out.fit).mono ?_
          rw [G.out.e2, G.out.r2]
          rintro e w7 ⟨A7, c7, l7, rfl, hl7, ho7, hb⟩
          have HAL := hid (below_alloc w7 (.cells #[Value.slice A7 h.objs.length c7, Value.int .i64 h.cap, Value.int .i64 h.last] 24))
          have HB7 := hid ((HB6.out.trans (hb.mono HB6.out.size)).trans (HAL.out.mono (Nat.le_trans HB6.out.size hb.size)))
          have X7 := hid ((X6.out.later hb).later HAL.out)
          have T7 := hid ((T6.out.later hb).later HAL.out)
          have O7 := hid ((O6.out.below hb).below HAL.out)
          have P7 := hid ((P6.out.below hb).below HAL.out)
          have U7 := hid (Lies.new w7 24 #[Value.slice A7 h.objs.length c7, Value.int .i64 h.cap, Value.int .i64 h.last])
          have Q7 := hid ((own_obs ho7 hl7).below HAL.out)
          clear x0 x1 x2 t0 t1 t2
          clear hb
          clear hl7 ho7
          have x0 := X7.out.cell 0
          have x1 := X7.out.cell 1
          have x2 := X7.out.cell 2
          have t0 := T7.out.cell 0
          have t1 := T7.out.cell 1
          have t2 := T7.out.cell 2
          have u0 := U7.out.cell 0
          have u1 := U7.out.cell 1
          have u2 := U7.out.cell 2
          simp only [List.getElem?_toArray, List.getElem?_cons_zero, List.getElem?_cons_succ] at x0 x1 x2 t0 t1 t2 u0 u1 u2
          go_wp2_with fail
          refine (become_any h u v A c _ O7.out HF.out).mono ?_
          rw [G.out.e3, G.out.r3]
          rintro e w8 ⟨A8, c8, l8, rfl, hl8, ho8, hb⟩
          have HAL := hid (below_alloc w8 (.cells #[Value.slice A8 K.objs.length c8, Value.int .i64 K.cap, Value.int .i64 K.last] 24))
          have HB8 := hid ((HB7.out.trans (hb.mono HB7.out.size)).trans (HAL.out.mono (Nat.le_trans HB7.out.size hb.size)))
          have X8 := hid ((X7.out.later hb).later HAL.out)
          have T8 := hid ((T7.out.later hb).later HAL.out)
          have U8 := hid ((U7.out.later hb).later HAL.out)
          have O8 := hid ((O7.out.below hb).below HAL.out)
          have P8 := hid ((P7.out.below hb).below HAL.out)
          have Q8 := hid ((Q7.out.below hb).below HAL.out)
          have V8 := hid (Lies.new w8 24 #[Value.slice A8 K.objs.length c8, Value.int .i64 K.cap, Value.int .i64 K.last])
          have R8 := hid ((own_obs ho8 hl8).below HAL.out)
          clear x0 x1 x2 t0 t1 t2 u0 u1 u2
          clear hb
          clear hl8 ho8
          have x0 := X8.out.cell 0
          have x1 := X8.out.cell 1
          have x2 := X8.out.cell 2
          have t0 := T8.out.cell 0
          have t1 := T8.out.cell 1
          have t2 := T8.out.cell 2
          have u0 := U8.out.cell 0
          have u1 := U8.out.cell 1
          have u2 := U8.out.cell 2
          have v0 := V8.out.cell 0
          have v1 := V8.out.cell 1
          have v2 := V8.out.cell 2
          simp only [List.getElem?_toArray, List.getElem?_cons_zero, List.getElem?_cons_succ] at x0 x1 x2 t0 t1 t2 u0 u1 u2 v0 v1 v2
          go_wp2_with fail
          refine (become_any h v v A c _ O8.out HF.out).mono ?_
          rw [G.out.e4, G.out.r4]
          rintro e w9 ⟨A9, c9, l9, rfl, hl9, ho9, hb⟩
          have HAL := hid (below_alloc w9 (.cells #[Value.slice A9 h.objs.length c9, Value.int .i64 h.cap, Value.int .i64 h.last] 24))
          have HB9 := hid ((HB8.out.trans (hb.mono HB8.out.size)).trans (HAL.out.mono (Nat.le_trans HB8.out.size hb.size)))
          have X9 := hid ((X8.out.later hb).later HAL.out)
          have T9 := hid ((T8.out.later hb).later HAL.out)
          have U9 := hid ((U8.out.later hb).later HAL.out)
          have V9 := hid ((V8.out.later hb).later HAL.out)
          have O9 := hid ((O8.out.below hb).below HAL.out)
          have P9 := hid ((P8.out.below hb).below HAL.out)
          have Q9 := hid ((Q8.out.below hb).below HAL.out)
          have R9 := hid ((R8.out.below hb).below HAL.out)
          have S9 := hid (Lies.new w9 24 #[Value.slice A9 h.objs.length c9, Value.int .i64 h.cap, Value.int .i64 h.last])
          have Z9 := hid ((own_obs ho9 hl9).below HAL.out)
          clear x0 x1 x2 t0 t1 t2 u0 u1 u2 v0 v1 v2
          clear hb
          clear hl9 ho9
          have x0 := X9.out.cell 0
          have x1 := X9.out.cell 1
          have x2 := X9.out.cell 2
          have t0 := T9.out.cell 0
          have t1 := T9.out.cell 1
          have t2 := T9.out.cell 2
          have u0 := U9.out.cell 0
          have u1 := U9.out.cell 1
          have u2 := U9.out.cell 2
          have v0 := V9.out.cell 0
          have v1 := V9.out.cell 1
          have v2 := V9.out.cell 2
          have s0 := S9.out.cell 0
          have s1 := S9.out.cell 1
          have s2 := S9.out.cell 2
          simp only [List.getElem?_toArray, List.getElem?_cons_zero, List.getElem?_cons_succ] at x0 x1 x2 t0 t1 t2 u0 u1 u2 v0 v1 v2 s0 s1 s2
          go_wp2_with fail
          refine (same_any h A7 A c7 c _ Q9.out O9.out HF.out).mono ?_
          rintro e w10 ⟨rfl, hb⟩
          have HB10 := hid (HB9.out.trans (hb.mono HB9.out.size))
          have X10 := hid (X9.out.later hb)
          have T10 := hid (T9.out.later hb)
          have U10 := hid (U9.out.later hb)
          have V10 := hid (V9.out.later hb)
          have S10 := hid (S9.out.later hb)
          have O10 := hid (O9.out.below hb)
          have P10 := hid (P9.out.below hb)
          have Q10 := hid (Q9.out.below hb)
          have R10 := hid (R9.out.below hb)
          have Z10 := hid (Z9.out.below hb)
          clear x0 x1 x2 t0 t1 t2 u0 u1 u2 v0 v1 v2 s0 s1 s2
          clear hb
          have x0 := X10.out.cell 0
          have x1 := X10.out.cell 1
          have x2 := X10.out.cell 2
          have t0 := T10.out.cell 0
          have t1 := T10.out.cell 1
          have t2 := T10.out.cell 2
          have u0 := U10.out.cell 0
          have u1 := U10.out.cell 1
          have u2 := U10.out.cell 2
          have v0 := V10.out.cell 0
          have v1 := V10.out.cell 1
          have v2 := V10.out.cell 2
          have s0 := S10.out.cell 0
          have s1 := S10.out.cell 1
          have s2 := S10.out.cell 2
          simp only [List.getElem?_toArray, List.getElem?_cons_zero, List.getElem?_cons_succ] at x0 x1 x2 t0 t1 t2 u0 u1 u2 v0 v1 v2 s0 s1 s2
          go_wp2_with fail
          refine (same_any K A6 A8 c6 c8 _ P10.out R10.out G.out.fit).mono ?_
          rintro e w11 ⟨rfl, hb⟩
          have HB11 := hid (HB10.out.trans (hb.mono HB10.out.size))
          have X11 := hid (X10.out.later hb)
          have T11 := hid (T10.out.later hb)
          have U11 := hid (U10.out.later hb)
          have V11 := hid (V10.out.later hb)
          have S11 := hid (S10.out.later hb)
          have O11 := hid (O10.out.below hb)
          have P11 := hid (P10.out.below hb)
          have Q11 := hid (Q10.out.below hb)
          have R11 := hid (R10.out.below hb)
          have Z11 := hid (Z10.out.below hb)
          clear x0 x1 x2 t0 t1 t2 u0 u1 u2 v0 v1 v2 s0 s1 s2
          clear hb
          have x0 := X11.out.cell 0
          have x1 := X11.out.cell 1
          have x2 := X11.out.cell 2
          have t0 := T11.out.cell 0
          have t1 := T11.out.cell 1
          have t2 := T11.out.cell 2
          have u0 := U11.out.cell 0
          have u1 := U11.out.cell 1
          have u2 := U11.out.cell 2
          have v0 := V11.out.cell 0
          have v1 := V11.out.cell 1
          have v2 := V11.out.cell 2
          have s0 := S11.out.cell 0
          have s1 := S11.out.cell 1
          have s2 := S11.out.cell 2
          simp only [List.getElem?_toArray, List.getElem?_cons_zero, List.getElem?_cons_succ] at x0 x1 x2 t0 t1 t2 u0 u1 u2 v0 v1 v2 s0 s1 s2
          go_wp2_with fail
          refine (same_any h A9 A c9 c _ Z11.out O11.out HF.out).mono ?_
          rintro e w12 ⟨rfl, hb⟩
          have HB12 := hid (HB11.out.trans (hb.mono HB11.out.size))
          have X12 := hid (X11.out.later hb)
          have T12 := hid (T11.out.later hb)
          have U12 := hid (U11.out.later hb)
          have V12 := hid (V11.out.later hb)
          have S12 := hid (S11.out.later hb)
          have O12 := hid (O11.out.below hb)
          have P12 := hid (P11.out.below hb)
          have Q12 := hid (Q11.out.below hb)
          have R12 := hid (R11.out.below hb)
          have Z12 := hid (Z11.out.below hb)
          clear x0 x1 x2 t0 t1 t2 u0 u1 u2 v0 v1 v2 s0 s1 s2
          clear hb
          have x0 := X12.out.cell 0
          have x1 := X12.out.cell 1
          have x2 := X12.out.cell 2
          have t0 := T12.out.cell 0
          have t1 := T12.out.cell 1
          have t2 := T12.out.cell 2
          have u0 := U12.out.cell 0
          have u1 := U12.out.cell 1
          have u2 := U12.out.cell 2
          have v0 := V12.out.cell 0
          have v1 := V12.out.cell 1
          have v2 := V12.out.cell 2
          have s0 := S12.out.cell 0
          have s1 := S12.out.cell 1
          have s2 := S12.out.cell 2
          simp only [List.getElem?_toArray, List.getElem?_cons_zero, List.getElem?_cons_succ] at x0 x1 x2 t0 t1 t2 u0 u1 u2 v0 v1 v2 s0 s1 s2
          go_wp2_with fail
          refine (rmay_any K A6 c6 _ P12.out G.out.fit).mono ?_
          rintro e w13 ⟨rfl, hb⟩
          rw [G.out.may]
          have HB13 := hid (HB12.out.trans (hb.mono HB12.out.size))
          have X13 := hid (X12.out.later hb)
          have T13 := hid (T12.out.later hb)
          have U13 := hid (U12.out.later hb)
          have V13 := hid (V12.out.later hb)
          have S13 := hid (S12.out.later hb)
          have O13 := hid (O12.out.below hb)
          have P13 := hid (P12.out.below hb)
          have Q13 := hid (Q12.out.below hb)
          have R13 := hid (R12.out.below hb)
          have Z13 := hid (Z12.out.below hb)
          clear x0 x1 x2 t0 t1 t2 u0 u1 u2 v0 v1 v2 s0 s1 s2
          clear hb
          have x0 := X13.out.cell 0
          have x1 := X13.out.cell 1
          have x2 := X13.out.cell 2
          have t0 := T13.out.cell 0
          have t1 := T13.out.cell 1
          have t2 := T13.out.cell 2
          have u0 := U13.out.cell 0
          have u1 := U13.out.cell 1
          have u2 := U13.out.cell 2
          have v0 := V13.out.cell 0
          have v1 := V13.out.cell 1
          have v2 := V13.out.cell 2
          have s0 := S13.out.cell 0
          have s1 := S13.out.cell 1
          have s2 := S13.out.cell 2
          simp only [List.getElem?_toArray, List.getElem?_cons_zero, List.getElem?_cons_succ] at x0 x1 x2 t0 t1 t2 u0 u1 u2 v0 v1 v2 s0 s1 s2
          obtain ⟨i, hi⟩ : ∃ i : Nat, atV v = i := ⟨_, (Int.toNat_of_nonneg G.out.lo).symm⟩
          obtain ⟨j, hj⟩ : ∃ j : Nat, atV u = j := ⟨_, (Int.toNat_of_nonneg G.out.lo').symm⟩
          have hil : i < h.objs.length := by have := G.out.hi; omega
          have hjl : j < h.objs.length := by have := G.out.hi'; omega
          have hkl : i < K.objs.length := by rw [G.out.len]; exact hil
          have ho := List.getElem?_eq_getElem hjl
          have ho' : K.objs[i]? = some h.objs[j] := by
            have := G.out.at_
            rw [hi, hj] at this
            simp only [Int.toNat_natCast] at this
            rw [this]; exact ho
          have hol := HF.out.slots (List.getElem_mem hjl)
          obtain ⟨o, hoo⟩ : ∃ o, o = h.objs[j] := ⟨_, rfl⟩
          rw [← hoo] at ho ho' hol
          obtain ⟨bs, os, rfl, hbs, hcs⟩ := O13.out (by omega)
          obtain ⟨bt, ot, rfl, hbt, hct⟩ := P13.out (by omega)
          obtain ⟨S2, d2, ⟨k0, k1, k2, k3, k4, k5⟩, hin, _⟩ := hcs j _ ho
          obtain ⟨S1, d1, ⟨m0, m1, m2, m3, m4, m5⟩, hin', _⟩ := hct i _ ho'
          have HI := hid hin
          have HI' := hid hin'
          have rv : refI h.objs.length v = i := by rw [RV.out, hi]
          have ru : refI h.objs.length u = j := by rw [RU.out, hj]
          clear hcs hct hin hin' hi hj ho ho' hoo
          go_wp2_with fail
          refine wp_region_held_drew (S := (fun w' => w'.cell? ⟨w.heap.size, 0, none⟩ = some (.slice (some ⟨bs, os, none⟩) h.objs.length c) ∧ w'.cell? ⟨w.heap.size, 1, none⟩ = some (.int .i64 h.cap) ∧ w'.cell? ⟨w.heap.size, 2, none⟩ = some (.int .i64 h.last) ∧ w'.cell? ⟨w6.heap.size, 0, none⟩ = some (.slice (some ⟨bt, ot, none⟩) K.objs.length c6) ∧ w'.cell? ⟨bs, os + j * 6, none⟩ = some (.int .i64 o.cls) ∧ w'.cell? ⟨bs, os + j * 6 + 1, none⟩ = some (.int .i64 o.kind) ∧ w'.cell? ⟨bs, os + j * 6 + 2, none⟩ = some (.slice S2 o.slots.length d2) ∧ w'.cell? ⟨bs, os + j * 6 + 3, none⟩ = some (.string o.text) ∧ w'.cell? ⟨bs, os + j * 6 + 4, none⟩ = some (.int .i64 o.bits) ∧ w'.cell? ⟨bs, os + j * 6 + 5, none⟩ = some (.int .i64 o.hash) ∧ w'.cell? ⟨bt, ot + i * 6, none⟩ = some (.int .i64 o.cls) ∧ w'.cell? ⟨bt, ot + i * 6 + 1, none⟩ = some (.int .i64 o.kind) ∧ w'.cell? ⟨bt, ot + i * 6 + 2, none⟩ = some (.slice S1 o.slots.length d1) ∧ w'.cell? ⟨bt, ot + i * 6 + 3, none⟩ = some (.string o.text) ∧ w'.cell? ⟨bt, ot + i * 6 + 4, none⟩ = some (.int .i64 o.bits) ∧ w'.cell? ⟨bt, ot + i * 6 + 5, none⟩ = some (.int .i64 o.hash) ∧ Below w13.heap.size w13 w')) (by kernel_rfl) ?_ (fun hHeld => ?_)
          · exact ⟨x0, x1, x2, t0, k0, k1, k2, k3, k4, k5, m0, m1, m2, m3, m4, m5, (Below.refl _ _).drew⟩
          refine wpAnyH_take (i := 0) (oi := { dst := some 105, op := Go.Op.fieldAddr 24 (Go.Operand.tmp 7) 0, type := 0, pos := "law.go:99", after := #[], guard := none }) (v := ?vv1) rfl (by kernel_rfl) (by kernel_rfl) (by kernel_rfl) (fun _ _ _ h => h) (Or.inl ⟨by rfl, ?hy1⟩) (by assumption) ?rr1
          case hy1 => intro w hSw; (try dsimp only at hSw); go_simp; all_goals with_reducible rfl
          try simp only [Act.put, List.setIfInBounds_toArray, List.set_cons_zero, List.set_cons_succ]
          refine wpAnyH_take (i := 1) (oi := { dst := some 106, op := Go.Op.load 22 (Go.Operand.tmp 105), type := 22, pos := "law.go:99", after := #[{ on := 0, ground := Go.Ground.data }], guard := none }) (v := ?vv2) rfl (by kernel_rfl) (by kernel_rfl) (by kernel_rfl) (fun _ _ _ h => h) (Or.inl ⟨by rfl, ?hy2⟩) (by assumption) ?rr2
          case hy2 => intro w hSw; (try dsimp only at hSw); go_simp; all_goals with_reducible rfl
          try simp only [Act.put, List.setIfInBounds_toArray, List.set_cons_zero, List.set_cons_succ]
          refine wpAnyH_take (i := 2) (oi := { dst := some 107, op := Go.Op.load 24 (Go.Operand.tmp 3), type := 24, pos := "law.go:99", after := #[], guard := none }) (v := ?vv3) rfl (by kernel_rfl) (by kernel_rfl) (by kernel_rfl) (fun _ _ _ h => h) (Or.inl ⟨by rfl, ?hy3⟩) (by assumption) ?rr3
          case hy3 => intro w hSw; (try dsimp only at hSw); go_simp; all_goals with_reducible rfl
          try simp only [Act.put, List.setIfInBounds_toArray, List.set_cons_zero, List.set_cons_succ]
          refine wpAnyH_take (i := 3) (oi := { dst := some 108, op := Go.Op.move (Go.Operand.tmp 1), type := 3, pos := "law.go:99", after := #[], guard := none }) (v := ?vv4) rfl (by kernel_rfl) (by kernel_rfl) (by kernel_rfl) (fun _ _ _ h => h) (Or.inl ⟨by rfl, ?hy4⟩) (by assumption) ?rr4
          case hy4 => intro w hSw; (try dsimp only at hSw); go_simp; all_goals with_reducible rfl
          try simp only [Act.put, List.setIfInBounds_toArray, List.set_cons_zero, List.set_cons_succ]
          refine wpAnyH_take (i := 7) (oi := { dst := some 112, op := Go.Op.fieldAddr 24 (Go.Operand.tmp 3) 0, type := 0, pos := "law.go:99", after := #[], guard := none }) (v := ?vv5) rfl (by kernel_rfl) (by kernel_rfl) (by kernel_rfl) (fun _ _ _ h => h) (Or.inl ⟨by rfl, ?hy5⟩) (by assumption) ?rr5
          case hy5 => intro w hSw; (try dsimp only at hSw); go_simp; all_goals with_reducible rfl
          try simp only [Act.put, List.setIfInBounds_toArray, List.set_cons_zero, List.set_cons_succ]
          refine wpAnyH_take (i := 8) (oi := { dst := some 113, op := Go.Op.load 22 (Go.Operand.tmp 112), type := 22, pos := "law.go:99", after := #[{ on := 7, ground := Go.Ground.data }], guard := none }) (v := ?vv6) rfl (by kernel_rfl) (by kernel_rfl) (by kernel_rfl) (fun _ _ _ h => h) (Or.inl ⟨by rfl, ?hy6⟩) (by assumption) ?rr6
          case hy6 => intro w hSw; (try dsimp only at hSw); go_simp; all_goals with_reducible rfl
          try simp only [Act.put, List.setIfInBounds_toArray, List.set_cons_zero, List.set_cons_succ]
          refine wpAnyH_take (i := 9) (oi := { dst := some 114, op := Go.Op.load 24 (Go.Operand.tmp 3), type := 24, pos := "law.go:99", after := #[], guard := none }) (v := ?vv7) rfl (by kernel_rfl) (by kernel_rfl) (by kernel_rfl) (fun _ _ _ h => h) (Or.inl ⟨by rfl, ?hy7⟩) (by assumption) ?rr7
          case hy7 => intro w hSw; (try dsimp only at hSw); go_simp; all_goals with_reducible rfl
          try simp only [Act.put, List.setIfInBounds_toArray, List.set_cons_zero, List.set_cons_succ]
          refine wpAnyH_take (i := 10) (oi := { dst := some 115, op := Go.Op.move (Go.Operand.tmp 2), type := 3, pos := "law.go:99", after := #[], guard := none }) (v := ?vv8) rfl (by kernel_rfl) (by kernel_rfl) (by kernel_rfl) (fun _ _ _ h => h) (Or.inl ⟨by rfl, ?hy8⟩) (by assumption) ?rr8
          case hy8 => intro w hSw; (try dsimp only at hSw); go_simp; all_goals with_reducible rfl
          try simp only [Act.put, List.setIfInBounds_toArray, List.set_cons_zero, List.set_cons_succ]
          refine wpAnyH_ready (rs := [4]) (by kernel_rfl) (by simp) ?_
          refine AllReadyH.cons (i := 4) (o := { dst := some 109, op := Go.Op.call { callee := Go.Callee.value (Go.Operand.func 29), args := #[Go.Operand.tmp 107, Go.Operand.tmp 108], argTypes := #[24, 3] }, type := 3, pos := "law.go:99", after := #[{ on := 2, ground := Go.Ground.data }, { on := 3, ground := Go.Ground.data }], guard := none }) rfl (fun K hK => ?_) AllReadyH.nil
          go_simp
          go_at_call 29; refine (rref_any h v (some ⟨bs, os, none⟩) c _).mono ?_; rintro e w' ⟨rfl, hb⟩; rw [rv]
          refine hK.out _ _ ?_ (fun hHeld => ?_)
          · exact ⟨cell_later hb x0, cell_later hb x1, cell_later hb x2, cell_later hb t0, cell_later hb k0, cell_later hb k1, cell_later hb k2, cell_later hb k3, cell_later hb k4, cell_later hb k5, cell_later hb m0, cell_later hb m1, cell_later hb m2, cell_later hb m3, cell_later hb m4, cell_later hb m5, (Below.refl _ _).drew.trans hb⟩
          clear hK K
          try simp only [Act.put, List.setIfInBounds_toArray, List.set_cons_zero, List.set_cons_succ]
          have hH1 := hHeld
          clear hHeld hb
          refine wpAnyH_take (i := 5) (oi := { dst := some 110, op := Go.Op.indexAddr 22 (Go.Operand.tmp 106) (Go.Operand.tmp 109), type := 0, pos := "law.go:99", after := #[{ on := 1, ground := Go.Ground.data }, { on := 4, ground := Go.Ground.data }], guard := none }) (v := ?vv9) rfl (by kernel_rfl) (by kernel_rfl) (by kernel_rfl) (fun _ _ _ h => h) (Or.inl ⟨by rfl, ?hy9⟩) (by assumption) ?rr9
          case hy9 => intro w hSw; (try dsimp only at hSw); go_simp; all_goals with_reducible rfl
          try simp only [Act.put, List.setIfInBounds_toArray, List.set_cons_zero, List.set_cons_succ]
          refine wpAnyH_take (i := 6) (oi := { dst := some 111, op := Go.Op.load 46 (Go.Operand.tmp 110), type := 46, pos := "law.go:99", after := #[{ on := 5, ground := Go.Ground.data }], guard := none }) (v := ?vv10) rfl (by kernel_rfl) (by kernel_rfl) (by kernel_rfl) (fun _ _ _ h => h) (Or.inl ⟨by rfl, ?hy10⟩) (by assumption) ?rr10
          case hy10 => intro w hSw; (try dsimp only at hSw); go_simp; all_goals with_reducible rfl
          try simp only [Act.put, List.setIfInBounds_toArray, List.set_cons_zero, List.set_cons_succ]
          refine wpAnyH_ready (rs := [11]) (by kernel_rfl) (by simp) ?_
          refine AllReadyH.cons (i := 11) (o := { dst := some 116, op := Go.Op.call { callee := Go.Callee.value (Go.Operand.func 29), args := #[Go.Operand.tmp 114, Go.Operand.tmp 115], argTypes := #[24, 3] }, type := 3, pos := "law.go:99", after := #[{ on := 9, ground := Go.Ground.data }, { on := 10, ground := Go.Ground.data }, { on := 4, ground := Go.Ground.chain }], guard := none }) rfl (fun K hK => ?_) AllReadyH.nil
          go_simp
          go_at_call 29; refine (rref_any h u (some ⟨bs, os, none⟩) c _).mono ?_; rintro e w' ⟨rfl, hb⟩; rw [ru]
          refine hK.out _ _ ?_ (fun hHeld => ?_)
          · exact ⟨cell_later hb hH1.1, cell_later hb hH1.2.1, cell_later hb hH1.2.2.1, cell_later hb hH1.2.2.2.1, cell_later hb hH1.2.2.2.2.1, cell_later hb hH1.2.2.2.2.2.1, cell_later hb hH1.2.2.2.2.2.2.1, cell_later hb hH1.2.2.2.2.2.2.2.1, cell_later hb hH1.2.2.2.2.2.2.2.2.1, cell_later hb hH1.2.2.2.2.2.2.2.2.2.1, cell_later hb hH1.2.2.2.2.2.2.2.2.2.2.1, cell_later hb hH1.2.2.2.2.2.2.2.2.2.2.2.1, cell_later hb hH1.2.2.2.2.2.2.2.2.2.2.2.2.1, cell_later hb hH1.2.2.2.2.2.2.2.2.2.2.2.2.2.1, cell_later hb hH1.2.2.2.2.2.2.2.2.2.2.2.2.2.2.1, cell_later hb hH1.2.2.2.2.2.2.2.2.2.2.2.2.2.2.2.1, hH1.2.2.2.2.2.2.2.2.2.2.2.2.2.2.2.2.trans (hb.mono hH1.2.2.2.2.2.2.2.2.2.2.2.2.2.2.2.2.size)⟩
          clear hK K
          try simp only [Act.put, List.setIfInBounds_toArray, List.set_cons_zero, List.set_cons_succ]
          have hH2 := hHeld
          clear hHeld hb
          refine wpAnyH_take (i := 12) (oi := { dst := some 117, op := Go.Op.indexAddr 22 (Go.Operand.tmp 113) (Go.Operand.tmp 116), type := 0, pos := "law.go:99", after := #[{ on := 8, ground := Go.Ground.data }, { on := 11, ground := Go.Ground.data }], guard := none }) (v := ?vv11) rfl (by kernel_rfl) (by kernel_rfl) (by kernel_rfl) (fun _ _ _ h => h) (Or.inl ⟨by rfl, ?hy11⟩) (by assumption) ?rr11
          case hy11 => intro w hSw; (try dsimp only at hSw); go_simp; all_goals with_reducible rfl
          try simp only [Act.put, List.setIfInBounds_toArray, List.set_cons_zero, List.set_cons_succ]
          refine wpAnyH_take (i := 13) (oi := { dst := some 118, op := Go.Op.load 46 (Go.Operand.tmp 117), type := 46, pos := "law.go:99", after := #[{ on := 12, ground := Go.Ground.data }], guard := none }) (v := ?vv12) rfl (by kernel_rfl) (by kernel_rfl) (by kernel_rfl) (fun _ _ _ h => h) (Or.inl ⟨by rfl, ?hy12⟩) (by assumption) ?rr12
          case hy12 => intro w hSw; (try dsimp only at hSw); go_simp; all_goals with_reducible rfl
          try simp only [Act.put, List.setIfInBounds_toArray, List.set_cons_zero, List.set_cons_succ]
          refine wpAnyH_ready (rs := [14]) (by kernel_rfl) (by simp) ?_
          refine AllReadyH.cons (i := 14) (o := { dst := some 119, op := Go.Op.call { callee := Go.Callee.value (Go.Operand.func 30), args := #[Go.Operand.tmp 111, Go.Operand.tmp 118], argTypes := #[46, 46] }, type := 4, pos := "law.go:99", after := #[{ on := 6, ground := Go.Ground.data }, { on := 13, ground := Go.Ground.data }, { on := 11, ground := Go.Ground.chain }], guard := none }) rfl (fun K hK => ?_) AllReadyH.nil
          go_simp
          go_at_call 30; refine (one_same o S1 S2 d1 d2 _ (HI'.out.below hH2.2.2.2.2.2.2.2.2.2.2.2.2.2.2.2.2) (HI.out.below hH2.2.2.2.2.2.2.2.2.2.2.2.2.2.2.2.2) hol).mono ?_; rintro e w' ⟨rfl, hb⟩
          refine hK.out _ _ ?_ (fun hHeld => ?_)
          · exact ⟨cell_later hb hH2.1, cell_later hb hH2.2.1, cell_later hb hH2.2.2.1, cell_later hb hH2.2.2.2.1, cell_later hb hH2.2.2.2.2.1, cell_later hb hH2.2.2.2.2.2.1, cell_later hb hH2.2.2.2.2.2.2.1, cell_later hb hH2.2.2.2.2.2.2.2.1, cell_later hb hH2.2.2.2.2.2.2.2.2.1, cell_later hb hH2.2.2.2.2.2.2.2.2.2.1, cell_later hb hH2.2.2.2.2.2.2.2.2.2.2.1, cell_later hb hH2.2.2.2.2.2.2.2.2.2.2.2.1, cell_later hb hH2.2.2.2.2.2.2.2.2.2.2.2.2.1, cell_later hb hH2.2.2.2.2.2.2.2.2.2.2.2.2.2.1, cell_later hb hH2.2.2.2.2.2.2.2.2.2.2.2.2.2.2.1, cell_later hb hH2.2.2.2.2.2.2.2.2.2.2.2.2.2.2.2.1, hH2.2.2.2.2.2.2.2.2.2.2.2.2.2.2.2.2.trans (hb.mono hH2.2.2.2.2.2.2.2.2.2.2.2.2.2.2.2.2.size)⟩
          clear hK K
          try simp only [Act.put, List.setIfInBounds_toArray, List.set_cons_zero, List.set_cons_succ]
          refine wpAnyH_take (i := 15) (oi := { dst := some 6, op := Go.Op.assign (Go.Operand.tmp 119), type := 4, pos := "law.go:99", after := #[{ on := 14, ground := Go.Ground.data }, { on := 14, ground := Go.Ground.chain }, { on := 0, ground := Go.Ground.phase }, { on := 1, ground := Go.Ground.phase }, { on := 2, ground := Go.Ground.phase }, { on := 3, ground := Go.Ground.phase }, { on := 4, ground := Go.Ground.phase }, { on := 5, ground := Go.Ground.phase }, { on := 6, ground := Go.Ground.phase }, { on := 7, ground := Go.Ground.phase }, { on := 8, ground := Go.Ground.phase }, { on := 9, ground := Go.Ground.phase }, { on := 10, ground := Go.Ground.phase }, { on := 11, ground := Go.Ground.phase }, { on := 12, ground := Go.Ground.phase }, { on := 13, ground := Go.Ground.phase }, { on := 14, ground := Go.Ground.phase }], guard := none }) (v := ?vv13) rfl (by kernel_rfl) (by kernel_rfl) (by kernel_rfl) (fun _ _ _ h => h) (Or.inl ⟨by rfl, ?hy13⟩) (by assumption) ?rr13
          case hy13 => intro w hSw; (try dsimp only at hSw); go_simp; all_goals with_reducible rfl
          try simp only [Act.put, List.setIfInBounds_toArray, List.set_cons_zero, List.set_cons_succ]
          refine wpAnyH_done (by kernel_rfl) ?_ _
          have HB14 := hid (HB13.out.trans (hHeld.2.2.2.2.2.2.2.2.2.2.2.2.2.2.2.2.mono HB13.out.size))
          go_wp2_with fail
          go_ret
          exact ⟨rfl, HB14.out⟩
end Go.Proofs.Ythmkhcdpieiphaa
