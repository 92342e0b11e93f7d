/- MoveTells walked: whatever heap, roots and asking, it answers true. -/
import Derived.Test.YtelljlmjhnjpiaaVG
import Derived.Test.YtelljlmjhnjpiaaNL
import Derived.Test.YtelljlmjhnjpiaaR
import Derived.Test.YtelljlmjhnjpiaaN
import Derived.Test.YtelljlmjhnjpiaaMB
namespace Go.Proofs.Ytelljlmjhnjpiaa
open Go.RowKit
set_option maxRecDepth 100000
theorem coH_fit (h : Hp) (rs : List Int) : (coH h rs).Fit := by
  by_cases e : liE h rs = 0
  · exact may_fit (co_may e)
  · rw [coH_no e]; exact fitZ
set_option maxHeartbeats 1500000 in
theorem tells5_any (h : Hp) (rs : List Int) (xs : List Int) (v : Int) (A : Option Addr) (c : Nat) (R : Option Addr) (d : Nat) (AT : Option Addr) (cT : Nat) (w : World) (hs : ObsR w A h.objs) (fit : h.Fit) (hr : IntsR w R rs) (hl : rs.length ≤ 9223372036854775807) (ht : IntsR w AT xs) (hxl : xs.length ≤ 9223372036854775807) :
    Calls Try.prog 9 #[.agg #[.slice A h.objs.length c, .int .i64 h.cap, .int .i64 h.last], .slice R rs.length d, .agg #[Value.slice AT xs.length cT, Value.int .i64 v]] w fun e w' => e = .returned (.bool true) ∧ Below w.heap.size w w' := by
  have HB0 := hid (below_alloc2 w (.cells #[Value.slice A h.objs.length c, Value.int .i64 h.cap, Value.int .i64 h.last] 24) (.cells #[Value.slice AT xs.length cT, Value.int .i64 v] 49))
  have X0 := hid ((Lies.new w 24 #[Value.slice A h.objs.length c, Value.int .i64 h.cap, Value.int .i64 h.last]).alloc (.cells #[Value.slice AT xs.length cT, Value.int .i64 v] 49))
  have Y0 : Hid (Lies ((w.alloc (.cells #[Value.slice A h.objs.length c, Value.int .i64 h.cap, Value.int .i64 h.last] 24)).alloc (.cells #[Value.slice AT xs.length cT, Value.int .i64 v] 49)) (w.heap.size + 1) 49 #[Value.slice AT xs.length cT, Value.int .i64 v]) := by
    have := Lies.new (w.alloc (.cells #[Value.slice A h.objs.length c, Value.int .i64 h.cap, Value.int .i64 h.last] 24)) 49 #[Value.slice AT xs.length cT, Value.int .i64 v]
    simpa [Hid] using this
  have T0 := hid (ht.below HB0.out)
  have O0 := hid (hs.below HB0.out)
  have R0 := hid (hr.below HB0.out)
  have HF := hid fit
  have hfl := fit.1
  clear hs fit hr ht
  go_enter Try.func9, Try.ntmps9
  have x0 := X0.out.cell 0
  have x1 := X0.out.cell 1
  have x2 := X0.out.cell 2
  have y0 := Y0.out.cell 0
  have y1 := Y0.out.cell 1
  simp only [List.getElem?_toArray, List.getElem?_cons_zero, List.getElem?_cons_succ] at x0 x1 x2 y0 y1
  go_wp2_with fail
  refine (small_ok h A c _ O0.out HF.out).mono ?_
  rintro e w1 ⟨sm, rfl, hb⟩
  have HB1 := hid (HB0.out.trans (hb.mono HB0.out.size))
  have X1 := hid (X0.out.later hb)
  have Y1 := hid (Y0.out.later hb)
  have O1 := hid (O0.out.below hb)
  have R1 := hid (R0.out.below hb)
  have T1 := hid (T0.out.below hb)
  clear x0 x1 x2 y0 y1
  clear hb
  have x0 := X1.out.cell 0
  have x1 := X1.out.cell 1
  have x2 := X1.out.cell 2
  have y0 := Y1.out.cell 0
  have y1 := Y1.out.cell 1
  simp only [List.getElem?_toArray, List.getElem?_cons_zero, List.getElem?_cons_succ] at x0 x1 x2 y0 y1
  cases sm
  · go_wp2_with fail
    refine (fixed5_any _).mono ?_
    rintro e w2 ⟨rfl, hb⟩
    have HB2 := hid (HB1.out.trans (hb.mono HB1.out.size))
    have X2 := hid (X1.out.later hb)
    have Y2 := hid (Y1.out.later hb)
    have O2 := hid (O1.out.below hb)
    have R2 := hid (R1.out.below hb)
    have T2 := hid (T1.out.below hb)
    clear x0 x1 x2 y0 y1
    clear hb
    have x0 := X2.out.cell 0
    have x1 := X2.out.cell 1
    have x2 := X2.out.cell 2
    have y0 := Y2.out.cell 0
    have y1 := Y2.out.cell 1
    simp only [List.getElem?_toArray, List.getElem?_cons_zero, List.getElem?_cons_succ] at x0 x1 x2 y0 y1
    go_wp2_with fail
    go_ret
    exact ⟨rfl, HB2.out⟩
  · by_cases c1 : 40 < h.objs.length
    · go_wp2_with fail
      refine (fixed5_any _).mono ?_
      rintro e w2 ⟨rfl, hb⟩
      have HB2 := hid (HB1.out.trans (hb.mono HB1.out.size))
      have X2 := hid (X1.out.later hb)
      have Y2 := hid (Y1.out.later hb)
      have O2 := hid (O1.out.below hb)
      have R2 := hid (R1.out.below hb)
      have T2 := hid (T1.out.below hb)
      clear x0 x1 x2 y0 y1
      clear hb
      have x0 := X2.out.cell 0
      have x1 := X2.out.cell 1
      have x2 := X2.out.cell 2
      have y0 := Y2.out.cell 0
      have y1 := Y2.out.cell 1
      simp only [List.getElem?_toArray, List.getElem?_cons_zero, List.getElem?_cons_succ] at x0 x1 x2 y0 y1
      go_wp2_with fail
      go_ret
      exact ⟨rfl, HB2.out⟩
    · by_cases c2 : 100 < rs.length
      · go_wp2_with fail
        refine (fixed5_any _).mono ?_
        rintro e w2 ⟨rfl, hb⟩
        have HB2 := hid (HB1.out.trans (hb.mono HB1.out.size))
        have X2 := hid (X1.out.later hb)
        have Y2 := hid (Y1.out.later hb)
        have O2 := hid (O1.out.below hb)
        have R2 := hid (R1.out.below hb)
        have T2 := hid (T1.out.below hb)
        clear x0 x1 x2 y0 y1
        clear hb
        have x0 := X2.out.cell 0
        have x1 := X2.out.cell 1
        have x2 := X2.out.cell 2
        have y0 := Y2.out.cell 0
        have y1 := Y2.out.cell 1
        simp only [List.getElem?_toArray, List.getElem?_cons_zero, List.getElem?_cons_succ] at x0 x1 x2 y0 y1
        go_wp2_with fail
        go_ret
        exact ⟨rfl, HB2.out⟩
      · by_cases c3 : 100 < xs.length
        · go_wp2_with fail
          refine (fixed5_any _).mono ?_
          rintro e w2 ⟨rfl, hb⟩
          have HB2 := hid (HB1.out.trans (hb.mono HB1.out.size))
          have X2 := hid (X1.out.later hb)
          have Y2 := hid (Y1.out.later hb)
          have O2 := hid (O1.out.below hb)
          have R2 := hid (R1.out.below hb)
          have T2 := hid (T1.out.below hb)
          clear x0 x1 x2 y0 y1
          clear hb
          have x0 := X2.out.cell 0
          have x1 := X2.out.cell 1
          have x2 := X2.out.cell 2
          have y0 := Y2.out.cell 0
          have y1 := Y2.out.cell 1
          simp only [List.getElem?_toArray, List.getElem?_cons_zero, List.getElem?_cons_succ] at x0 x1 x2 y0 y1
          go_wp2_with fail
          go_ret
          exact ⟨rfl, HB2.out⟩
        · have htl := tabL_le h rs
          have hcl := coL_le h rs
          have KF := hid (coH_fit h rs)
          obtain ⟨k, hk⟩ : ∃ k, k = coH h rs := ⟨_, rfl⟩
          obtain ⟨L, hL⟩ : ∃ L, L = coL h rs := ⟨_, rfl⟩
          obtain ⟨t, ht⟩ : ∃ t, t = tabL h rs := ⟨_, rfl⟩
          obtain ⟨en, hen⟩ : ∃ en, en = liE h rs := ⟨_, rfl⟩
          obtain ⟨vv, hvv⟩ : ∃ vv, vv = vaV xs v := ⟨_, rfl⟩
          obtain ⟨vb, hvb⟩ : ∃ vb, vb = vaB xs v := ⟨_, rfl⟩
          rw [← hk] at KF
          rw [← hL] at hcl
          rw [← ht] at htl
          have HK := hid hk
          have HL := hid hL
          have HT := hid ht
          have HE := hid hen
          have HV := hid hvv
          have HV2 := hid hvb
          clear hk hL ht hen hvv hvb
          go_wp2_with fail
          refine (table_any h rs A R c d _ O1.out HF.out R1.out (by omega)).mono ?_
          rintro e w2 ⟨A2, c2, rfl, hi, -, -, hb⟩
          rw [← HE.out, ← HT.out]
          rw [← HT.out] at hi
          have HB2 := hid (HB1.out.trans (hb.mono HB1.out.size))
          have X2 := hid (X1.out.later hb)
          have Y2 := hid (Y1.out.later hb)
          have O2 := hid (O1.out.below hb)
          have R2 := hid (R1.out.below hb)
          have T2 := hid (T1.out.below hb)
          have LT12 := hid (hi)
          clear x0 x1 x2 y0 y1
          clear hb
          clear hi
          have x0 := X2.out.cell 0
          have x1 := X2.out.cell 1
          have x2 := X2.out.cell 2
          have y0 := Y2.out.cell 0
          have y1 := Y2.out.cell 1
          simp only [List.getElem?_toArray, List.getElem?_cons_zero, List.getElem?_cons_succ] at x0 x1 x2 y0 y1
          go_wp2_with fail
          refine (rtable_any h rs A R c d _ O2.out HF.out R2.out (by omega)).mono ?_
          rintro e w3 ⟨A3, c3, rfl, hi, -, -, hb⟩
          rw [← HE.out, ← HT.out]
          rw [← HT.out] at hi
          have HB3 := hid (HB2.out.trans (hb.mono HB2.out.size))
          have X3 := hid (X2.out.later hb)
          have Y3 := hid (Y2.out.later hb)
          have O3 := hid (O2.out.below hb)
          have R3 := hid (R2.out.below hb)
          have T3 := hid (T2.out.below hb)
          have LT13 := hid (LT12.out.below hb)
          have LT23 := hid (hi)
          clear x0 x1 x2 y0 y1
          clear hb
          clear hi
          have x0 := X3.out.cell 0
          have x1 := X3.out.cell 1
          have x2 := X3.out.cell 2
          have y0 := Y3.out.cell 0
          have y1 := Y3.out.cell 1
          simp only [List.getElem?_toArray, List.getElem?_cons_zero, List.getElem?_cons_succ] at x0 x1 x2 y0 y1
          go_wp2_with fail
          refine (compact_any h rs A R c d _ O3.out HF.out R3.out (by omega)).mono ?_
          rintro e w4 ⟨A4, c4, P4, d4, rfl, ho, hi, hb⟩
          rw [← HE.out, ← HK.out, ← HL.out]
          rw [← HK.out] at ho
          rw [← HL.out] at hi
          have HAL := hid (below_alloc w4 (.cells #[Value.slice A4 k.objs.length c4, Value.int .i64 k.cap, Value.int .i64 k.last] 24))
          have HB4 := hid ((HB3.out.trans (hb.mono HB3.out.size)).trans (HAL.out.mono (Nat.le_trans HB3.out.size hb.size)))
          have X4 := hid ((X3.out.later hb).later HAL.out)
          have Y4 := hid ((Y3.out.later hb).later HAL.out)
          have O4 := hid ((O3.out.below hb).below HAL.out)
          have R4 := hid ((R3.out.below hb).below HAL.out)
          have T4 := hid ((T3.out.below hb).below HAL.out)
          have LT14 := hid ((LT13.out.below hb).below HAL.out)
          have LT24 := hid ((LT23.out.below hb).below HAL.out)
          have Ga4 := hid (Lies.new w4 24 #[Value.slice A4 k.objs.length c4, Value.int .i64 k.cap, Value.int .i64 k.last])
          have OK14 := hid (ho.below HAL.out)
          have LL14 := hid (hi.below HAL.out)
          clear x0 x1 x2 y0 y1
          clear hb
          clear ho hi HAL
          have x0 := X4.out.cell 0
          have x1 := X4.out.cell 1
          have x2 := X4.out.cell 2
          have y0 := Y4.out.cell 0
          have y1 := Y4.out.cell 1
          have g0 := Ga4.out.cell 0
          have g1 := Ga4.out.cell 1
          have g2 := Ga4.out.cell 2
          simp only [List.getElem?_toArray, List.getElem?_cons_zero, List.getElem?_cons_succ] at x0 x1 x2 y0 y1 g0 g1 g2
          go_wp2_with fail
          refine (rcompact_any h rs A R c d _ O4.out HF.out R4.out (by omega)).mono ?_
          rintro e w5 ⟨A5, c5, P5, d5, rfl, ho, hi, hb⟩
          rw [← HE.out, ← HK.out, ← HL.out]
          rw [← HK.out] at ho
          rw [← HL.out] at hi
          have HAL := hid (below_alloc w5 (.cells #[Value.slice A5 k.objs.length c5, Value.int .i64 k.cap, Value.int .i64 k.last] 24))
          have HB5 := hid ((HB4.out.trans (hb.mono HB4.out.size)).trans (HAL.out.mono (Nat.le_trans HB4.out.size hb.size)))
          have X5 := hid ((X4.out.later hb).later HAL.out)
          have Y5 := hid ((Y4.out.later hb).later HAL.out)
          have Ga5 := hid ((Ga4.out.later hb).later HAL.out)
          have O5 := hid ((O4.out.below hb).below HAL.out)
          have R5 := hid ((R4.out.below hb).below HAL.out)
          have T5 := hid ((T4.out.below hb).below HAL.out)
          have LT15 := hid ((LT14.out.below hb).below HAL.out)
          have LT25 := hid ((LT24.out.below hb).below HAL.out)
          have OK15 := hid ((OK14.out.below hb).below HAL.out)
          have LL15 := hid ((LL14.out.below hb).below HAL.out)
          have Gb5 := hid (Lies.new w5 24 #[Value.slice A5 k.objs.length c5, Value.int .i64 k.cap, Value.int .i64 k.last])
          have OK25 := hid (ho.below HAL.out)
          have LL25 := hid (hi.below HAL.out)
          clear x0 x1 x2 y0 y1 g0 g1 g2
          clear hb
          clear ho hi HAL
          have x0 := X5.out.cell 0
          have x1 := X5.out.cell 1
          have x2 := X5.out.cell 2
          have y0 := Y5.out.cell 0
          have y1 := Y5.out.cell 1
          have g0 := Ga5.out.cell 0
          have g1 := Ga5.out.cell 1
          have g2 := Ga5.out.cell 2
          have k0 := Gb5.out.cell 0
          have k1 := Gb5.out.cell 1
          have k2 := Gb5.out.cell 2
          simp only [List.getElem?_toArray, List.getElem?_cons_zero, List.getElem?_cons_succ] at x0 x1 x2 y0 y1 g0 g1 g2 k0 k1 k2
          go_wp2_with fail
          refine (value_any xs v AT cT _ T5.out (by omega)).mono ?_
          rintro e w99 ⟨rfl, hw⟩
          rw [hw, ← HV.out, ← HV2.out]
          clear hw
          go_wp2_with fail
          refine (rvalue_any xs v AT cT _ T5.out (by omega)).mono ?_
          rintro e w99 ⟨rfl, hw⟩
          rw [hw, ← HV.out, ← HV2.out]
          clear hw
          go_wp2_with fail
          refine (fixed5_any _).mono ?_
          rintro e w6 ⟨rfl, hb⟩
          have HB6 := hid (HB5.out.trans (hb.mono HB5.out.size))
          have X6 := hid (X5.out.later hb)
          have Y6 := hid (Y5.out.later hb)
          have Ga6 := hid (Ga5.out.later hb)
          have Gb6 := hid (Gb5.out.later hb)
          have O6 := hid (O5.out.below hb)
          have R6 := hid (R5.out.below hb)
          have T6 := hid (T5.out.below hb)
          have LT16 := hid (LT15.out.below hb)
          have LT26 := hid (LT25.out.below hb)
          have OK16 := hid (OK15.out.below hb)
          have LL16 := hid (LL15.out.below hb)
          have OK26 := hid (OK25.out.below hb)
          have LL26 := hid (LL25.out.below hb)
          clear x0 x1 x2 y0 y1 g0 g1 g2 k0 k1 k2
          clear hb
          have x0 := X6.out.cell 0
          have x1 := X6.out.cell 1
          have x2 := X6.out.cell 2
          have y0 := Y6.out.cell 0
          have y1 := Y6.out.cell 1
          have g0 := Ga6.out.cell 0
          have g1 := Ga6.out.cell 1
          have g2 := Ga6.out.cell 2
          have k0 := Gb6.out.cell 0
          have k1 := Gb6.out.cell 1
          have k2 := Gb6.out.cell 2
          simp only [List.getElem?_toArray, List.getElem?_cons_zero, List.getElem?_cons_succ] at x0 x1 x2 y0 y1 g0 g1 g2 k0 k1 k2
          go_wp2_with fail
          refine (ints5 (rfl : t = t) A2 A3 c2 c3 _ LT16.out LT26.out (by omega)).mono ?_
          rintro e w7 ⟨rfl, hb⟩
          have HB7 := hid (HB6.out.trans (hb.mono HB6.out.size))
          have X7 := hid (X6.out.later hb)
          have Y7 := hid (Y6.out.later hb)
          have Ga7 := hid (Ga6.out.later hb)
          have Gb7 := hid (Gb6.out.later hb)
          have O7 := hid (O6.out.below hb)
          have R7 := hid (R6.out.below hb)
          have T7 := hid (T6.out.below hb)
          have LT17 := hid (LT16.out.below hb)
          have LT27 := hid (LT26.out.below hb)
          have OK17 := hid (OK16.out.below hb)
          have LL17 := hid (LL16.out.below hb)
          have OK27 := hid (OK26.out.below hb)
          have LL27 := hid (LL26.out.below hb)
          clear x0 x1 x2 y0 y1 g0 g1 g2 k0 k1 k2
          clear hb
          have x0 := X7.out.cell 0
          have x1 := X7.out.cell 1
          have x2 := X7.out.cell 2
          have y0 := Y7.out.cell 0
          have y1 := Y7.out.cell 1
          have g0 := Ga7.out.cell 0
          have g1 := Ga7.out.cell 1
          have g2 := Ga7.out.cell 2
          have k0 := Gb7.out.cell 0
          have k1 := Gb7.out.cell 1
          have k2 := Gb7.out.cell 2
          simp only [List.getElem?_toArray, List.getElem?_cons_zero, List.getElem?_cons_succ] at x0 x1 x2 y0 y1 g0 g1 g2 k0 k1 k2
          go_wp2_with fail
          refine (same_any k A4 A5 c4 c5 _ OK17.out OK27.out KF.out).mono ?_
          rintro e w8 ⟨rfl, hb⟩
          have HB8 := hid (HB7.out.trans (hb.mono HB7.out.size))
          have X8 := hid (X7.out.later hb)
          have Y8 := hid (Y7.out.later hb)
          have Ga8 := hid (Ga7.out.later hb)
          have Gb8 := hid (Gb7.out.later hb)
          have O8 := hid (O7.out.below hb)
          have R8 := hid (R7.out.below hb)
          have T8 := hid (T7.out.below hb)
          have LT18 := hid (LT17.out.below hb)
          have LT28 := hid (LT27.out.below hb)
          have OK18 := hid (OK17.out.below hb)
          have LL18 := hid (LL17.out.below hb)
          have OK28 := hid (OK27.out.below hb)
          have LL28 := hid (LL27.out.below hb)
          clear x0 x1 x2 y0 y1 g0 g1 g2 k0 k1 k2
          clear hb
          have x0 := X8.out.cell 0
          have x1 := X8.out.cell 1
          have x2 := X8.out.cell 2
          have y0 := Y8.out.cell 0
          have y1 := Y8.out.cell 1
          have g0 := Ga8.out.cell 0
          have g1 := Ga8.out.cell 1
          have g2 := Ga8.out.cell 2
          have k0 := Gb8.out.cell 0
          have k1 := Gb8.out.cell 1
          have k2 := Gb8.out.cell 2
          simp only [List.getElem?_toArray, List.getElem?_cons_zero, List.getElem?_cons_succ] at x0 x1 x2 y0 y1 g0 g1 g2 k0 k1 k2
          go_wp2_with fail
          refine (ints5 (rfl : L = L) P4 P5 d4 d5 _ LL18.out LL28.out (by omega)).mono ?_
          rintro e w9 ⟨rfl, hb⟩
          have HB9 := hid (HB8.out.trans (hb.mono HB8.out.size))
          have X9 := hid (X8.out.later hb)
          have Y9 := hid (Y8.out.later hb)
          have Ga9 := hid (Ga8.out.later hb)
          have Gb9 := hid (Gb8.out.later hb)
          have O9 := hid (O8.out.below hb)
          have R9 := hid (R8.out.below hb)
          have T9 := hid (T8.out.below hb)
          have LT19 := hid (LT18.out.below hb)
          have LT29 := hid (LT28.out.below hb)
          have OK19 := hid (OK18.out.below hb)
          have LL19 := hid (LL18.out.below hb)
          have OK29 := hid (OK28.out.below hb)
          have LL29 := hid (LL28.out.below hb)
          clear x0 x1 x2 y0 y1 g0 g1 g2 k0 k1 k2
          clear hb
          have x0 := X9.out.cell 0
          have x1 := X9.out.cell 1
          have x2 := X9.out.cell 2
          have y0 := Y9.out.cell 0
          have y1 := Y9.out.cell 1
          have g0 := Ga9.out.cell 0
          have g1 := Ga9.out.cell 1
          have g2 := Ga9.out.cell 2
          have k0 := Gb9.out.cell 0
          have k1 := Gb9.out.cell 1
          have k2 := Gb9.out.cell 2
          simp only [List.getElem?_toArray, List.getElem?_cons_zero, List.getElem?_cons_succ] at x0 x1 x2 y0 y1 g0 g1 g2 k0 k1 k2
          go_wp2_with fail
          go_ret
          exact ⟨rfl, HB9.out⟩
end Go.Proofs.Ytelljlmjhnjpiaa
